/-
  The walk of sam's Record.
-/
import Derived.Test.YtdhphipdpjhhbaaGreatDoorReadF
import Derived.Test.YtdhphipdpjhhbaaGreatDoorSplitF
namespace Go.Proofs.YtdhphipdpjhhbaaGreatDoor
open Go.RowKit

/-- A line's record and the error. -/
def recA (l : List UInt8) : Rec × Int := match recB l with
  | none => (zeroR, 51)
  | some r => (r, 0)
theorem recA_none {l : List UInt8} (h : recB l = none) : recA l = (zeroR, 51) := by rw [recA, h]
theorem recA_some {l : List UInt8} {r : Rec} (h : recB l = some r) : recA l = (r, 0) := by rw [recA, h]
/-- What Record leaves. -/
def RecPost (a : Rec × Int) (w : World) (e : Ending) (w' : World) : Prop :=
  ∃ v : RV, e = .returned (.tuple #[v.val, .int .i64 a.2]) ∧ v.R a.1.runs = a.1 ∧ w'.ownsRow w.heap.size 37 2 (.slice v.ao v.len v.cap) a.1.runs.length (rowCells a.1.runs) ∧ Below w.heap.size w w'
theorem okF_line {l : List UInt8} {r : Rec} (h : cuts 9 l = fieldsF r) : okF (cuts 9 l) = true ∧ padF (cuts 9 l) = twelveF r := by
  rw [h]
  unfold okF padF fieldsF twelveF scoreF
  cases hm : r.mapped with
  | false => simp [elevenF]
  | true => simp [elevenF, scoreT]
/-- From fields back to the line. -/
theorem line_of_pad {l : List UInt8} {r : Rec} (hok : okF (cuts 9 l) = true) (h : padF (cuts 9 l) = twelveF r) : lineR r = l := by
  refine line_of_cuts ?_
  unfold okF at hok
  unfold padF at h
  by_cases h11 : (cuts 9 l).length = 11
  · rw [if_pos h11] at h
    unfold twelveF at h
    have h2 := List.append_inj' h rfl
    rw [h2.1]
    have h3 : scoreF r = [] := by simpa using h2.2.symm
    unfold scoreF at h3
    unfold fieldsF
    split at h3
    · exact absurd h3 (scoreT_ne _)
    · rename_i hm; rw [if_neg hm]
  · rw [if_neg h11] at h
    simp [h11] at hok
    obtain ⟨h12, hlast⟩ := hok
    rw [h] at hlast ⊢
    unfold fieldsF
    split
    · rename_i hm; simp [twelveF, scoreF, hm]
    · rename_i hm; exact absurd (by simp [twelveF, scoreF, hm]) hlast
theorem recB_wrong {l : List UInt8} (h : okF (cuts 9 l) = false) : recB l = none := recB_none fun r hr hs hl => by
  have h0 : cuts 9 l = fieldsF r := by rw [← hl]; exact cuts_line hr
  have h1 := (okF_line h0).1
  rw [h] at h1; cases h1
theorem guard57 : Tryz.prog.eqGuardType Tryz.prog.depth 57 = false := by kernel_rfl
theorem fields57 : Tryz.prog.underlying 57 = some (.struct (Tryz.prog.fieldsOf 57)) := by kernel_rfl
theorem held57 : Tryz.prog.stoodInHeld 57 = false := by kernel_rfl
set_option maxRecDepth 20000 in
set_option maxHeartbeats 2000000 in
theorem equal_fields (f g : FV) (W : World) : (Op.equalIn 10000 57 f.val g.val).run Tryz.prog W = .ok (decide (f.L = g.L)) W := by
  obtain ⟨a0, a1, a2, a3, a4, a5, a6, a7, a8, a9, a10, a11⟩ := f
  obtain ⟨b0, b1, b2, b3, b4, b5, b6, b7, b8, b9, b10, b11⟩ := g
  simp only [FV.val]
  rw [show (10000 : Nat) = 9999 + 1 from rfl, run_equalIn_agg W 9999 57 _ _ fields57 held57]
  simp only [Program.fieldsOf, Tryz.underlying57]
  go_simp
  simp only [FV.L, FV.eleven, List.map_cons, List.map_nil, List.cons_append, List.nil_append, List.cons.injEq, ByteArray.toList_eq]
  by_cases h0 : a0.data.toList = b0.data.toList
  case neg => simp only [h0, if_false, false_and, decide_false]
  simp only [h0, if_true, true_and]
  by_cases h1 : a1.data.toList = b1.data.toList
  case neg => simp only [h1, if_false, false_and, decide_false]
  simp only [h1, if_true, true_and]
  by_cases h2 : a2.data.toList = b2.data.toList
  case neg => simp only [h2, if_false, false_and, decide_false]
  simp only [h2, if_true, true_and]
  by_cases h3 : a3.data.toList = b3.data.toList
  case neg => simp only [h3, if_false, false_and, decide_false]
  simp only [h3, if_true, true_and]
  by_cases h4 : a4.data.toList = b4.data.toList
  case neg => simp only [h4, if_false, false_and, decide_false]
  simp only [h4, if_true, true_and]
  by_cases h5 : a5.data.toList = b5.data.toList
  case neg => simp only [h5, if_false, false_and, decide_false]
  simp only [h5, if_true, true_and]
  by_cases h6 : a6.data.toList = b6.data.toList
  case neg => simp only [h6, if_false, false_and, decide_false]
  simp only [h6, if_true, true_and]
  by_cases h7 : a7.data.toList = b7.data.toList
  case neg => simp only [h7, if_false, false_and, decide_false]
  simp only [h7, if_true, true_and]
  by_cases h8 : a8.data.toList = b8.data.toList
  case neg => simp only [h8, if_false, false_and, decide_false]
  simp only [h8, if_true, true_and]
  by_cases h9 : a9.data.toList = b9.data.toList
  case neg => simp only [h9, if_false, false_and, decide_false]
  simp only [h9, if_true, true_and]
  by_cases h10 : a10.data.toList = b10.data.toList
  case neg => simp only [h10, if_false, false_and, decide_false]
  simp only [h10, if_true, true_and]
  by_cases h11 : a11.data.toList = b11.data.toList
  case neg => simp only [h11, if_false, false_and, decide_false]
  simp only [h11, if_true, true_and]
  simp
/-! By the fields -/
theorem readS_fit {n rf p rs b q s : List UInt8} {r : Rec} (h : readS n rf p rs b q s = some r) : fit64 r.score ∧ fit64 r.pos := by
  by_cases hs : s = []
  · rw [readS, if_pos hs] at h; cases h; have h0 : fit64 0 := ⟨by decide, by decide⟩; exact ⟨h0, h0⟩
  · rcases h1 : Lib.atoiAll p with z | _ | _
    · rcases h2 : Lib.atoiAll (Lib.trimPrefix s [65, 83, 58, 105, 58]) with y | _ | _
      · by_cases h3 : (parseA rs).2 = 0
        · rw [readS_ok hs h1 h2 h3] at h
          cases h
          exact ⟨Lib.atoiAll_bounds h2, Lib.atoiAll_bounds h1⟩
        · rw [readS_no hs (.inr (.inr h3))] at h; cases h
      · rw [readS_no hs (.inr (.inl fun z hz => by rw [h2] at hz; cases hz))] at h; cases h
      · rw [readS_no hs (.inr (.inl fun z hz => by rw [h2] at hz; cases hz))] at h; cases h
    · rw [readS_no hs (.inl fun z hz => by rw [h1] at hz; cases hz)] at h; cases h
    · rw [readS_no hs (.inl fun z hz => by rw [h1] at hz; cases hz)] at h; cases h
abbrev readV (f : FV) : Option Rec := readS f.name.data.toList f.ref.data.toList f.pos.data.toList f.runs.data.toList f.bases.data.toList f.quals.data.toList f.score.data.toList
theorem readV_line {l : List UInt8} {f : FV} {q : Rec} (hfL : f.L = padF (cuts 9 l)) (hq : recB l = some q) : readV f = some q ∧ rightR q = true ∧ twelveF q = f.L := by
  obtain ⟨h1, h2⟩ := recB_fields hq
  have h3 := (okF_line h1).2
  have h4 : f.L = twelveF q := by rw [hfL, h3]
  refine ⟨?_, (recB_spec hq).1, h4.symm⟩
  obtain ⟨e1, e2⟩ := FV.L_inj h4
  simp only [FV.eleven, List.map_cons, List.map_nil, elevenF, List.cons.injEq] at e1
  obtain ⟨a1, _, a3, a4, _, a6, _, _, _, a10, a11, _⟩ := e1
  unfold readV
  rw [a1, a3, a4, a6, a10, a11, e2]
  exact h2
theorem recB_no {l : List UInt8} {f : FV} (hfL : f.L = padF (cuts 9 l)) (h : readV f = none) : recB l = none := by
  cases hq : recB l with
  | none => rfl
  | some q => have := (readV_line hfL hq).1; rw [h] at this; cases this
theorem recB_bad {l : List UInt8} {f : FV} {r : Rec} (hfL : f.L = padF (cuts 9 l)) (h : readV f = some r) (hb : rightR r = false ∨ twelveF r ≠ f.L) : recB l = none := by
  cases hq : recB l with
  | none => rfl
  | some q =>
    obtain ⟨h1, h2, h3⟩ := readV_line hfL hq
    rw [h] at h1
    cases h1
    rcases hb with hb | hb
    · rw [hb] at h2; cases h2
    · exact absurd h3 hb
theorem recB_good {l : List UInt8} {f : FV} {r : Rec} (hok : okF (cuts 9 l) = true) (hfL : f.L = padF (cuts 9 l)) (h : readV f = some r) (h1 : rightR r = true) (h2 : twelveF r = f.L) : recB l = some r :=
  recB_of h1 (readS_fit h).1 (line_of_pad hok (by rw [← hfL, h2]))
theorem readS_sizes {n rf p rs b q s : List UInt8} {r : Rec} (h : readS n rf p rs b q s = some r) : r.name = n ∧ r.bases = b ∧ r.quals = q ∧ (r.ref = rf ∨ r.ref = []) := by
  by_cases hs : s = []
  · rw [readS, if_pos hs] at h; cases h; exact ⟨rfl, rfl, rfl, .inr rfl⟩
  · rcases h1 : Lib.atoiAll p with z | _ | _
    · rcases h2 : Lib.atoiAll (Lib.trimPrefix s [65, 83, 58, 105, 58]) with y | _ | _
      · by_cases h3 : (parseA rs).2 = 0
        · rw [readS_ok hs h1 h2 h3] at h
          cases h
          exact ⟨rfl, rfl, rfl, .inl rfl⟩
        · rw [readS_no hs (.inr (.inr h3))] at h; cases h
      · rw [readS_no hs (.inr (.inl fun z hz => by rw [h2] at hz; cases hz))] at h; cases h
      · rw [readS_no hs (.inr (.inl fun z hz => by rw [h2] at hz; cases hz))] at h; cases h
    · rw [readS_no hs (.inl fun z hz => by rw [h1] at hz; cases hz)] at h; cases h
    · rw [readS_no hs (.inl fun z hz => by rw [h1] at hz; cases hz)] at h; cases h
theorem parseA_fit (s : List UInt8) : ∀ x ∈ (parseA s).1, fitI x.2 := by
  intro x hx
  unfold parseA at hx
  split at hx
  · cases hx
  · unfold finA at hx
    split at hx
    · cases hx
    · split at hx
      · rename_i h
        have := right_each h.2 x hx
        exact ⟨by omega, by omega⟩
      · cases hx
theorem readS_runs {n rf p rs b q s : List UInt8} {r : Rec} (h : readS n rf p rs b q s = some r) : ∀ x ∈ r.runs, fitI x.2 := by
  by_cases hs : s = []
  · rw [readS, if_pos hs] at h; cases h; exact fun x hx => by cases hx
  · rcases h1 : Lib.atoiAll p with z | _ | _
    · rcases h2 : Lib.atoiAll (Lib.trimPrefix s [65, 83, 58, 105, 58]) with y | _ | _
      · by_cases h3 : (parseA rs).2 = 0
        · rw [readS_ok hs h1 h2 h3] at h
          cases h
          exact parseA_fit rs
        · rw [readS_no hs (.inr (.inr h3))] at h; cases h
      · rw [readS_no hs (.inr (.inl fun z hz => by rw [h2] at hz; cases hz))] at h; cases h
      · rw [readS_no hs (.inr (.inl fun z hz => by rw [h2] at hz; cases hz))] at h; cases h
    · rw [readS_no hs (.inl fun z hz => by rw [h1] at hz; cases hz)] at h; cases h
    · rw [readS_no hs (.inl fun z hz => by rw [h1] at hz; cases hz)] at h; cases h
end Go.Proofs.YtdhphipdpjhhbaaGreatDoor
