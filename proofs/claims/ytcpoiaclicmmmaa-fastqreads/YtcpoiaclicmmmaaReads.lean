/-
  FastqReads is proved for every text: fastq.Parse answers as the document says, and again after its first answer was written over. No condition.
-/
import Derived.Test.YtcpoiaclicmmmaaRows
import Derived.Test.YtcpoiaclicmmmaaAwake
import Derived.Test.YtcpoiaclicmmmaaRefParse2
import Derived.WalkKit
import Derived.ProofKit
import Derived.OpenShut
import Derived.ShutString
import Derived.ChangeOld
import Derived.Below
namespace Go.Proofs.Ytcpoiaclicmmmaa
open Go.RowKit

/-- A row whose block lies below a bound, beside one whose block lies at it or above. -/
theorem owned_setBelow {w : World} {B : Nat} {e : TypeId} {size : Nat} {v : Value} {n : Nat} {xs : List Value} (h : w.ownsRow B e size v n xs) {g i : Nat} (hg : g < B) (u : Value) : (w.setCell ⟨g, i, none⟩ u).ownsRow B e size v n xs :=
  owned_of_block h fun k cur hk _ => Below.heap_setCell w _ u k (fun e' => by
    have e'' : k = g := e'
    have := (h.lt k hk).1
    omega)
theorem owned_grownBelow {w w' : World} {B : Nat} {e : TypeId} {size : Nat} {v : Value} {n : Nat} {xs : List Value} (h : w.ownsRow B e size v n xs) {row : Option Nat} (hr : ∀ k, row = some k → k < B) (hg : w.grownBy w' row) : w'.ownsRow B e size v n xs :=
  owned_of_block h fun k cur hk hc => hg.block k (lt_block hc) (fun e' => by
    have h1 := (h.lt k hk).1
    have h2 := hr k e'.symm
    omega)
theorem set4 (qs : List Rd) (k : Nat) (a b c d : ByteArray) : ∃ ps : List Rd, ps.length = qs.length ∧ ((((rowCells qs).set (k * 4) (.string a)).set (k * 4 + 1) (.string b)).set (k * 4 + 2) (.string c)).set (k * 4 + 3) (.string d) = rowCells ps := by
  induction qs generalizing k with
  | nil => exact ⟨[], rfl, by simp [rowCells]⟩
  | cons q r ih =>
    cases k with
    | zero => exact ⟨(a, b, c, d) :: r, rfl, rfl⟩
    | succ k =>
      obtain ⟨ps, h1, h2⟩ := ih k
      refine ⟨q :: ps, by simp [h1], ?_⟩
      have e : rowCells (q :: r) = .string q.1 :: .string q.2.1 :: .string q.2.2.1 :: .string q.2.2.2 :: rowCells r := by simp [rowCells, rdCells]
      have e2 : rowCells (q :: ps) = .string q.1 :: .string q.2.1 :: .string q.2.2.1 :: .string q.2.2.2 :: rowCells ps := by simp [rowCells, rdCells]
      rw [e, e2, ← h2, show (k + 1) * 4 = k * 4 + 4 by omega]
      rfl

theorem stepQ_few {st st' : List Pr} {ph ph' : Ph} {l : List UInt8} (h : stepQ st ph l = some (st', ph')) (h1 : st.length ≤ 256) (h2 : ph.inside = true → st.length < 256) : st'.length ≤ 256 ∧ (ph'.inside = true → st'.length < 256) := by
  cases ph using Ph.elim with
  | p0 =>
    by_cases h0 : l = []
    · subst h0; cases h; exact ⟨h1, h2⟩
    · rw [stepQ_first h0] at h
      split at h
      · rename_i hf
        cases h
        simp only [firstB, Bool.and_eq_true, decide_eq_true_eq] at hf
        exact ⟨h1, fun _ => hf.2.2⟩
      · cases h
  | p1 t =>
    have h' : (if basesB l then some (st, Ph.p2 t l) else none) = some (st', ph') := h
    split at h'
    · cases h'; exact ⟨h1, fun _ => h2 rfl⟩
    · cases h'
  | p2 t b =>
    have h' : (if markB t l then some (st, Ph.p3 t b) else none) = some (st', ph') := h
    split at h'
    · cases h'; exact ⟨h1, fun _ => h2 rfl⟩
    · cases h'
  | p3 t b =>
    have h' : (if lastB b l then some (readOf t b l :: st, Ph.p0) else none) = some (st', ph') := h
    split at h'
    · cases h'
      have := h2 rfl
      exact ⟨by simp; omega, fun h => by cases h⟩
    · cases h'
theorem goQ_few (ls : List (List UInt8)) : ∀ (st : List Pr) (ph : Ph) (k : Nat), st.length ≤ 256 → (ph.inside = true → st.length < 256) → (goQ st ph k ls).1.length ≤ 256 := by
  induction ls with
  | nil =>
    intro st ph k h _
    unfold goQ
    split <;> simp [h]
  | cons l ls ih =>
    intro st ph k h h2
    unfold goQ
    split
    · simp
    · rename_i s hs
      obtain ⟨st', ph'⟩ := s
      obtain ⟨h3, h4⟩ := stepQ_few hs h h2
      exact ih st' ph' _ h3 h4
theorem parse_few (t : List UInt8) : (parseQ t).1.length ≤ 256 := by
  unfold parseQ
  split
  · simp
  · exact goQ_few _ _ _ _ (by simp) (fun h => by cases h)

set_option maxRecDepth 100000 in
set_option maxHeartbeats 8000000 in
theorem reads_walk (text : ByteArray) (w : World) (_ : text.size ≤ maxLen) : Calls Try.prog 3 #[.string text] w fun e w' => e = .returned (.bool true) ∧ Below w.heap.size w w' := by
  go_enter Try.func3, Try.ntmps3
  go_wp2_with fail
  refine (awake_calls w).mono ?_
  rintro e w1 ⟨rfl, hb1⟩
  have HB1 : Hid (Below w.heap.size w w1) := hb1
  clear hb1
  go_wp2_with fail
  refine (parse_calls text w1).mono ?_
  rintro e w2 ⟨lv, qs, rfl, hlo, hlq, hb2⟩
  generalize hpn : parseQ text.data.toList = pr at *
  have HPN : Hid (parseQ text.data.toList = pr) := hpn
  clear hpn
  obtain ⟨lao, lcap, rfl⟩ := owned_shape hlo
  have HLO2 : Hid (w2.ownsRow w1.heap.size 29 4 (.slice lao qs.length lcap) qs.length (rowCells qs)) := hlo
  have HLQ : Hid (qs.map Rd.P = pr.1) := hlq
  have HB2 : Hid (Below w.heap.size w w2) := HB1.out.trans (hb2.mono HB1.out.size)
  have HS12 : Hid (w1.heap.size ≤ w2.heap.size) := hb2.size
  clear hlo hlq hb2
  have HN64 : Hid (qs.length ≤ 256) := by
    have h1 := congrArg List.length HLQ.out
    rw [List.length_map, ← HPN.out] at h1
    show _ ≤ _
    rw [h1]; exact parse_few _
  go_wp2_with fail
  refine (refParse_calls text w2).mono ?_
  rintro e w3 ⟨rv, rs, rfl, hro, hrq, hb3⟩
  rw [HPN.out] at hrq ⊢
  obtain ⟨rao, rcap, rfl⟩ := owned_shape hro
  have HLO3 : Hid (w3.ownsRow w1.heap.size 29 4 (.slice lao qs.length lcap) qs.length (rowCells qs)) := owned_below HLO2.out hb3
  have HRO3 : Hid (w3.ownsRow w2.heap.size 29 4 (.slice rao rs.length rcap) rs.length (rowCells rs)) := hro
  have HRQ : Hid (rs.map Rd.P = pr.1) := hrq
  have HB3 : Hid (Below w.heap.size w w3) := HB2.out.trans (hb3.mono HB2.out.size)
  have HS23 : Hid (w2.heap.size ≤ w3.heap.size) := hb3.size
  have HSame : Hid (Calls Try.prog 10 #[.slice lao qs.length lcap, .slice rao rs.length rcap] w3 fun e w' => e = .returned (.bool true) ∧ ∃ k, w' = w3.drewN k) := by
    have h1 := same_calls lao rao _ _ lcap rcap qs rs w3 (owned_rds HLO3.out) (owned_rds HRO3.out)
    rw [decide_eq_true (by rw [HLQ.out, HRQ.out])] at h1
    exact h1
  have HLB : Hid (∀ k, (Value.slice lao qs.length lcap).ownBlock = some k → w1.heap.size ≤ k ∧ k < w2.heap.size) := fun k hk => HLO2.out.lt k hk
  clear hro hrq hb3 HLO2
  generalize hln : qs.length = n at *
  generalize hrn : rs.length = m at *
  have HLN : Hid (qs.length = n) := hln
  have HRN : Hid (rs.length = m) := hrn
  clear hln hrn
  have hn64 : n ≤ 256 := HN64.out
  go_wp2_with fail
  refine HSame.out.mono ?_
  rintro e w4 ⟨rfl, kd, hw4⟩
  have hb4 : Below w3.heap.size w3 w4 := by rw [hw4]; exact below_drewN (Below.refl _ _) kd
  have HLO4 : Hid (w4.ownsRow w1.heap.size 29 4 (.slice lao n lcap) n (rowCells qs)) := owned_below HLO3.out hb4
  have HRO4 : Hid (w4.ownsRow w2.heap.size 29 4 (.slice rao m rcap) m (rowCells rs)) := owned_below HRO3.out hb4
  have HB4 : Hid (Below w.heap.size w w4) := HB3.out.trans (hb4.mono HB3.out.size)
  have HS24 : Hid (w2.heap.size ≤ w4.heap.size) := Nat.le_trans HS23.out hb4.size
  clear hw4 hb4 HLO3 HRO3 HB3 HSame
  go_wp2_with fail
  go_loopw [11] (fun i wr => ∃ (k : Nat) (ps : List Rd), k ≤ n ∧ i = .int .i64 k ∧ ps.length = n ∧ wr.ownsRow w1.heap.size 29 4 (.slice lao n lcap) n (rowCells ps) ∧ wr.ownsRow w2.heap.size 29 4 (.slice rao m rcap) m (rowCells rs) ∧ Below w.heap.size w wr ∧ w2.heap.size ≤ wr.heap.size) (fun i _ => n - (intOf i).toNat)
  case atStart => exact ⟨0, qs, Nat.zero_le _, rfl, HLN.out, HLO4.out, HRO4.out, HB4.out, HS24.out⟩
  case round =>
    obtain ⟨k, ps, hk, rfl, hpl, hlo, hro, hbel, hs2⟩ := hrel
    have HLO : Hid (wr.ownsRow w1.heap.size 29 4 (.slice lao n lcap) n (rowCells ps)) := hlo
    have HRO : Hid (wr.ownsRow w2.heap.size 29 4 (.slice rao m rcap) m (rowCells rs)) := hro
    have HBe : Hid (Below w.heap.size w wr) := hbel
    have HPL : Hid (ps.length = n) := hpl
    clear hlo hro hbel hpl HLO4 HRO4 HB4 HS24
    by_cases hlt : k < n
    · have hd : decide ((k : Int) < (n : Int)) = true := by simp; omega
      obtain ⟨g, rfl⟩ : ∃ g, lao = some ⟨g, 0, none⟩ := by
        rcases HLO.out.2 with ⟨hv, hz⟩ | ⟨g, cap', cur, hv, _⟩
        · omega
        · cases hv; exact ⟨g, rfl⟩
      obtain ⟨q, hq⟩ : ∃ q, ps[k]? = some q := ⟨_, List.getElem?_eq_getElem (by rw [HPL.out]; exact hlt)⟩
      obtain ⟨r1, r2, r3, r4⟩ := rowCells_get ps k q hq
      obtain ⟨c1, f1⟩ := owned_cells HLO.out _ _ r1
      obtain ⟨c2, f2⟩ := owned_cells HLO.out _ _ r2
      obtain ⟨c3, f3⟩ := owned_cells HLO.out _ _ r3
      obtain ⟨c4, f4⟩ := owned_cells HLO.out _ _ r4
      obtain ⟨hg1, hg2⟩ := HLB.out g rfl
      clear hq r1 r2 r3 r4
      go_wp2
      go_roundw
      case rel =>
        have h1 := owned_set (owned_set (owned_set (owned_set HLO.out (k * 4) (.string ⟨#[109, 97, 114, 107]⟩)) (k * 4 + 1) (.string ⟨#[]⟩)) (k * 4 + 2) (.string ⟨#[]⟩)) (k * 4 + 3) (.string ⟨#[]⟩)
        obtain ⟨ps', l1, l2⟩ := set4 ps k ⟨#[109, 97, 114, 107]⟩ ⟨#[]⟩ ⟨#[]⟩ ⟨#[]⟩
        rw [l2] at h1
        have hgw : w.heap.size ≤ g := Nat.le_trans HB1.out.size hg1
        refine ⟨k + 1, ps', by omega, by go_num, by rw [l1]; exact HPL.out, h1, owned_setBelow (owned_setBelow (owned_setBelow (owned_setBelow HRO.out hg2 _) hg2 _) hg2 _) hg2 _, (((HBe.out.setCell (p := (⟨g, k * 4, none⟩ : Addr)) hgw _).setCell (p := (⟨g, k * 4 + 1, none⟩ : Addr)) hgw _).setCell (p := (⟨g, k * 4 + 2, none⟩ : Addr)) hgw _).setCell (p := (⟨g, k * 4 + 3, none⟩ : Addr)) hgw _, ?_⟩
        simpa using hs2
      case measure => simp [intOf]; omega
    · have hd : decide ((k : Int) < (n : Int)) = false := by simp; omega
      obtain ⟨i0, hi, hz0, hz1, hz2⟩ := info_parts info29
      have hs1 : w1.heap.size ≤ wr.heap.size := Nat.le_trans HS12.out hs2
      go_wp2_with (at_builtin; go_loud (refine wpList_append_own _ rfl _ _ 23 rfl w1.heap.size 29 i0 _ 4 64 Try.underlying23 hi hz0 hz1 hz2 rfl (by decide) _ _ _ rfl (HLO.out.alloc _) ⟨_, 0, none⟩ 1 1 (rdCells (⟨#[109, 111, 114, 101]⟩, ⟨#[]⟩, ⟨#[]⟩, ⟨#[]⟩)) rfl rfl (new_cells _ (⟨#[109, 111, 114, 101]⟩, ⟨#[]⟩, ⟨#[]⟩, ⟨#[]⟩)) (rd_oneCell (⟨#[109, 111, 114, 101]⟩, ⟨#[]⟩, ⟨#[]⟩, ⟨#[]⟩)) ?c3 ?c4 ?c5 ?_))
      case c3 => unfold maxLen; omega
      case c4 => omega
      case c5 => simp; omega
      intro v' w5 ho5 hg5 _
      have HRO5 : Hid (w5.ownsRow w2.heap.size 29 4 (.slice rao m rcap) m (rowCells rs)) := owned_grownBelow (HRO.out.alloc _) (fun k hk => (HLB.out k hk).2) hg5
      have HB5 : Hid (Below w.heap.size w w5) := (HBe.out.alloc HBe.out.size _).grown hg5 (by have := HBe.out.size; simp; omega) (fun k hk => Nat.le_trans HB1.out.size (HLB.out k hk).1)
      clear ho5 hg5 HLO HRO HBe HLB
      go_wp2_with fail
      refine (parse_calls text w5).mono ?_
      rintro e w6 ⟨mv, ms, rfl, hmo, hmq, hb6⟩
      rw [HPN.out] at hmq ⊢
      obtain ⟨mao, mcap, rfl⟩ := owned_shape hmo
      have hro6 := owned_below HRO5.out hb6
      rw [← HRN.out] at hro6
      have HB6 : Hid (Below w.heap.size w w6) := HB5.out.trans (hb6.mono HB5.out.size)
      have HSame : Hid (Calls Try.prog 10 #[.slice mao ms.length mcap, .slice rao m rcap] w6 fun e w' => e = .returned (.bool true) ∧ ∃ k, w' = w6.drewN k) := by
        have h1 := same_calls mao rao _ _ mcap rcap ms rs w6 (owned_rds hmo) (owned_rds hro6)
        rw [decide_eq_true (by rw [hmq, HRQ.out]), HRN.out] at h1
        exact h1
      clear hmo hmq hb6 hro6 HRO5 HB5
      generalize ms.length = mn at *
      go_wp2_with fail
      refine HSame.out.mono ?_
      rintro e w7 ⟨rfl, kd7, hw7⟩
      have HB7 : Hid (Below w.heap.size w w7) := by rw [hw7]; exact below_drewN HB6.out kd7
      clear hw7 HSame HB6
      go_wp2
      go_ret
      exact ⟨rfl, HB7.out⟩

namespace fastqReads
open Go.ChangeShapes Go.WideShapes Go.ChangeAt Go.RowKit
open Go.ChangeMaps (open_string shut_string)
theorem own : ownKnob Try.prog.godebug = none := by kernel_rfl

set_option maxRecDepth 100000 in
theorem lifted (os : Os) (started : os.Started) (H : Type) (enc : TypeId × Value → H) :
    ReturnsInHanded {} Try.checked os 3 .any (Rows.fastqReadsSpec.pre6 enc Try.prog Try.f3 Rows.fastqReadsRow.domain false) (Rows.fastqReadsSpec.post enc Try.prog Try.f3 false true false false) := by
  refine returnsInHanded_of_change (C := Try.checked) own started (by kernel_rfl) Try.func3
    (ChangeSpec.witness6 (enc := enc) (C := Try.checked) false ⟨#[], #[.string ByteArray.empty], []⟩ 8 (by kernel_rfl) (by kernel_rfl) (by kernel_rfl) (by kernel_rfl)) ?_
  intro W base args ds gs before hval0 hW _ _
  have hval : ∀ (j : Nat) t v, Try.f3.params[j]? = some t → args[j]? = some v → Value.okWide Try.prog W .any base t v := hval0
  have hW' := hW
  obtain ⟨p, q, hA0, hV, rfl, hfz, hnd⟩ := hW
  have hA : DataW.TrodAll enc Try.prog W 0 (fun _ => true) true Try.f3.params.toList args.toList ds p := hA0
  rw [Try.params3] at hA hval
  obtain ⟨v0, vs0, d0, ds0, p0, q0, hargs, rfl, rfl, h0, r0⟩ := trodAll_cons hA
  obtain ⟨rfl, rfl, rfl⟩ := trodAll_nil r0
  obtain rfl : args = #[v0] := by cases args; simp_all
  obtain ⟨rfl, rfl⟩ := trodVars_none hV
  obtain ⟨a0, rfl, rfl, rfl, w0⟩ := open_string Try.underlying9 (hval 0 9 v0 rfl rfl) h0
  clear hA0 hval0
  refine (reads_walk a0 W w0).mono fun e W' ⟨he, bel⟩ => ?_
  subst he
  exact ⟨_, rfl, _, _, _, [], _, [], hW', trodAll_mk1 (shut_bool Try.underlying4 _), (trodAll_cons_mk (shut_string Try.underlying9 w0) trodAll_mk0), rfl, bel.frame _, fun h => by cases h⟩
end fastqReads

theorem fastqReads_holds : Rows.FastqReadsSaid :=
  OpenClaim.holds_of_wide 3 Try.f3 rfl rfl rfl rfl rfl rfl rfl ⟨rfl, rfl, rfl, rfl, rfl⟩ rfl rfl rfl rfl rfl (by kernel_rfl) Try.func3 (by kernel_rfl)
    (of_decide_eq_true (by kernel_rfl)) (by unfold Func.isWrapper; first | (rw [if_pos (by decide +kernel)]; kernel_rfl) | (rw [if_neg (by decide +kernel)]; exact ⟨rfl, rfl⟩))
    (fun os started H enc _ => fastqReads.lifted os started H enc)
end Go.Proofs.Ytcpoiaclicmmmaa
