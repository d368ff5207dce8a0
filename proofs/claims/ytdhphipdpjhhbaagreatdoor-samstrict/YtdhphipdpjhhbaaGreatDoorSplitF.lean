/-
  A text cut at its first tabs; the walk of sam's split.
-/
import Derived.Test.YtdhphipdpjhhbaaGreatDoorJoin
import Derived.BigRegion
import Derived.Deep.RegionHeld3
import Derived.Lib.Split
namespace Go.Proofs.YtdhphipdpjhhbaaGreatDoor
open Go.RowKit

theorem index_one_none (c : UInt8) : ∀ (l : List UInt8), c ∉ l → Lib.index l [c] = -1
  | [], _ => by simp [Lib.index]
  | d :: r, h => by
    have h1 : c ≠ d := fun e => h (by simp [e])
    have ih := index_one_none c r (fun hm => h (List.mem_cons_of_mem _ hm))
    have hp : ([c] : List UInt8).isPrefixOf (d :: r) = false := by simp [List.isPrefixOf, h1]
    rw [Lib.index, hp, ih]; rfl
theorem index_one (c : UInt8) : ∀ (l : List UInt8), c ∈ l → Lib.index l [c] = ((headB c l).length : Int)
  | d :: r, h => by
    by_cases h1 : d = c
    · subst h1
      have hp : ([d] : List UInt8).isPrefixOf (d :: r) = true := by simp [List.isPrefixOf]
      rw [Lib.index, hp, headB_cons_eq]; rfl
    · have ih := index_one c r ((List.mem_cons.1 h).resolve_left fun e => h1 e.symm)
      have hp : ([c] : List UInt8).isPrefixOf (d :: r) = false := by simp [List.isPrefixOf, Ne.symm h1]
      have h2 : ¬ ((headB c r).length : Int) = -1 := by omega
      rw [Lib.index, hp, ih, headB_cons_ne h1]
      simp [h2]
/-- A list cut at its first k bytes c. -/
def cutsN (c : UInt8) : Nat → List UInt8 → List (List UInt8)
  | 0, l => [l]
  | k + 1, l => if c ∈ l then headB c l :: cutsN c k (tailB c l) else [l]
theorem splitK_cuts (c : UInt8) : ∀ (k : Nat) (l : List UInt8), Lib.splitK [c] 0 k l = cutsN c k l
  | 0, _ => rfl
  | k + 1, l => by
    rw [Lib.splitK, cutsN]
    by_cases h : c ∈ l
    · rw [if_pos h, index_one c l h, if_neg (by simp), splitK_cuts c k]
      simp only [Int.toNat_natCast, Nat.add_zero, List.length_singleton, take_headB h, drop_headB h]
    · rw [if_neg h, index_one_none c l h, if_pos (by rfl)]
theorem cutsN_all (c : UInt8) : ∀ (k : Nat) (l : List UInt8), (cuts c l).length ≤ k + 1 → cutsN c k l = cuts c l
  | 0, l, h => by
    by_cases hm : c ∈ l
    · rw [cuts_mem hm] at h
      have h2 := List.length_pos_iff.2 (cuts_ne c (tailB c l))
      rw [List.length_cons] at h
      omega
    · rw [cuts_not_mem hm]; rfl
  | k + 1, l, h => by
    rw [cutsN]
    by_cases hm : c ∈ l
    · rw [cuts_mem hm] at h ⊢
      rw [if_pos hm, cutsN_all c k _ (by simp at h; omega)]
    · rw [if_neg hm, cuts_not_mem hm]
theorem cutsN_many (c : UInt8) : ∀ (k : Nat) (l : List UInt8), k + 1 ≤ (cuts c l).length → (cutsN c k l).length = k + 1
  | 0, _, _ => rfl
  | k + 1, l, h => by
    rw [cutsN]
    by_cases hm : c ∈ l
    · rw [cuts_mem hm] at h
      rw [if_pos hm, List.length_cons, cutsN_many c k _ (by simp at h; omega)]
    · rw [cuts_not_mem hm] at h; simp at h
theorem cuts_length (c : UInt8) : ∀ (n : Nat) (l : List UInt8), l.length ≤ n → (cuts c l).length ≤ l.length + 1 := by
  intro n
  induction n with
  | zero => intro l h; have : l = [] := List.eq_nil_of_length_eq_zero (by omega); subst this; simp [cuts, cutsGo]
  | succ n ih =>
    intro l h
    by_cases hm : c ∈ l
    · rw [cuts_mem hm, List.length_cons]
      have h1 := tailB_length_le c l
      have h2 := ih (tailB c l) (by omega)
      have h3 : 0 < l.length := List.length_pos_iff.2 (fun e => by rw [e] at hm; cases hm)
      omega
    · rw [cuts_not_mem hm]; simp
theorem cuts_piece (c : UInt8) : ∀ (n : Nat) (l : List UInt8), l.length ≤ n → ∀ x ∈ cuts c l, x.length ≤ l.length := by
  intro n
  induction n with
  | zero => intro l h; have : l = [] := List.eq_nil_of_length_eq_zero (by omega); subst this; simp [cuts, cutsGo]
  | succ n ih =>
    intro l h x hx
    by_cases hm : c ∈ l
    · rw [cuts_mem hm] at hx
      have h1 := tailB_length_le c l
      rcases List.mem_cons.1 hx with rfl | hx
      · exact headB_length_le c l
      · have := ih (tailB c l) (by omega) x hx; omega
    · rw [cuts_not_mem hm] at hx; simp at hx; subst hx; exact Nat.le_refl _
/-- What split says of a line's fields. -/
def okF (fs : List (List UInt8)) : Bool := decide (fs.length = 11) || (decide (fs.length = 12) && decide (fs.getLast? ≠ some []))
def padF (fs : List (List UInt8)) : List (List UInt8) := if fs.length = 11 then fs ++ [[]] else fs
def SplitFPost (s : ByteArray) (w : World) (e : Ending) (w' : World) : Prop :=
  ∃ (f : FV) (ok : Bool), e = .returned (.tuple #[f.val, .bool ok]) ∧ ok = okF (cuts 9 s.data.toList) ∧ (ok = true → f.L = padF (cuts 9 s.data.toList)) ∧ Below w.heap.size w w'
theorem okF12 (a b c d e f g h i j k l : List UInt8) : okF [a, b, c, d, e, f, g, h, i, j, k, l] = decide (l ≠ []) := by simp [okF]
theorem eleven_of {α : Type} : ∀ (l : List α), l.length = 11 → ∃ x0 x1 x2 x3 x4 x5 x6 x7 x8 x9 x10, l = [x0, x1, x2, x3, x4, x5, x6, x7, x8, x9, x10]
  | [x0, x1, x2, x3, x4, x5, x6, x7, x8, x9, x10], _ => ⟨x0, x1, x2, x3, x4, x5, x6, x7, x8, x9, x10, rfl⟩
theorem twelve_of {α : Type} : ∀ (l : List α), l.length = 12 → ∃ x0 x1 x2 x3 x4 x5 x6 x7 x8 x9 x10 x11, l = [x0, x1, x2, x3, x4, x5, x6, x7, x8, x9, x10, x11]
  | [x0, x1, x2, x3, x4, x5, x6, x7, x8, x9, x10, x11], _ => ⟨x0, x1, x2, x3, x4, x5, x6, x7, x8, x9, x10, x11, rfl⟩
/-- What SplitN makes of a line. -/
theorem splitN_line (s : ByteArray) : ∃ ls : List ByteArray, Lib.splitB ⟨#[9]⟩ 0 (min 13 (s.size + 1) - 1) s = ls ∧ (ls.length = 11 ∨ ls.length = 12 → ls.map (·.data.toList) = cuts 9 s.data.toList) ∧ (ls.length ≠ 11 → ls.length ≠ 12 → (cuts 9 s.data.toList).length ≠ 11 ∧ (cuts 9 s.data.toList).length ≠ 12) ∧ ls.length ≤ min 13 (s.size + 1) := by
  refine ⟨_, rfl, ?_, ?_, ?_⟩
  all_goals have h1 := Lib.splitB_data ⟨#[9]⟩ 0 (min 13 (s.size + 1) - 1) s
  all_goals have h2 : (Lib.splitB ⟨#[9]⟩ 0 (min 13 (s.size + 1) - 1) s).map (·.data.toList) = cutsN 9 (min 13 (s.size + 1) - 1) s.data.toList := by rw [h1]; exact splitK_cuts 9 _ _
  all_goals have h3 : (Lib.splitB ⟨#[9]⟩ 0 (min 13 (s.size + 1) - 1) s).length = (cutsN 9 (min 13 (s.size + 1) - 1) s.data.toList).length := by rw [← h2, List.length_map]
  all_goals have h4 := cuts_length 9 _ s.data.toList (Nat.le_refl _)
  all_goals rw [size_toList] at h4
  · intro hl
    rw [h2]
    by_cases hc : (cuts 9 s.data.toList).length ≤ min 13 (s.size + 1) - 1 + 1
    · exact cutsN_all 9 _ _ hc
    · have := cutsN_many 9 (min 13 (s.size + 1) - 1) s.data.toList (by omega)
      omega
  · intro ha hb
    by_cases hc : (cuts 9 s.data.toList).length ≤ min 13 (s.size + 1) - 1 + 1
    · rw [h3, cutsN_all 9 _ _ hc] at ha hb; exact ⟨ha, hb⟩
    · omega
  · by_cases hc : (cuts 9 s.data.toList).length ≤ min 13 (s.size + 1) - 1 + 1
    · rw [h3, cutsN_all 9 _ _ hc]; omega
    · have := cutsN_many 9 (min 13 (s.size + 1) - 1) s.data.toList (by omega)
      omega
theorem cellsOf_get {ls : List ByteArray} {n j : Nat} {x : ByteArray} (h : ls[j]? = some x) : (Lib.cellsOf ls n)[j]? = some (.string x) := by
  have hj := (List.getElem?_eq_some_iff.1 h).1
  simp only [Lib.cellsOf, List.getElem?_toArray]
  rw [List.getElem?_append_left (by simpa using hj), List.getElem?_map, h]
  rfl
theorem below12 {B : Nat} {a w : World} (h : Below B a w) {k : Nat} (hk : B ≤ k) (v0 v1 v2 v3 v4 v5 v6 v7 v8 v9 v10 v11 : Value) : Below B a ((((((((((((w.setCell ⟨k, 0, none⟩ v0).setCell ⟨k, 1, none⟩ v1).setCell ⟨k, 2, none⟩ v2).setCell ⟨k, 3, none⟩ v3).setCell ⟨k, 4, none⟩ v4).setCell ⟨k, 5, none⟩ v5).setCell ⟨k, 6, none⟩ v6).setCell ⟨k, 7, none⟩ v7).setCell ⟨k, 8, none⟩ v8).setCell ⟨k, 9, none⟩ v9).setCell ⟨k, 10, none⟩ v10).setCell ⟨k, 11, none⟩ v11) := ((((((((((((h.setCell hk _).setCell hk _).setCell hk _).setCell hk _).setCell hk _).setCell hk _).setCell hk _).setCell hk _).setCell hk _).setCell hk _).setCell hk _).setCell hk _)
theorem bne_int {a b : Int} (h : a ≠ b) : (a != b) = true := by simp [h]

set_option maxRecDepth 20000 in
set_option maxHeartbeats 4000000 in
theorem split_line (s : ByteArray) (w : World) (hs : s.size ≤ 1048576) (hstd : Std w) :
    Calls Tryz.prog 32 #[.string s] w fun e w' => SplitFPost s w e w' := by
  have hres : Tryz.f32.results = #[.cell 2 57, .tmp 3] := by kernel_rfl
  obtain ⟨m, hm⟩ := (hstd.below (below_new w (.cells zero12 57))).most
  have HSp := Tryz.strings_SplitN s ⟨#[9]⟩ 13 m (w.alloc (.cells zero12 57)) (by omega) hm (by decide) (by decide) (by decide)
  obtain ⟨ls, hls, h1, h2, h3⟩ := splitN_line s
  rw [hls] at HSp
  have HL : Hid ((ls.length = 11 ∨ ls.length = 12 → ls.map (·.data.toList) = cuts 9 s.data.toList) ∧ (ls.length ≠ 11 → ls.length ≠ 12 → (cuts 9 s.data.toList).length ≠ 11 ∧ (cuts 9 s.data.toList).length ≠ 12)) := ⟨h1, h2⟩
  have hsz : (w.alloc (.cells zero12 57)).heap.size = w.heap.size + 1 := by simp
  rw [hsz] at HSp
  generalize hN : min 13 (s.size + 1) = cap at *
  have HSp' : Hid (Calls Tryz.prog 60 #[.string s, .string ⟨#[9]⟩, .int .i64 13] (w.alloc (.cells zero12 57)) fun e w' => e = .returned (.slice (some ⟨w.heap.size + 1, 0, none⟩) ls.length cap) ∧ w' = (w.alloc (.cells zero12 57)).alloc (.cells (Lib.cellsOf ls cap) 9)) := HSp
  obtain ⟨q1, q2, q3⟩ := alloc2_heap w (.cells zero12 57) (.cells (Lib.cellsOf ls cap) 9)
  have HX : Hid (∀ j x, ls[j]? = some x → ((w.alloc (.cells zero12 57)).alloc (.cells (Lib.cellsOf ls cap) 9)).cell? ⟨w.heap.size + 1, j, none⟩ = some (.string x)) := by
    intro j x hj
    rw [Lib.cell_of_heap q2]; exact cellsOf_get hj
  have HZ : Hid (∀ j (u : Value), zero12[j]? = some u → ((w.alloc (.cells zero12 57)).alloc (.cells (Lib.cellsOf ls cap) 9)).cell? ⟨w.heap.size, j, none⟩ = some u) := by
    intro j u hj
    rw [Lib.cell_of_heap q1]; exact hj
  have HZf : Hid (∀ j, ((w.alloc (.cells zero12 57)).alloc (.cells (Lib.cellsOf ls cap) 9)).frozen? ⟨w.heap.size, j, none⟩ = false) := fun j => frozen_of_row _ _ j zero12 57 q1
  have HB : Hid (Below w.heap.size w ((w.alloc (.cells zero12 57)).alloc (.cells (Lib.cellsOf ls cap) 9))) := q3
  have hws : w.heap.size + 1 < ((w.alloc (.cells zero12 57)).alloc (.cells (Lib.cellsOf ls cap) 9)).heap.size := by simp
  generalize (w.alloc (.cells zero12 57)).alloc (.cells (Lib.cellsOf ls cap) 9) = wx at *
  clear HSp h1 h2 hls q1 q2 q3 hm hstd hsz
  have hcap : cap ≤ 13 := by omega
  clear hN
  go_enter Tryz.func32, Tryz.ntmps32
  go_wp2_with fail
  refine HSp'.out.mono ?_
  rintro e w1 ⟨rfl, rfl⟩
  clear HSp'
  have e0 := HZ.out 0 (.string ⟨#[]⟩) rfl
  have e1 := HZ.out 1 (.string ⟨#[]⟩) rfl
  have e2 := HZ.out 2 (.string ⟨#[]⟩) rfl
  have e3 := HZ.out 3 (.string ⟨#[]⟩) rfl
  have e4 := HZ.out 4 (.string ⟨#[]⟩) rfl
  have e5 := HZ.out 5 (.string ⟨#[]⟩) rfl
  have e6 := HZ.out 6 (.string ⟨#[]⟩) rfl
  have e7 := HZ.out 7 (.string ⟨#[]⟩) rfl
  have e8 := HZ.out 8 (.string ⟨#[]⟩) rfl
  have e9 := HZ.out 9 (.string ⟨#[]⟩) rfl
  have e10 := HZ.out 10 (.string ⟨#[]⟩) rfl
  have e11 := HZ.out 11 (.string ⟨#[]⟩) rfl
  have ef := HZf.out
  by_cases hl11 : ls.length = 11
  · obtain ⟨x0, x1, x2, x3, x4, x5, x6, x7, x8, x9, x10, rfl⟩ := eleven_of ls hl11
    have HC : Hid (cuts 9 s.data.toList = [x0.data.toList, x1.data.toList, x2.data.toList, x3.data.toList, x4.data.toList, x5.data.toList, x6.data.toList, x7.data.toList, x8.data.toList, x9.data.toList, x10.data.toList]) := (HL.out.1 (.inl rfl)).symm
    have hx0 := HX.out 0 x0 rfl
    have hx1 := HX.out 1 x1 rfl
    have hx2 := HX.out 2 x2 rfl
    have hx3 := HX.out 3 x3 rfl
    have hx4 := HX.out 4 x4 rfl
    have hx5 := HX.out 5 x5 rfl
    have hx6 := HX.out 6 x6 rfl
    have hx7 := HX.out 7 x7 rfl
    have hx8 := HX.out 8 x8 rfl
    have hx9 := HX.out 9 x9 rfl
    have hx10 := HX.out 10 x10 rfl
    clear HL HX HZ HZf hl11 h3
    simp only [List.length_cons, List.length_nil, Nat.zero_add, Nat.reduceAdd] at *
    have HK : Hid (∀ W : World, (∀ j : Nat, j < 11 → W.cell? ⟨w.heap.size + 1, j, none⟩ = w1.cell? ⟨w.heap.size + 1, j, none⟩) → W.cell? ⟨w.heap.size + 1, 0, none⟩ = some (.string x0) ∧ W.cell? ⟨w.heap.size + 1, 1, none⟩ = some (.string x1) ∧ W.cell? ⟨w.heap.size + 1, 2, none⟩ = some (.string x2) ∧ W.cell? ⟨w.heap.size + 1, 3, none⟩ = some (.string x3) ∧ W.cell? ⟨w.heap.size + 1, 4, none⟩ = some (.string x4) ∧ W.cell? ⟨w.heap.size + 1, 5, none⟩ = some (.string x5) ∧ W.cell? ⟨w.heap.size + 1, 6, none⟩ = some (.string x6) ∧ W.cell? ⟨w.heap.size + 1, 7, none⟩ = some (.string x7) ∧ W.cell? ⟨w.heap.size + 1, 8, none⟩ = some (.string x8) ∧ W.cell? ⟨w.heap.size + 1, 9, none⟩ = some (.string x9) ∧ W.cell? ⟨w.heap.size + 1, 10, none⟩ = some (.string x10)) := by
      intro W hW
      refine ⟨?_, ?_, ?_, ?_, ?_, ?_, ?_, ?_, ?_, ?_, ?_⟩
      all_goals (rw [hW _ (by decide)]; assumption)
    have HKd : Hid (w1.drew.cell? ⟨w.heap.size + 1, 0, none⟩ = some (.string x0) ∧ w1.drew.cell? ⟨w.heap.size + 1, 1, none⟩ = some (.string x1) ∧ w1.drew.cell? ⟨w.heap.size + 1, 2, none⟩ = some (.string x2) ∧ w1.drew.cell? ⟨w.heap.size + 1, 3, none⟩ = some (.string x3) ∧ w1.drew.cell? ⟨w.heap.size + 1, 4, none⟩ = some (.string x4) ∧ w1.drew.cell? ⟨w.heap.size + 1, 5, none⟩ = some (.string x5) ∧ w1.drew.cell? ⟨w.heap.size + 1, 6, none⟩ = some (.string x6) ∧ w1.drew.cell? ⟨w.heap.size + 1, 7, none⟩ = some (.string x7) ∧ w1.drew.cell? ⟨w.heap.size + 1, 8, none⟩ = some (.string x8) ∧ w1.drew.cell? ⟨w.heap.size + 1, 9, none⟩ = some (.string x9) ∧ w1.drew.cell? ⟨w.heap.size + 1, 10, none⟩ = some (.string x10)) := HK.out w1.drew (fun j _ => rfl)
    have HKa : Hid (∀ o, (w1.alloc o).drew.cell? ⟨w.heap.size + 1, 0, none⟩ = some (.string x0) ∧ (w1.alloc o).drew.cell? ⟨w.heap.size + 1, 1, none⟩ = some (.string x1) ∧ (w1.alloc o).drew.cell? ⟨w.heap.size + 1, 2, none⟩ = some (.string x2) ∧ (w1.alloc o).drew.cell? ⟨w.heap.size + 1, 3, none⟩ = some (.string x3) ∧ (w1.alloc o).drew.cell? ⟨w.heap.size + 1, 4, none⟩ = some (.string x4) ∧ (w1.alloc o).drew.cell? ⟨w.heap.size + 1, 5, none⟩ = some (.string x5) ∧ (w1.alloc o).drew.cell? ⟨w.heap.size + 1, 6, none⟩ = some (.string x6) ∧ (w1.alloc o).drew.cell? ⟨w.heap.size + 1, 7, none⟩ = some (.string x7) ∧ (w1.alloc o).drew.cell? ⟨w.heap.size + 1, 8, none⟩ = some (.string x8) ∧ (w1.alloc o).drew.cell? ⟨w.heap.size + 1, 9, none⟩ = some (.string x9) ∧ (w1.alloc o).drew.cell? ⟨w.heap.size + 1, 10, none⟩ = some (.string x10)) := fun o => HK.out _ (fun j _ => by
      have hb : Below w1.heap.size w1 (w1.alloc o).drew := ((Below.refl _ w1).alloc (Nat.le_refl _) o).drew
      exact hb.cell hws)
    clear HK
    go_wp2
    go_region_held3 (fun W => W.cell? ⟨w.heap.size + 1, 0, none⟩ = some (.string x0) ∧ W.cell? ⟨w.heap.size + 1, 1, none⟩ = some (.string x1) ∧ W.cell? ⟨w.heap.size + 1, 2, none⟩ = some (.string x2) ∧ W.cell? ⟨w.heap.size + 1, 3, none⟩ = some (.string x3) ∧ W.cell? ⟨w.heap.size + 1, 4, none⟩ = some (.string x4) ∧ W.cell? ⟨w.heap.size + 1, 5, none⟩ = some (.string x5) ∧ W.cell? ⟨w.heap.size + 1, 6, none⟩ = some (.string x6) ∧ W.cell? ⟨w.heap.size + 1, 7, none⟩ = some (.string x7) ∧ W.cell? ⟨w.heap.size + 1, 8, none⟩ = some (.string x8) ∧ W.cell? ⟨w.heap.size + 1, 9, none⟩ = some (.string x9) ∧ W.cell? ⟨w.heap.size + 1, 10, none⟩ = some (.string x10)) (first | exact HKd.out | exact HKa.out _ | assumption) (fail)

    have a0 : ∀ o, (w1.alloc o).cell? ⟨w.heap.size, 0, none⟩ = some (.string ⟨#[]⟩) := fun o => by rw [(below_new w1 o).cell (show w.heap.size < w1.heap.size by omega)]; exact e0
    have a1 : ∀ o, (w1.alloc o).cell? ⟨w.heap.size, 1, none⟩ = some (.string ⟨#[]⟩) := fun o => by rw [(below_new w1 o).cell (show w.heap.size < w1.heap.size by omega)]; exact e1
    have a2 : ∀ o, (w1.alloc o).cell? ⟨w.heap.size, 2, none⟩ = some (.string ⟨#[]⟩) := fun o => by rw [(below_new w1 o).cell (show w.heap.size < w1.heap.size by omega)]; exact e2
    have a3 : ∀ o, (w1.alloc o).cell? ⟨w.heap.size, 3, none⟩ = some (.string ⟨#[]⟩) := fun o => by rw [(below_new w1 o).cell (show w.heap.size < w1.heap.size by omega)]; exact e3
    have a4 : ∀ o, (w1.alloc o).cell? ⟨w.heap.size, 4, none⟩ = some (.string ⟨#[]⟩) := fun o => by rw [(below_new w1 o).cell (show w.heap.size < w1.heap.size by omega)]; exact e4
    have a5 : ∀ o, (w1.alloc o).cell? ⟨w.heap.size, 5, none⟩ = some (.string ⟨#[]⟩) := fun o => by rw [(below_new w1 o).cell (show w.heap.size < w1.heap.size by omega)]; exact e5
    have a6 : ∀ o, (w1.alloc o).cell? ⟨w.heap.size, 6, none⟩ = some (.string ⟨#[]⟩) := fun o => by rw [(below_new w1 o).cell (show w.heap.size < w1.heap.size by omega)]; exact e6
    have a7 : ∀ o, (w1.alloc o).cell? ⟨w.heap.size, 7, none⟩ = some (.string ⟨#[]⟩) := fun o => by rw [(below_new w1 o).cell (show w.heap.size < w1.heap.size by omega)]; exact e7
    have a8 : ∀ o, (w1.alloc o).cell? ⟨w.heap.size, 8, none⟩ = some (.string ⟨#[]⟩) := fun o => by rw [(below_new w1 o).cell (show w.heap.size < w1.heap.size by omega)]; exact e8
    have a9 : ∀ o, (w1.alloc o).cell? ⟨w.heap.size, 9, none⟩ = some (.string ⟨#[]⟩) := fun o => by rw [(below_new w1 o).cell (show w.heap.size < w1.heap.size by omega)]; exact e9
    have a10 : ∀ o, (w1.alloc o).cell? ⟨w.heap.size, 10, none⟩ = some (.string ⟨#[]⟩) := fun o => by rw [(below_new w1 o).cell (show w.heap.size < w1.heap.size by omega)]; exact e10
    have a11 : ∀ o, (w1.alloc o).cell? ⟨w.heap.size, 11, none⟩ = some (.string ⟨#[]⟩) := fun o => by rw [(below_new w1 o).cell (show w.heap.size < w1.heap.size by omega)]; exact e11
    have af : ∀ o j, (w1.alloc o).frozen? ⟨w.heap.size, j, none⟩ = false := fun o j => by rw [(below_new w1 o).frozen (show w.heap.size < w1.heap.size by omega)]; exact ef j
    clear e0 e1 e2 e3 e4 e5 e6 e7 e8 e9 e10 e11 ef
    clear HKd HKa hx0 hx1 hx2 hx3 hx4 hx5 hx6 hx7 hx8 hx9 hx10
    go_wp2
    go_region
    go_wp2
    refine bodyPost_ret (v := .tuple #[.agg #[.string x0, .string x1, .string x2, .string x3, .string x4, .string x5, .string x6, .string x7, .string x8, .string x9, .string x10, .string ⟨#[]⟩], .bool true]) ?_ rfl ⟨FV.mk x0 x1 x2 x3 x4 x5 x6 x7 x8 x9 x10 ⟨#[]⟩, true, rfl, ?_, fun _ => ?_, ?_⟩
    · simp only [results, hres]
      go_simp
    · rw [HC.out]; rfl
    · rw [HC.out]; rfl
    · exact ((below12 (HB.out.alloc HB.out.size _) (Nat.le_refl _) _ _ _ _ _ _ _ _ _ _ _ _).drew).drew
  by_cases hl12 : ls.length = 12
  · obtain ⟨x0, x1, x2, x3, x4, x5, x6, x7, x8, x9, x10, x11, rfl⟩ := twelve_of ls hl12
    have HC : Hid (cuts 9 s.data.toList = [x0.data.toList, x1.data.toList, x2.data.toList, x3.data.toList, x4.data.toList, x5.data.toList, x6.data.toList, x7.data.toList, x8.data.toList, x9.data.toList, x10.data.toList, x11.data.toList]) := (HL.out.1 (.inr rfl)).symm
    have hx0 := HX.out 0 x0 rfl
    have hx1 := HX.out 1 x1 rfl
    have hx2 := HX.out 2 x2 rfl
    have hx3 := HX.out 3 x3 rfl
    have hx4 := HX.out 4 x4 rfl
    have hx5 := HX.out 5 x5 rfl
    have hx6 := HX.out 6 x6 rfl
    have hx7 := HX.out 7 x7 rfl
    have hx8 := HX.out 8 x8 rfl
    have hx9 := HX.out 9 x9 rfl
    have hx10 := HX.out 10 x10 rfl
    have hx11 := HX.out 11 x11 rfl
    clear HL HX HZ HZf hl11 hl12
    simp only [List.length_cons, List.length_nil, Nat.zero_add, Nat.reduceAdd] at *
    have HK : Hid (∀ W : World, (∀ j : Nat, j < 11 → W.cell? ⟨w.heap.size + 1, j, none⟩ = w1.cell? ⟨w.heap.size + 1, j, none⟩) → W.cell? ⟨w.heap.size + 1, 0, none⟩ = some (.string x0) ∧ W.cell? ⟨w.heap.size + 1, 1, none⟩ = some (.string x1) ∧ W.cell? ⟨w.heap.size + 1, 2, none⟩ = some (.string x2) ∧ W.cell? ⟨w.heap.size + 1, 3, none⟩ = some (.string x3) ∧ W.cell? ⟨w.heap.size + 1, 4, none⟩ = some (.string x4) ∧ W.cell? ⟨w.heap.size + 1, 5, none⟩ = some (.string x5) ∧ W.cell? ⟨w.heap.size + 1, 6, none⟩ = some (.string x6) ∧ W.cell? ⟨w.heap.size + 1, 7, none⟩ = some (.string x7) ∧ W.cell? ⟨w.heap.size + 1, 8, none⟩ = some (.string x8) ∧ W.cell? ⟨w.heap.size + 1, 9, none⟩ = some (.string x9) ∧ W.cell? ⟨w.heap.size + 1, 10, none⟩ = some (.string x10)) := by
      intro W hW
      refine ⟨?_, ?_, ?_, ?_, ?_, ?_, ?_, ?_, ?_, ?_, ?_⟩
      all_goals (rw [hW _ (by decide)]; assumption)
    have HKd : Hid (w1.drew.cell? ⟨w.heap.size + 1, 0, none⟩ = some (.string x0) ∧ w1.drew.cell? ⟨w.heap.size + 1, 1, none⟩ = some (.string x1) ∧ w1.drew.cell? ⟨w.heap.size + 1, 2, none⟩ = some (.string x2) ∧ w1.drew.cell? ⟨w.heap.size + 1, 3, none⟩ = some (.string x3) ∧ w1.drew.cell? ⟨w.heap.size + 1, 4, none⟩ = some (.string x4) ∧ w1.drew.cell? ⟨w.heap.size + 1, 5, none⟩ = some (.string x5) ∧ w1.drew.cell? ⟨w.heap.size + 1, 6, none⟩ = some (.string x6) ∧ w1.drew.cell? ⟨w.heap.size + 1, 7, none⟩ = some (.string x7) ∧ w1.drew.cell? ⟨w.heap.size + 1, 8, none⟩ = some (.string x8) ∧ w1.drew.cell? ⟨w.heap.size + 1, 9, none⟩ = some (.string x9) ∧ w1.drew.cell? ⟨w.heap.size + 1, 10, none⟩ = some (.string x10)) := HK.out w1.drew (fun j _ => rfl)
    have HKa : Hid (∀ o, (w1.alloc o).drew.cell? ⟨w.heap.size + 1, 0, none⟩ = some (.string x0) ∧ (w1.alloc o).drew.cell? ⟨w.heap.size + 1, 1, none⟩ = some (.string x1) ∧ (w1.alloc o).drew.cell? ⟨w.heap.size + 1, 2, none⟩ = some (.string x2) ∧ (w1.alloc o).drew.cell? ⟨w.heap.size + 1, 3, none⟩ = some (.string x3) ∧ (w1.alloc o).drew.cell? ⟨w.heap.size + 1, 4, none⟩ = some (.string x4) ∧ (w1.alloc o).drew.cell? ⟨w.heap.size + 1, 5, none⟩ = some (.string x5) ∧ (w1.alloc o).drew.cell? ⟨w.heap.size + 1, 6, none⟩ = some (.string x6) ∧ (w1.alloc o).drew.cell? ⟨w.heap.size + 1, 7, none⟩ = some (.string x7) ∧ (w1.alloc o).drew.cell? ⟨w.heap.size + 1, 8, none⟩ = some (.string x8) ∧ (w1.alloc o).drew.cell? ⟨w.heap.size + 1, 9, none⟩ = some (.string x9) ∧ (w1.alloc o).drew.cell? ⟨w.heap.size + 1, 10, none⟩ = some (.string x10)) := fun o => HK.out _ (fun j _ => by
      have hb : Below w1.heap.size w1 (w1.alloc o).drew := ((Below.refl _ w1).alloc (Nat.le_refl _) o).drew
      exact hb.cell hws)
    clear HK
    go_wp2
    go_region_held3 (fun W => W.cell? ⟨w.heap.size + 1, 0, none⟩ = some (.string x0) ∧ W.cell? ⟨w.heap.size + 1, 1, none⟩ = some (.string x1) ∧ W.cell? ⟨w.heap.size + 1, 2, none⟩ = some (.string x2) ∧ W.cell? ⟨w.heap.size + 1, 3, none⟩ = some (.string x3) ∧ W.cell? ⟨w.heap.size + 1, 4, none⟩ = some (.string x4) ∧ W.cell? ⟨w.heap.size + 1, 5, none⟩ = some (.string x5) ∧ W.cell? ⟨w.heap.size + 1, 6, none⟩ = some (.string x6) ∧ W.cell? ⟨w.heap.size + 1, 7, none⟩ = some (.string x7) ∧ W.cell? ⟨w.heap.size + 1, 8, none⟩ = some (.string x8) ∧ W.cell? ⟨w.heap.size + 1, 9, none⟩ = some (.string x9) ∧ W.cell? ⟨w.heap.size + 1, 10, none⟩ = some (.string x10)) (first | exact HKd.out | exact HKa.out _ | assumption) (fail)

    have a0 : ∀ o, (w1.alloc o).cell? ⟨w.heap.size, 0, none⟩ = some (.string ⟨#[]⟩) := fun o => by rw [(below_new w1 o).cell (show w.heap.size < w1.heap.size by omega)]; exact e0
    have a1 : ∀ o, (w1.alloc o).cell? ⟨w.heap.size, 1, none⟩ = some (.string ⟨#[]⟩) := fun o => by rw [(below_new w1 o).cell (show w.heap.size < w1.heap.size by omega)]; exact e1
    have a2 : ∀ o, (w1.alloc o).cell? ⟨w.heap.size, 2, none⟩ = some (.string ⟨#[]⟩) := fun o => by rw [(below_new w1 o).cell (show w.heap.size < w1.heap.size by omega)]; exact e2
    have a3 : ∀ o, (w1.alloc o).cell? ⟨w.heap.size, 3, none⟩ = some (.string ⟨#[]⟩) := fun o => by rw [(below_new w1 o).cell (show w.heap.size < w1.heap.size by omega)]; exact e3
    have a4 : ∀ o, (w1.alloc o).cell? ⟨w.heap.size, 4, none⟩ = some (.string ⟨#[]⟩) := fun o => by rw [(below_new w1 o).cell (show w.heap.size < w1.heap.size by omega)]; exact e4
    have a5 : ∀ o, (w1.alloc o).cell? ⟨w.heap.size, 5, none⟩ = some (.string ⟨#[]⟩) := fun o => by rw [(below_new w1 o).cell (show w.heap.size < w1.heap.size by omega)]; exact e5
    have a6 : ∀ o, (w1.alloc o).cell? ⟨w.heap.size, 6, none⟩ = some (.string ⟨#[]⟩) := fun o => by rw [(below_new w1 o).cell (show w.heap.size < w1.heap.size by omega)]; exact e6
    have a7 : ∀ o, (w1.alloc o).cell? ⟨w.heap.size, 7, none⟩ = some (.string ⟨#[]⟩) := fun o => by rw [(below_new w1 o).cell (show w.heap.size < w1.heap.size by omega)]; exact e7
    have a8 : ∀ o, (w1.alloc o).cell? ⟨w.heap.size, 8, none⟩ = some (.string ⟨#[]⟩) := fun o => by rw [(below_new w1 o).cell (show w.heap.size < w1.heap.size by omega)]; exact e8
    have a9 : ∀ o, (w1.alloc o).cell? ⟨w.heap.size, 9, none⟩ = some (.string ⟨#[]⟩) := fun o => by rw [(below_new w1 o).cell (show w.heap.size < w1.heap.size by omega)]; exact e9
    have a10 : ∀ o, (w1.alloc o).cell? ⟨w.heap.size, 10, none⟩ = some (.string ⟨#[]⟩) := fun o => by rw [(below_new w1 o).cell (show w.heap.size < w1.heap.size by omega)]; exact e10
    have a11 : ∀ o, (w1.alloc o).cell? ⟨w.heap.size, 11, none⟩ = some (.string ⟨#[]⟩) := fun o => by rw [(below_new w1 o).cell (show w.heap.size < w1.heap.size by omega)]; exact e11
    have af : ∀ o j, (w1.alloc o).frozen? ⟨w.heap.size, j, none⟩ = false := fun o j => by rw [(below_new w1 o).frozen (show w.heap.size < w1.heap.size by omega)]; exact ef j
    have a12 : ∀ o, (w1.alloc o).cell? ⟨w.heap.size + 1, 11, none⟩ = some (.string x11) := fun o => by rw [(below_new w1 o).cell hws]; exact hx11
    clear e0 e1 e2 e3 e4 e5 e6 e7 e8 e9 e10 e11 ef
    clear HKd HKa hx0 hx1 hx2 hx3 hx4 hx5 hx6 hx7 hx8 hx9 hx10 hx11
    have hcp : (11 : Int) < 12 := by decide
    cases hem : x11.toList.isEmpty with
    | true =>
      have hne : (x11.toList != []) = false := by rw [List.isEmpty_iff] at hem; simp [hem]
      go_wp2
      go_region
      go_wp2
      refine bodyPost_ret (v := .tuple #[.agg #[.string x0, .string x1, .string x2, .string x3, .string x4, .string x5, .string x6, .string x7, .string x8, .string x9, .string x10, .string x11], .bool false]) ?_ rfl ⟨FV.mk x0 x1 x2 x3 x4 x5 x6 x7 x8 x9 x10 x11, false, rfl, ?_, fun _ => ?_, ?_⟩
      · simp only [results, hres]
        go_simp
      · rw [HC.out, okF12]; rw [List.isEmpty_iff, ByteArray.toList_eq] at hem; simp only [hem, ne_eq, not_true_eq_false, decide_false]
      · rw [HC.out]; rfl
      · exact ((below12 (HB.out.alloc HB.out.size _) (Nat.le_refl _) _ _ _ _ _ _ _ _ _ _ _ _).drew).drew
    | false =>
      have hne : (x11.toList != []) = true := by rw [List.isEmpty_eq_false_iff] at hem; simp [hem]
      go_wp2
      go_region
      go_wp2
      refine bodyPost_ret (v := .tuple #[.agg #[.string x0, .string x1, .string x2, .string x3, .string x4, .string x5, .string x6, .string x7, .string x8, .string x9, .string x10, .string x11], .bool true]) ?_ rfl ⟨FV.mk x0 x1 x2 x3 x4 x5 x6 x7 x8 x9 x10 x11, true, rfl, ?_, fun _ => ?_, ?_⟩
      · simp only [results, hres]
        go_simp
      · rw [HC.out, okF12]; rw [List.isEmpty_eq_false_iff, ByteArray.toList_eq] at hem; simp only [ne_eq, hem, not_false_eq_true, decide_true]
      · rw [HC.out]; rfl
      · exact ((below12 (HB.out.alloc HB.out.size _) (Nat.le_refl _) _ _ _ _ _ _ _ _ _ _ _ _).drew).drew
  · have hd1 : ((ls.length : Int) != 11) = true := bne_int (by omega)
    have hd2 : ((ls.length : Int) != 12) = true := bne_int (by omega)
    have HE : Hid (okF (cuts 9 s.data.toList) = false) := by
      obtain ⟨k1, k2⟩ := HL.out.2 hl11 hl12
      show okF _ = false
      simp [okF, k1, k2]
    clear HL HX HZ HZf
    go_wp2
    refine bodyPost_ret (v := .tuple #[.agg #[.string ⟨#[]⟩, .string ⟨#[]⟩, .string ⟨#[]⟩, .string ⟨#[]⟩, .string ⟨#[]⟩, .string ⟨#[]⟩, .string ⟨#[]⟩, .string ⟨#[]⟩, .string ⟨#[]⟩, .string ⟨#[]⟩, .string ⟨#[]⟩, .string ⟨#[]⟩], .bool false]) ?_ rfl ⟨FV.mk ⟨#[]⟩ ⟨#[]⟩ ⟨#[]⟩ ⟨#[]⟩ ⟨#[]⟩ ⟨#[]⟩ ⟨#[]⟩ ⟨#[]⟩ ⟨#[]⟩ ⟨#[]⟩ ⟨#[]⟩ ⟨#[]⟩, false, rfl, HE.out.symm, fun h => (by cases h), ?_⟩
    · simp only [results, hres]
      go_simp
    · exact below12 HB.out (Nat.le_refl _) _ _ _ _ _ _ _ _ _ _ _ _
end Go.Proofs.YtdhphipdpjhhbaaGreatDoor
