/-
  The walks of strings.Clone, strconv.Atoi, and sam's read.
-/
import Derived.Test.YtdhphipdpjhhbaaGreatDoorJoin
import Derived.Test.YtdhphipdpjhhbaaGreatDoorSplit
import Derived.Lib.AtoiErrMem
namespace Go.Proofs.YtdhphipdpjhhbaaGreatDoor
open Go.RowKit

theorem clone_calls (s : ByteArray) (w : World) (hs : s.size ≤ 1048576) :
    Calls Tryz.prog 61 #[.string s] w fun e w' => e = .returned (.string s) ∧ Below w.heap.size w w' := by
  have HC : Hid (Calls Tryz.prog 86 #[.string s] w fun e w' => e = .returned (.string s) ∧ Below w.heap.size w w') := Tryz.stringslite_Clone s w (by omega)
  go_enter Tryz.func61, Tryz.ntmps61
  go_wp2_with (go_at_call 86; refine HC.out.mono ?_; rintro e w' ⟨rfl, hb⟩)
  go_ret
  exact ⟨rfl, hb⟩
/-- What Atoi leaves: the number and no error; or an error. -/
def AtoiPost (l : List UInt8) (w : World) (e : Ending) (w' : World) : Prop :=
  ∃ v ev, e = .returned (.tuple #[.int .i64 v, ev]) ∧ fitI v ∧ Below w.heap.size w w' ∧ ((Lib.atoiAll l = .ok v ∧ ev = .nilIface) ∨ ((∀ z, Lib.atoiAll l ≠ .ok z) ∧ ∃ N, ev = .iface 131 (.pointer (some ⟨N, 0, none⟩))))
theorem atoi_calls (s : ByteArray) (w : World) (hs : s.size ≤ 1048576) (hstd : Std w) :
    Calls Tryz.prog 62 #[.string s] w fun e w' => AtoiPost s.data.toList w e w' := by
  rcases h : Lib.atoiAll s.data.toList with v | _ | _
  · refine (Tryz.strconv_Atoi_ok s (by omega) v h w).mono ?_
    rintro e w' ⟨rfl, hw⟩
    refine ⟨v, _, rfl, Lib.atoiAll_bounds h, ?_, .inl ⟨h, rfl⟩⟩
    rcases hw with rfl | ⟨t, rfl⟩
    · exact Below.refl _ _
    · exact Lib.bytesWorld_below w 5 t
  · obtain ⟨ev, hv, hev⟩ := hstd.syn
    refine (Tryz.strconv_Atoi_syntax s (by omega) h ev w hv hev).mono ?_
    rintro e w' ⟨N, rfl, _, _, hb⟩
    exact ⟨0, _, rfl, ⟨by decide, by decide⟩, hb, .inr ⟨(fun z hz => by rw [h] at hz; cases hz), N, rfl⟩⟩
  · obtain ⟨ev, hv, hev⟩ := hstd.rng
    refine (Tryz.strconv_Atoi_range s (by omega) h ev w hv hev).mono ?_
    rintro e w' ⟨N, rfl, _, _, hb⟩
    exact ⟨_, _, rfl, Lib.atoiSat_bounds _, hb, .inr ⟨(fun z hz => by rw [h] at hz; cases hz), N, rfl⟩⟩

theorem readS_ok {n rf p rs b q s : List UInt8} {z y : Int} (hs : s ≠ []) (h1 : Lib.atoiAll p = .ok z) (h2 : Lib.atoiAll (Lib.trimPrefix s [65, 83, 58, 105, 58]) = .ok y) (h3 : (parseA rs).2 = 0) : readS n rf p rs b q s = some ⟨n, true, rf, z, (parseA rs).1, b, q, y⟩ := by
  simp only [readS, if_neg hs, h1, h2, if_pos h3]
theorem readS_no {n rf p rs b q s : List UInt8} (hs : s ≠ []) (h : (∀ z, Lib.atoiAll p ≠ .ok z) ∨ (∀ z, Lib.atoiAll (Lib.trimPrefix s [65, 83, 58, 105, 58]) ≠ .ok z) ∨ (parseA rs).2 ≠ 0) : readS n rf p rs b q s = none := by
  rw [readS, if_neg hs]
  rcases h1 : Lib.atoiAll p with z | _ | _
  · rcases h2 : Lib.atoiAll (Lib.trimPrefix s [65, 83, 58, 105, 58]) with y | _ | _
    · rcases h with h | h | h
      · exact absurd h1 (h z)
      · exact absurd h2 (h y)
      · simp only [if_neg h]
    · rfl
    · rfl
  · rfl
  · rfl
theorem keepB {W W' : World} {k : Nat} {cs : Array Value} {t : TypeId} (h : W.heap[k]? = some (.cells cs t (0, 0))) (hb : Below W.heap.size W W') : W'.heap[k]? = some (.cells cs t (0, 0)) := by
  rw [hb.block _ (lt_block h)]; exact h
theorem keepS {W : World} {k j i : Nat} {cs : Array Value} {t : TypeId} (h : W.heap[k]? = some (.cells cs t (0, 0))) (hne : k ≠ j) (v : Value) : (W.setCell ⟨j, i, none⟩ v).heap[k]? = some (.cells cs t (0, 0)) := by
  rw [Below.heap_setCell W _ v k hne]; exact h
theorem cellB {W : World} {k : Nat} {cs : Array Value} {t : TypeId} (h : W.heap[k]? = some (.cells cs t (0, 0))) {i : Nat} {u : Value} (hi : cs[i]? = some u) : W.cell? ⟨k, i, none⟩ = some u := by rw [Lib.cell_of_heap h]; exact hi
theorem freeB {W : World} {k : Nat} {cs : Array Value} {t : TypeId} (h : W.heap[k]? = some (.cells cs t (0, 0))) (i : Nat) : W.frozen? ⟨k, i, none⟩ = false := frozen_of_row W k i cs t h
def zero8 : Array Value := #[.string ⟨#[]⟩, .bool false, .string ⟨#[]⟩, .int .i64 0, .slice none 0 0, .string ⟨#[]⟩, .string ⟨#[]⟩, .int .i64 0]
/-- What read leaves. -/
def ReadPost (o : Option Rec) (w : World) (e : Ending) (w' : World) : Prop :=
  ∃ (v : RV) (ok : Bool), e = .returned (.tuple #[v.val, .bool ok]) ∧ ok = o.isSome ∧ (∀ r, o = some r → v.R r.runs = r ∧ w'.ownsRow w.heap.size 37 2 (.slice v.ao v.len v.cap) r.runs.length (rowCells r.runs)) ∧ Below w.heap.size w w'
theorem owned_ne {w : World} {B b n : Nat} {v : Value} {xs : List Value} {cs : Array Value} {f : Nat × Nat} {t e : TypeId} {sz : Nat} (ho : w.ownsRow B e sz v n xs) (hb : w.heap[b]? = some (.cells cs t f)) (hne : e ≠ t) : v.ownBlock ≠ some b := by
  intro e'
  rcases ho.2 with ⟨hv, _⟩ | ⟨g', cap', cur', hv, _, hg', _⟩
  · rw [hv] at e'; cases e'
  · rw [hv] at e'; simp [Value.ownBlock] at e'; subst e'; rw [hg'] at hb; cases hb; exact hne rfl
theorem owned_setNe {w : World} {B b i n : Nat} {v u : Value} {xs : List Value} {e : TypeId} {sz : Nat} (ho : w.ownsRow B e sz v n xs) (hne : v.ownBlock ≠ some b) : (w.setCell ⟨b, i, none⟩ u).ownsRow B e sz v n xs :=
  owned_of_block ho fun g _ hg _ => Below.heap_setCell w _ u g (fun e' => hne (by rw [hg]; exact congrArg some e'))
theorem below8 {B : Nat} {a w : World} (h : Below B a w) {k : Nat} (hk : B ≤ k) (v0 v1 v2 v3 v4 v5 v6 v7 : Value) : Below B a ((((((((w.setCell ⟨k, 0, none⟩ v0).setCell ⟨k, 1, none⟩ v1).setCell ⟨k, 2, none⟩ v2).setCell ⟨k, 3, none⟩ v3).setCell ⟨k, 4, none⟩ v4).setCell ⟨k, 5, none⟩ v5).setCell ⟨k, 6, none⟩ v6).setCell ⟨k, 7, none⟩ v7) :=
  (((((((h.setCell hk _).setCell hk _).setCell hk _).setCell hk _).setCell hk _).setCell hk _).setCell hk _).setCell hk _
/-- The blocks of read: its fields, its answer. -/
structure RdAt (w : World) (box : Array Value) (W : World) : Prop where
  low : Below w.heap.size w W
  box : W.heap[w.heap.size]? = some (.cells box 57 (0, 0))
  ans : W.heap[w.heap.size + 1]? = some (.cells zero8 24 (0, 0))
theorem RdAt.next {w W W' : World} {box : Array Value} (h : RdAt w box W) (hb : Below W.heap.size W W') : RdAt w box W' :=
  ⟨h.low.trans (hb.mono h.low.size), keepB h.box hb, keepB h.ans hb⟩

theorem RdAt.drew {w W : World} {box : Array Value} (h : RdAt w box W) : RdAt w box W.drew := h.next (Below.refl _ _).drew
/-- And the record that it makes. -/
structure RdR (w : World) (box cs : Array Value) (g : Nat) (W : World) : Prop where
  all : RdAt w box W
  got : W.heap[g]? = some (.cells cs 24 (0, 0))
  far : w.heap.size + 1 < g
theorem RdR.next {w W W' : World} {box cs : Array Value} {g : Nat} (h : RdR w box cs g W) (hb : Below W.heap.size W W') : RdR w box cs g W' := ⟨h.all.next hb, keepB h.got hb, h.far⟩
theorem RdR.set {w W : World} {box cs : Array Value} {g : Nat} (h : RdR w box cs g W) (i : Nat) (v : Value) : RdR w box (cs.setIfInBounds i v) g (W.setCell ⟨g, i, none⟩ v) := by
  have hg := h.far
  refine ⟨⟨h.all.low.setCell (show w.heap.size ≤ g by omega) _, keepS h.all.box (by omega) _, keepS h.all.ans (by omega) _⟩, heap_setCell_same W g i cs 24 v h.got, hg⟩
theorem RdR.make {w W : World} {box cs : Array Value} (h : RdAt w box W) : RdR w box cs W.heap.size (W.alloc (.cells cs 24)) :=
  ⟨h.next (below_new W _), heap_alloc_new W _, by have := lt_block h.ans; omega⟩
theorem RdR.set8 {w W : World} {box : Array Value} {g : Nat} (h : RdR w box zero8 g W) (v0 v1 v2 v3 v4 v5 v6 v7 : Value) : RdR w box #[v0, v1, v2, v3, v4, v5, v6, v7] g ((((((((W.setCell ⟨g, 0, none⟩ v0).setCell ⟨g, 1, none⟩ v1).setCell ⟨g, 2, none⟩ v2).setCell ⟨g, 3, none⟩ v3).setCell ⟨g, 4, none⟩ v4).setCell ⟨g, 5, none⟩ v5).setCell ⟨g, 6, none⟩ v6).setCell ⟨g, 7, none⟩ v7) := by
  have := (((((((h.set 0 v0).set 1 v1).set 2 v2).set 3 v3).set 4 v4).set 5 v5).set 6 v6).set 7 v7
  simpa [zero8] using this

set_option maxRecDepth 20000 in
set_option maxHeartbeats 4000000 in
theorem read_calls (f : FV) (w : World) (hsz : ∀ x ∈ f.L, x.length ≤ 1048576) (hstd : Std w) :
    Calls Tryz.prog 33 #[f.val] w fun e w' => ReadPost (readS f.name.data.toList f.ref.data.toList f.pos.data.toList f.runs.data.toList f.bases.data.toList f.quals.data.toList f.score.data.toList) w e w' := by
  have hres : Tryz.f33.results = #[.cell 2 24, .tmp 3] := by kernel_rfl
  obtain ⟨a0, a1, a2, a3, a4, a5, a6, a7, a8, a9, a10, a11⟩ := f
  simp only [FV.L, FV.eleven, List.map_cons, List.map_nil, List.cons_append, List.nil_append, List.forall_mem_cons, size_toList] at hsz
  obtain ⟨z0, _, z2, z3, _, z5, _, _, _, z9, z10, z11, _⟩ := hsz
  have HA : Hid (∀ W (t : ByteArray), t.size ≤ 1048576 → RdAt w #[.string a0, .string a1, .string a2, .string a3, .string a4, .string a5, .string a6, .string a7, .string a8, .string a9, .string a10, .string a11] W → Calls Tryz.prog 61 #[.string t] W fun e w' => e = .returned (.string t) ∧ Hid (RdAt w #[.string a0, .string a1, .string a2, .string a3, .string a4, .string a5, .string a6, .string a7, .string a8, .string a9, .string a10, .string a11] w') ∧ (w'.cell? ⟨w.heap.size, 0, none⟩ = some (.string a0) ∧ w'.cell? ⟨w.heap.size, 9, none⟩ = some (.string a9) ∧ w'.cell? ⟨w.heap.size, 10, none⟩ = some (.string a10))) := by
    intro W t ht hJ
    refine (clone_calls t W ht).mono ?_
    rintro e w' ⟨rfl, hb⟩
    have hJ' := hJ.next hb
    exact ⟨rfl, hJ', cellB hJ'.box rfl, cellB hJ'.box rfl, cellB hJ'.box rfl⟩
  have HC : Hid (∀ W g (t : ByteArray), t.size ≤ 1048576 → RdR w #[.string a0, .string a1, .string a2, .string a3, .string a4, .string a5, .string a6, .string a7, .string a8, .string a9, .string a10, .string a11] zero8 g W → Calls Tryz.prog 61 #[.string t] W fun e w' => e = .returned (.string t) ∧ Hid (RdR w #[.string a0, .string a1, .string a2, .string a3, .string a4, .string a5, .string a6, .string a7, .string a8, .string a9, .string a10, .string a11] zero8 g w') ∧ (w'.cell? ⟨w.heap.size, 0, none⟩ = some (.string a0) ∧ w'.cell? ⟨w.heap.size, 9, none⟩ = some (.string a9) ∧ w'.cell? ⟨w.heap.size, 10, none⟩ = some (.string a10)) ∧ (w'.cell? ⟨g, 0, none⟩ = some (.string ⟨#[]⟩) ∧ w'.cell? ⟨g, 1, none⟩ = some (.bool false) ∧ w'.cell? ⟨g, 2, none⟩ = some (.string ⟨#[]⟩) ∧ w'.cell? ⟨g, 3, none⟩ = some (.int .i64 0) ∧ w'.cell? ⟨g, 4, none⟩ = some (.slice none 0 0) ∧ w'.cell? ⟨g, 5, none⟩ = some (.string ⟨#[]⟩) ∧ w'.cell? ⟨g, 6, none⟩ = some (.string ⟨#[]⟩) ∧ w'.cell? ⟨g, 7, none⟩ = some (.int .i64 0)) ∧ (∀ i, w'.frozen? ⟨g, i, none⟩ = false)) := by
    intro W g t ht hJ
    refine (clone_calls t W ht).mono ?_
    rintro e w' ⟨rfl, hb⟩
    have hJ' := hJ.next hb
    exact ⟨rfl, hJ', ⟨cellB hJ'.all.box rfl, cellB hJ'.all.box rfl, cellB hJ'.all.box rfl⟩, ⟨cellB hJ'.got rfl, cellB hJ'.got rfl, cellB hJ'.got rfl, cellB hJ'.got rfl, cellB hJ'.got rfl, cellB hJ'.got rfl, cellB hJ'.got rfl, cellB hJ'.got rfl⟩, freeB hJ'.got⟩
  have HM : Hid (∀ W, Hid (RdAt w #[.string a0, .string a1, .string a2, .string a3, .string a4, .string a5, .string a6, .string a7, .string a8, .string a9, .string a10, .string a11] W) → Hid (RdR w #[.string a0, .string a1, .string a2, .string a3, .string a4, .string a5, .string a6, .string a7, .string a8, .string a9, .string a10, .string a11] zero8 W.heap.size (W.alloc (.cells #[.string ⟨#[]⟩, .bool false, .string ⟨#[]⟩, .int .i64 0, .slice none 0 0, .string ⟨#[]⟩, .string ⟨#[]⟩, .int .i64 0] 24)))) := fun W h => RdR.make h.out
  simp only [FV.val]
  go_enter Tryz.func33, Tryz.ntmps33
  go_wp2
  generalize hwx : (w.alloc (.cells #[.string a0, .string a1, .string a2, .string a3, .string a4, .string a5, .string a6, .string a7, .string a8, .string a9, .string a10, .string a11] 57)).alloc (.cells #[.string ⟨#[]⟩, .bool false, .string ⟨#[]⟩, .int .i64 0, .slice none 0 0, .string ⟨#[]⟩, .string ⟨#[]⟩, .int .i64 0] 24) = wx
  have hJ0 : RdAt w #[.string a0, .string a1, .string a2, .string a3, .string a4, .string a5, .string a6, .string a7, .string a8, .string a9, .string a10, .string a11] wx.drew := by
    subst hwx
    obtain ⟨q1, q2, q3⟩ := alloc2_heap w (.cells #[.string a0, .string a1, .string a2, .string a3, .string a4, .string a5, .string a6, .string a7, .string a8, .string a9, .string a10, .string a11] 57) (.cells zero8 24)
    exact RdAt.drew (W := (w.alloc _).alloc _) ⟨q3, q1, q2⟩
  have HJ0 : Hid (RdAt w #[.string a0, .string a1, .string a2, .string a3, .string a4, .string a5, .string a6, .string a7, .string a8, .string a9, .string a10, .string a11] wx.drew) := hJ0
  have HM0 : Hid (Hid (RdR w #[.string a0, .string a1, .string a2, .string a3, .string a4, .string a5, .string a6, .string a7, .string a8, .string a9, .string a10, .string a11] zero8 wx.heap.size (wx.alloc (.cells #[.string ⟨#[]⟩, .bool false, .string ⟨#[]⟩, .int .i64 0, .slice none 0 0, .string ⟨#[]⟩, .string ⟨#[]⟩, .int .i64 0] 24)).drew)) := HM.out wx.drew HJ0
  have HS0 : Hid (wx.drew.cell? ⟨w.heap.size, 0, none⟩ = some (.string a0) ∧ wx.drew.cell? ⟨w.heap.size, 9, none⟩ = some (.string a9) ∧ wx.drew.cell? ⟨w.heap.size, 10, none⟩ = some (.string a10)) := ⟨cellB hJ0.box rfl, cellB hJ0.box rfl, cellB hJ0.box rfl⟩
  have HKA0 : Hid (∀ o, (wx.alloc o).drew.cell? ⟨w.heap.size, 0, none⟩ = some (.string a0) ∧ (wx.alloc o).drew.cell? ⟨w.heap.size, 9, none⟩ = some (.string a9) ∧ (wx.alloc o).drew.cell? ⟨w.heap.size, 10, none⟩ = some (.string a10)) := by
    intro o
    have hJ' : RdAt w #[.string a0, .string a1, .string a2, .string a3, .string a4, .string a5, .string a6, .string a7, .string a8, .string a9, .string a10, .string a11] (wx.alloc o).drew := hJ0.next (below_new wx.drew o)
    exact ⟨cellB hJ'.box rfl, cellB hJ'.box rfl, cellB hJ'.box rfl⟩
  have HKA : Hid (∀ W o, Hid (RdAt w #[.string a0, .string a1, .string a2, .string a3, .string a4, .string a5, .string a6, .string a7, .string a8, .string a9, .string a10, .string a11] W) → (W.alloc o).cell? ⟨w.heap.size, 0, none⟩ = some (.string a0) ∧ (W.alloc o).cell? ⟨w.heap.size, 9, none⟩ = some (.string a9) ∧ (W.alloc o).cell? ⟨w.heap.size, 10, none⟩ = some (.string a10)) := by
    intro W o hJ
    have hJ' := hJ.out.next (below_new W o)
    exact ⟨cellB hJ'.box rfl, cellB hJ'.box rfl, cellB hJ'.box rfl⟩
  have HK8 : Hid (∀ (W : World) (g : Nat) (v0 v1 v2 v3 v4 v5 v6 v7 : Value), Hid (RdR w #[.string a0, .string a1, .string a2, .string a3, .string a4, .string a5, .string a6, .string a7, .string a8, .string a9, .string a10, .string a11] zero8 g W) → ((((((((W.setCell ⟨g, 0, none⟩ v0).setCell ⟨g, 1, none⟩ v1).setCell ⟨g, 2, none⟩ v2).setCell ⟨g, 3, none⟩ v3).setCell ⟨g, 4, none⟩ v4).setCell ⟨g, 5, none⟩ v5).setCell ⟨g, 6, none⟩ v6).setCell ⟨g, 7, none⟩ v7).cell? ⟨w.heap.size, 0, none⟩ = some (.string a0) ∧ ((((((((W.setCell ⟨g, 0, none⟩ v0).setCell ⟨g, 1, none⟩ v1).setCell ⟨g, 2, none⟩ v2).setCell ⟨g, 3, none⟩ v3).setCell ⟨g, 4, none⟩ v4).setCell ⟨g, 5, none⟩ v5).setCell ⟨g, 6, none⟩ v6).setCell ⟨g, 7, none⟩ v7).cell? ⟨w.heap.size, 9, none⟩ = some (.string a9) ∧ ((((((((W.setCell ⟨g, 0, none⟩ v0).setCell ⟨g, 1, none⟩ v1).setCell ⟨g, 2, none⟩ v2).setCell ⟨g, 3, none⟩ v3).setCell ⟨g, 4, none⟩ v4).setCell ⟨g, 5, none⟩ v5).setCell ⟨g, 6, none⟩ v6).setCell ⟨g, 7, none⟩ v7).cell? ⟨w.heap.size, 10, none⟩ = some (.string a10)) := by
    intro W g v0 v1 v2 v3 v4 v5 v6 v7 hJ
    have hJ' := hJ.out.set8 v0 v1 v2 v3 v4 v5 v6 v7
    exact ⟨cellB hJ'.all.box rfl, cellB hJ'.all.box rfl, cellB hJ'.all.box rfl⟩
  clear hwx hJ0
  go_cut [4] (fun v wc => ∃ g, v = .pointer (some ⟨g, 0, none⟩) ∧ RdR w #[.string a0, .string a1, .string a2, .string a3, .string a4, .string a5, .string a6, .string a7, .string a8, .string a9, .string a10, .string a11] #[.string a0, .bool false, .string ⟨#[]⟩, .int .i64 0, .slice none 0 0, .string a9, .string a10, .int .i64 0] g wc)
  case first =>
    go_region_held3 (fun W => W.cell? ⟨w.heap.size, 0, none⟩ = some (.string a0) ∧ W.cell? ⟨w.heap.size, 9, none⟩ = some (.string a9) ∧ W.cell? ⟨w.heap.size, 10, none⟩ = some (.string a10))
      (first | with_reducible assumption | with_reducible exact HS0.out | with_reducible exact HKA0.out _ | with_reducible exact HKA.out _ _ (by with_reducible assumption) | with_reducible exact HK8.out _ _ _ _ _ _ _ _ _ _ (by with_reducible assumption))
      (first
        | (go_at_call 61; refine (HA.out _ _ (by with_reducible assumption) (Hid.out (by with_reducible assumption))).mono ?_; rintro e w1 ⟨rfl, hK1, hS1⟩)
        | (go_at_call 61; refine (HC.out _ _ _ (by with_reducible assumption) (Hid.out (by first | with_reducible assumption | with_reducible exact HM0.out | with_reducible exact HM.out _ (by with_reducible assumption)))).mono ?_; rintro e w1 ⟨rfl, hK1, hS1, ⟨g0, g1, g2, g3, g4, g5, g6, g7⟩, gf⟩))
    all_goals (go_wp2; go_meet; refine ⟨_, rfl, ?_⟩)
    all_goals first | with_reducible refine RdR.make ?_ | with_reducible refine RdR.set8 ?_ _ _ _ _ _ _ _ _
    all_goals exact Hid.out (by with_reducible assumption)
  case rest =>
    obtain ⟨g, rfl, hJ⟩ := hcut
    clear HA HM HJ0 HM0 HS0 HKA0 HKA HK8
    have hg := hJ.far
    have c11 := cellB hJ.all.box (i := 11) rfl
    have HJ : Hid (RdR w #[.string a0, .string a1, .string a2, .string a3, .string a4, .string a5, .string a6, .string a7, .string a8, .string a9, .string a10, .string a11] #[.string a0, .bool false, .string ⟨#[]⟩, .int .i64 0, .slice none 0 0, .string a9, .string a10, .int .i64 0] g wc) := hJ
    by_cases hsc : a11.toList = []
    · have HE : Hid (readS a0.data.toList a2.data.toList a3.data.toList a5.data.toList a9.data.toList a10.data.toList a11.data.toList = some (mkPlain a0.data.toList a9.data.toList a10.data.toList)) := by
        show readS _ _ _ _ _ _ _ = _
        rw [readS, if_pos (toList_nil.1 hsc)]
      have hem : a11.toList.isEmpty = true := by rw [List.isEmpty_iff]; exact hsc
      have e0 := cellB hJ.all.ans (i := 0) rfl
      have e1 := cellB hJ.all.ans (i := 1) rfl
      have e2 := cellB hJ.all.ans (i := 2) rfl
      have e3 := cellB hJ.all.ans (i := 3) rfl
      have e4 := cellB hJ.all.ans (i := 4) rfl
      have e5 := cellB hJ.all.ans (i := 5) rfl
      have e6 := cellB hJ.all.ans (i := 6) rfl
      have e7 := cellB hJ.all.ans (i := 7) rfl
      have r0 := cellB hJ.got (i := 0) rfl
      have r1 := cellB hJ.got (i := 1) rfl
      have r2 := cellB hJ.got (i := 2) rfl
      have r3 := cellB hJ.got (i := 3) rfl
      have r4 := cellB hJ.got (i := 4) rfl
      have r5 := cellB hJ.got (i := 5) rfl
      have r6 := cellB hJ.got (i := 6) rfl
      have r7 := cellB hJ.got (i := 7) rfl
      have ef := freeB hJ.all.ans
      clear hJ HC hsc
      go_wp2
      refine bodyPost_ret (v := .tuple #[.agg #[.string a0, .bool false, .string ⟨#[]⟩, .int .i64 0, .slice none 0 0, .string a9, .string a10, .int .i64 0], .bool true]) ?_ rfl ⟨RV.mk a0 false ⟨#[]⟩ 0 none 0 0 a9 a10 0, true, rfl, ?_, ?_, ?_⟩
      · simp only [results, hres]
        go_simp
      · rw [HE.out]; rfl
      · intro r hr
        rw [HE.out] at hr
        cases hr
        exact ⟨rfl, World.ownsRow_nil _ _ _ _⟩
      · exact below8 HJ.out.all.low (show w.heap.size ≤ w.heap.size + 1 by omega) _ _ _ _ _ _ _ _
    · have hem : a11.toList.isEmpty = false := by rw [List.isEmpty_eq_false_iff]; exact hsc
      have hne : ¬ a11.data.toList = [] := fun e => hsc (toList_nil.2 e)
      have c3 := cellB hJ.all.box (i := 3) rfl
      have HStd : Hid (∀ W, Below w.heap.size w W → Std W) := fun W hW => hstd.below hW
      have HR : Hid ((∀ z y, Lib.atoiAll a3.data.toList = .ok z → Lib.atoiAll (Lib.trimPrefix a11.data.toList [65, 83, 58, 105, 58]) = .ok y → (parseA a5.data.toList).2 = 0 → readS a0.data.toList a2.data.toList a3.data.toList a5.data.toList a9.data.toList a10.data.toList a11.data.toList = some ⟨a0.data.toList, true, a2.data.toList, z, (parseA a5.data.toList).1, a9.data.toList, a10.data.toList, y⟩) ∧ ((∀ z, Lib.atoiAll a3.data.toList ≠ .ok z) ∨ (∀ z, Lib.atoiAll (Lib.trimPrefix a11.data.toList [65, 83, 58, 105, 58]) ≠ .ok z) ∨ (parseA a5.data.toList).2 ≠ 0 → readS a0.data.toList a2.data.toList a3.data.toList a5.data.toList a9.data.toList a10.data.toList a11.data.toList = none)) := ⟨fun z y h1 h2 h3 => readS_ok hne h1 h2 h3, readS_no hne⟩
      clear hJ HC hsc hne hstd
      go_wp2_with fail
      refine (atoi_calls a3 _ z3 (HStd.out _ HJ.out.all.low)).mono ?_
      rintro e w1 ⟨v1, ev1, rfl, hv1, hb1, he1⟩
      have HJ1 : Hid (RdR w #[.string a0, .string a1, .string a2, .string a3, .string a4, .string a5, .string a6, .string a7, .string a8, .string a9, .string a10, .string a11] #[.string a0, .bool false, .string ⟨#[]⟩, .int .i64 0, .slice none 0 0, .string a9, .string a10, .int .i64 0] g w1) := HJ.out.next hb1
      have HE1 : Hid ((Lib.atoiAll a3.data.toList = .ok v1 ∧ ev1 = .nilIface) ∨ ((∀ z, Lib.atoiAll a3.data.toList ≠ .ok z) ∧ ∃ N, ev1 = .iface 131 (.pointer (some ⟨N, 0, none⟩)))) := he1
      have d11 := cellB HJ1.out.all.box (i := 11) rfl
      clear hb1 HJ c3 c11 he1
      have HTp : Hid (∀ W, Calls Tryz.prog 63 #[.string a11, .string ⟨#[65, 83, 58, 105, 58]⟩] W fun e w' => e = .returned (.string ⟨(Lib.trimPrefix a11.data.toList [65, 83, 58, 105, 58]).toArray⟩) ∧ w' = W) := fun W => Tryz.strings_TrimPrefix a11 ⟨#[65, 83, 58, 105, 58]⟩ W
      have htl : (Lib.trimPrefix a11.data.toList [65, 83, 58, 105, 58]).length ≤ 1048576 := by
        have := Lib.trimPrefix_le a11.data.toList [65, 83, 58, 105, 58]
        rw [size_toList] at this; omega
      obtain ⟨ts, hts⟩ : ∃ ts : ByteArray, (⟨(Lib.trimPrefix a11.data.toList [65, 83, 58, 105, 58]).toArray⟩ : ByteArray) = ts := ⟨_, rfl⟩
      have htd : ts.data.toList = Lib.trimPrefix a11.data.toList [65, 83, 58, 105, 58] := by rw [← hts, mk_list]
      have htz : ts.size ≤ 1048576 := by rw [← size_toList, htd]; exact htl
      rw [hts] at HTp
      rw [← htd] at HR
      clear hts htd htl
      go_wp2_with (go_at_call 63; refine (HTp.out _).mono ?_; rintro e w' ⟨rfl, rfl⟩; clear HTp)
      refine (atoi_calls ts _ htz (HStd.out _ HJ1.out.all.low)).mono ?_
      rintro e w2 ⟨v2, ev2, rfl, hv2, hb2, he2⟩
      have HJ2 : Hid (RdR w #[.string a0, .string a1, .string a2, .string a3, .string a4, .string a5, .string a6, .string a7, .string a8, .string a9, .string a10, .string a11] #[.string a0, .bool false, .string ⟨#[]⟩, .int .i64 0, .slice none 0 0, .string a9, .string a10, .int .i64 0] g w2) := HJ1.out.next hb2
      have HE2 : Hid ((Lib.atoiAll ts.data.toList = .ok v2 ∧ ev2 = .nilIface) ∨ ((∀ z, Lib.atoiAll ts.data.toList ≠ .ok z) ∧ ∃ N, ev2 = .iface 131 (.pointer (some ⟨N, 0, none⟩)))) := he2
      have d5 := cellB HJ2.out.all.box (i := 5) rfl
      clear hb2 HJ1 d11 he2
      go_wp2_with fail
      refine (parse_calls a5 _).mono ?_
      rintro e w3 ⟨v3, rfl, hown, hb3⟩
      have HJ3 : Hid (RdR w #[.string a0, .string a1, .string a2, .string a3, .string a4, .string a5, .string a6, .string a7, .string a8, .string a9, .string a10, .string a11] #[.string a0, .bool false, .string ⟨#[]⟩, .int .i64 0, .slice none 0 0, .string a9, .string a10, .int .i64 0] g w3) := HJ2.out.next hb3
      have HO3 : Hid (w3.ownsRow w.heap.size 37 2 v3 (parseA a5.data.toList).1.length (rowCells (parseA a5.data.toList).1)) := owned_base hown HJ2.out.all.low.size
      obtain ⟨ao, cap, rfl⟩ := owned_shape hown
      clear hb3 HJ2 d5 hown
      generalize hpz : (parseA a5.data.toList).2 = pz at *
      generalize hpl : (parseA a5.data.toList).1 = pl at *
      have e0 := cellB HJ3.out.all.ans (i := 0) rfl
      have e1 := cellB HJ3.out.all.ans (i := 1) rfl
      have e2 := cellB HJ3.out.all.ans (i := 2) rfl
      have e3 := cellB HJ3.out.all.ans (i := 3) rfl
      have e4 := cellB HJ3.out.all.ans (i := 4) rfl
      have e5 := cellB HJ3.out.all.ans (i := 5) rfl
      have e6 := cellB HJ3.out.all.ans (i := 6) rfl
      have e7 := cellB HJ3.out.all.ans (i := 7) rfl
      have ef := freeB HJ3.out.all.ans
      by_cases hbad : (∃ N, ev1 = .iface 131 (.pointer (some ⟨N, 0, none⟩))) ∨ (∃ N, ev2 = .iface 131 (.pointer (some ⟨N, 0, none⟩))) ∨ pz ≠ 0
      · have HNo : Hid ((readS a0.data.toList a2.data.toList a3.data.toList a5.data.toList a9.data.toList a10.data.toList a11.data.toList) = none) := by
          refine HR.out.2 ?_
          rcases hbad with ⟨N, h⟩ | ⟨N, h⟩ | h
          · rcases HE1.out with ⟨_, h2⟩ | ⟨h2, _⟩
            · rw [h2] at h; cases h
            · exact .inl h2
          · rcases HE2.out with ⟨_, h2⟩ | ⟨h2, _⟩
            · rw [h2] at h; cases h
            · exact .inr (.inl h2)
          · exact .inr (.inr h)
        have HP : Hid (∀ W, Below w.heap.size w W → ReadPost (readS a0.data.toList a2.data.toList a3.data.toList a5.data.toList a9.data.toList a10.data.toList a11.data.toList) w (.returned (.tuple #[.agg #[.string ⟨#[]⟩, .bool false, .string ⟨#[]⟩, .int .i64 0, .slice none 0 0, .string ⟨#[]⟩, .string ⟨#[]⟩, .int .i64 0], .bool false])) W) := fun W hW => ⟨RV.mk ⟨#[]⟩ false ⟨#[]⟩ 0 none 0 0 ⟨#[]⟩ ⟨#[]⟩ 0, false, rfl, by rw [HNo.out]; rfl, (fun r hr => by rw [HNo.out] at hr; cases hr), hW⟩
        have hcases : (∃ N, ev1 = .iface 131 (.pointer (some ⟨N, 0, none⟩))) ∨ (ev1 = .nilIface ∧ ∃ N, ev2 = .iface 131 (.pointer (some ⟨N, 0, none⟩))) ∨ (ev1 = .nilIface ∧ ev2 = .nilIface ∧ (pz != 0) = true) := by
          rcases HE1.out with ⟨_, h1⟩ | ⟨_, h1⟩
          · rcases HE2.out with ⟨_, h2⟩ | ⟨_, h2⟩
            · refine .inr (.inr ⟨h1, h2, ?_⟩)
              rcases hbad with ⟨N, h⟩ | ⟨N, h⟩ | h
              · rw [h1] at h; cases h
              · rw [h2] at h; cases h
              · simpa using h
            · exact .inr (.inl ⟨h1, h2⟩)
          · exact .inl h1
        clear HR HE1 HE2 hbad HNo HO3
        rcases hcases with ⟨N, rfl⟩ | ⟨rfl, N, rfl⟩ | ⟨rfl, rfl, hpz2⟩
        · go_wp2
          refine bodyPost_ret (v := .tuple #[.agg #[.string ⟨#[]⟩, .bool false, .string ⟨#[]⟩, .int .i64 0, .slice none 0 0, .string ⟨#[]⟩, .string ⟨#[]⟩, .int .i64 0], .bool false]) ?_ rfl (HP.out _ ?_)
          · simp only [results, hres]
            go_simp
          · exact below8 HJ3.out.all.low (show w.heap.size ≤ w.heap.size + 1 by omega) _ _ _ _ _ _ _ _
        · go_wp2
          refine bodyPost_ret (v := .tuple #[.agg #[.string ⟨#[]⟩, .bool false, .string ⟨#[]⟩, .int .i64 0, .slice none 0 0, .string ⟨#[]⟩, .string ⟨#[]⟩, .int .i64 0], .bool false]) ?_ rfl (HP.out _ ?_)
          · simp only [results, hres]
            go_simp
          · exact below8 HJ3.out.all.low (show w.heap.size ≤ w.heap.size + 1 by omega) _ _ _ _ _ _ _ _
        · go_wp2
          refine bodyPost_ret (v := .tuple #[.agg #[.string ⟨#[]⟩, .bool false, .string ⟨#[]⟩, .int .i64 0, .slice none 0 0, .string ⟨#[]⟩, .string ⟨#[]⟩, .int .i64 0], .bool false]) ?_ rfl (HP.out _ ?_)
          · simp only [results, hres]
            go_simp
          · exact below8 HJ3.out.all.low (show w.heap.size ≤ w.heap.size + 1 by omega) _ _ _ _ _ _ _ _
      · have hok : Lib.atoiAll a3.data.toList = .ok v1 ∧ ev1 = .nilIface ∧ Lib.atoiAll ts.data.toList = .ok v2 ∧ ev2 = .nilIface ∧ pz = 0 := by
          simp only [not_or, Decidable.not_not] at hbad
          rcases HE1.out with ⟨h1, h2⟩ | ⟨_, h2⟩
          · rcases HE2.out with ⟨h3, h4⟩ | ⟨_, h4⟩
            · exact ⟨h1, h2, h3, h4, hbad.2.2⟩
            · exact absurd h4 hbad.2.1
          · exact absurd h2 hbad.1
        obtain ⟨o1, rfl, o2, rfl, rfl⟩ := hok
        have HY : Hid ((readS a0.data.toList a2.data.toList a3.data.toList a5.data.toList a9.data.toList a10.data.toList a11.data.toList) = some ⟨a0.data.toList, true, a2.data.toList, v1, pl, a9.data.toList, a10.data.toList, v2⟩) := HR.out.1 v1 v2 o1 o2 rfl
        have hpz0 : ((0 : Int) != 0) = false := rfl
        have c2 := cellB HJ3.out.all.box (i := 2) rfl
        clear HR HE1 HE2 hbad o1 o2 e0 e1 e2 e3 e4 e5 e6 e7 ef
        go_wp2_with fail
        refine (clone_calls a2 _ z2).mono ?_
        rintro e w4 ⟨rfl, hb4⟩
        have HJ4 : Hid (RdR w #[.string a0, .string a1, .string a2, .string a3, .string a4, .string a5, .string a6, .string a7, .string a8, .string a9, .string a10, .string a11] #[.string a0, .bool false, .string ⟨#[]⟩, .int .i64 0, .slice none 0 0, .string a9, .string a10, .int .i64 0] g w4) := HJ3.out.next hb4
        have HO4 : Hid (w4.ownsRow w.heap.size 37 2 (.slice ao pl.length cap) pl.length (rowCells pl)) := owned_below HO3.out hb4
        clear hb4 HJ3 HO3 c2
        have e0 := cellB HJ4.out.all.ans (i := 0) rfl
        have e1 := cellB HJ4.out.all.ans (i := 1) rfl
        have e2 := cellB HJ4.out.all.ans (i := 2) rfl
        have e3 := cellB HJ4.out.all.ans (i := 3) rfl
        have e4 := cellB HJ4.out.all.ans (i := 4) rfl
        have e5 := cellB HJ4.out.all.ans (i := 5) rfl
        have e6 := cellB HJ4.out.all.ans (i := 6) rfl
        have e7 := cellB HJ4.out.all.ans (i := 7) rfl
        have r0 := cellB HJ4.out.got (i := 0) rfl
        have r1 := cellB HJ4.out.got (i := 1) rfl
        have r2 := cellB HJ4.out.got (i := 2) rfl
        have r3 := cellB HJ4.out.got (i := 3) rfl
        have r4 := cellB HJ4.out.got (i := 4) rfl
        have r5 := cellB HJ4.out.got (i := 5) rfl
        have r6 := cellB HJ4.out.got (i := 6) rfl
        have r7 := cellB HJ4.out.got (i := 7) rfl
        have ef := freeB HJ4.out.all.ans
        have rf := freeB HJ4.out.got
        have hg1 : ¬ g = w.heap.size + 1 := by omega
        have hg2 : ¬ w.heap.size + 1 = g := by omega
        go_wp2
        refine bodyPost_ret (v := .tuple #[.agg #[.string a0, .bool true, .string a2, .int .i64 v1, .slice ao pl.length cap, .string a9, .string a10, .int .i64 v2], .bool true]) ?_ rfl ⟨RV.mk a0 true a2 v1 ao pl.length cap a9 a10 v2, true, rfl, ?_, ?_, ?_⟩
        · simp only [results, hres]
          go_simp
        · rw [HY.out]; rfl
        · intro r hr
          rw [HY.out] at hr
          cases hr
          have n1 := owned_ne HO4.out HJ4.out.got (by decide)
          have n2 := owned_ne HO4.out HJ4.out.all.ans (by decide)
          refine ⟨rfl, ?_⟩
          exact owned_setNe (owned_setNe (owned_setNe (owned_setNe (owned_setNe (owned_setNe (owned_setNe (owned_setNe (owned_setNe (owned_setNe (owned_setNe (owned_setNe (owned_setNe HO4.out n1) n1) n1) n1) n1) n2) n2) n2) n2) n2) n2) n2) n2
        · have hgw : w.heap.size ≤ g := by omega
          exact below8 (((((HJ4.out.all.low.setCell hgw _).setCell hgw _).setCell hgw _).setCell hgw _).setCell hgw _) (show w.heap.size ≤ w.heap.size + 1 by omega) _ _ _ _ _ _ _ _
end Go.Proofs.YtdhphipdpjhhbaaGreatDoor
