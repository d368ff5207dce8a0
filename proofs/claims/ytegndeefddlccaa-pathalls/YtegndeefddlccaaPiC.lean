/-
  The function value that hands on all legal paths.
-/
import Derived.Test.YtegndeefddlccaaPiB
import Derived.Shelf.Abstract
import Derived.Shelf.RegionOpen
import Derived.WalkKit
import Derived.OwnWalkIn
import Derived.TacticsInMore
import Derived.LoopNIn
import Derived.LoopIn
namespace Go.Proofs.Ytegndeefddlccaa
open Go.RowKit Go.Shelf
attribute [local go_sem] Oper.semAt_some

def cellB (m : Md) (nx ny i j : Nat) : List Pt := if endB m nx ny (i : Int) (j : Int) then intoF m nx ny (i + j + 1) (i : Int) (j : Int) [] else []
def rowB (m : Md) (nx ny i : Nat) : List Pt := (List.range (ny + 1)).flatMap (cellB m nx ny i)
theorem pathsB_rows (m : Md) (nx ny : Nat) : pathsB m nx ny = (List.range (nx + 1)).flatMap (rowB m nx ny) := rfl
theorem rows_succ {α : Type} (f : Nat → List α) (k : Nat) : (List.range (k + 1)).flatMap f = (List.range k).flatMap f ++ f k := by simp [List.range_succ]
theorem rows_split {α : Type} (f : Nat → List α) {k n : Nat} (h : k < n) : ∃ r, (List.range n).flatMap f = (List.range k).flatMap f ++ (f k ++ r) := by
  induction n with
  | zero => omega
  | succ n ih =>
    by_cases e : k = n
    · subst e; exact ⟨[], by rw [rows_succ]; simp⟩
    · obtain ⟨r, hr⟩ := ih (by omega)
      exact ⟨r ++ f n, by rw [rows_succ, hr]; simp⟩
/-- Between two rounds of its loops. -/
structure PsS (J : List Pt → (Nat → Prop) → World → Prop) (s : List Pt) (O : Nat → Prop) (W : World) (fd : Array Value) (l bf : Nat) (ds : List Nat) (Ok : Nat → Prop) (w : World) : Prop where
  hJ : J s Ok w
  fr : Fr O W w
  ok : ∀ q, Ok q → O q ∨ W.heap.size ≤ q
  f : w.heap[bf]? = some (.cells fd 55 (0, 0))
  nf : ¬ Ok bf
  y : w.heap[W.heap.size]? = some (.cells #[.func (.yield l) #[] #[]] 58 (0, 0))
  ny : ¬ Ok W.heap.size
  nd : ds.Nodup
  ds : ∀ D ∈ ds, w.heap[D]? = some (.deferred (some [])) ∧ ¬ Ok D ∧ W.heap.size ≤ D
theorem PsS.next {J : List Pt → (Nat → Prop) → World → Prop} {s : List Pt} {O : Nat → Prop} {W : World} {fd : Array Value} {l bf : Nat} {ds : List Nat} {Ok : Nat → Prop} {w w' : World} (h : PsS J s O W fd l bf ds Ok w) (hst : Stab W.heap.size J) (hb : Below w.heap.size w w') :
    PsS J s O W fd l bf ds Ok w' :=
  ⟨hst _ _ _ _ (fun _ => False) h.hJ (Fr.of_below hb) (fun _ h => h.elim), h.fr.then_below hb, h.ok, (Fr.of_below (O := fun _ => False) hb).heap h.f (fun h => h), h.nf, (Fr.of_below (O := fun _ => False) hb).heap h.y (fun h => h), h.ny, h.nd, fun D hD => ⟨(Fr.of_below (O := fun _ => False) hb).heap (h.ds D hD).1 (fun h => h), (h.ds D hD).2⟩⟩
theorem PsS.done {J : List Pt → (Nat → Prop) → World → Prop} {s s' : List Pt} {O : Nat → Prop} {W : World} {fd : Array Value} {l bf D : Nat} {ds : List Nat} {Ok O' : Nat → Prop} {w w' : World} (h : PsS J s O W fd l bf ds Ok w)
    (hD : w.heap.size ≤ D) (hJ : J s' O' w') (hd : w'.heap[D]? = some (.deferred (some []))) (hn : ¬ O' D) (hf : Fr Ok w w') (ho : ∀ k, O' k → Ok k ∨ w.heap.size ≤ k) : PsS J s' O W fd l bf (D :: ds) O' w' := by
  have lt : ∀ {k : Nat} {o : Obj}, w.heap[k]? = some o → ¬ Ok k → ¬ O' k := fun hk hno ho' => by
    rcases ho _ ho' with h1 | h1
    · exact hno h1
    · have := (Array.getElem?_eq_some_iff.1 hk).1; omega
  refine ⟨hJ, h.fr.trans hf h.ok, fun q hq => ?_, hf.heap h.f h.nf, lt h.f h.nf, hf.heap h.y h.ny, lt h.y h.ny, ?_, ?_⟩
  · rcases ho q hq with h1 | h1
    · exact h.ok q h1
    · exact .inr (Nat.le_trans h.fr.size h1)
  · refine List.nodup_cons.2 ⟨fun hm => ?_, h.nd⟩
    have := (Array.getElem?_eq_some_iff.1 (h.ds D hm).1).1
    omega
  · intro E hE
    rcases List.mem_cons.1 hE with rfl | hE
    · exact ⟨hd, hn, Nat.le_trans h.fr.size hD⟩
    · exact ⟨hf.heap (h.ds E hE).1 (h.ds E hE).2.1, lt (h.ds E hE).1 (h.ds E hE).2.1, (h.ds E hE).2.2⟩

set_option maxRecDepth 100000 in
set_option maxHeartbeats 4000000 in
theorem paths1_gives (m : Md) (sa : Option Addr) (sn sc : Nat) (ga : Option Addr) (gn gc : Nat) (xa : Option Addr) (xn xc : Nat) (ya : Option Addr) (yn yc : Nat) (hx : xn ≤ 400) (hy : yn ≤ 400) (hg : m.gaps.length = gn) (bf : Nat) (W : World) (h1 : W.heap[bf]? = some (.cells (fdCells m sa sn sc ga gn gc xa xn xc ya yn yc) 55 (0, 0))) :
    Gives Try.prog 56 #[.pointer (some ⟨bf, 0, none⟩)] encP (pathsB m xn yn) (fun k => k = bf) W := by
  intro l J O hC hst hlt hY h0
  have hxm : xn ≤ maxLen := by unfold maxLen; omega
  have hym : yn ≤ maxLen := by unfold maxLen; omega
  have hOW : ¬ O W.heap.size := fun h => by have := hlt _ _ _ h0 _ h; omega
  have hS0 : PsS J ((List.range 0).flatMap (rowB m xn yn)) O W (fdCells m sa sn sc ga gn gc xa xn xc ya yn yc) l bf [] O (W.alloc (.cells #[.func (.yield l) #[] #[]] 58)) :=
    ⟨hst _ _ _ _ (fun _ => False) h0 (Fr.of_below (bl1 _ _)) (fun _ h => h.elim), Fr.of_below (bl1 _ _), fun q h => .inl h, hp_old h1, hC _ rfl, hp_at rfl, hOW, List.nodup_nil, fun D hD => by cases hD⟩
  obtain ⟨c0, c1, c2, c3, c4, c5, c6, c7, c8, c9, c10, c11⟩ := fdC_of hS0.f
  refine callsIn_of_wp_marks Try.func56 rfl trivial ?_ rfl
  simp only [Try.ntmps56, List.size_toArray, List.length_cons, List.length_nil, Nat.reduceAdd, Nat.reduceSub, Array.replicate_succ, Array.replicate_zero, List.push_toArray, List.append_toArray, List.nil_append, List.cons_append]
  gi_wp2
  refine wpIn_loop (fun a w => ∃ (k : Nat) (ds : List Nat) (Ok : Nat → Prop) (u0 u3 u4 u5 u6 u7 u8 u11 u12 u13 u14 u15 u16 u17 u18 u19 u20 u21 u22 u23 u24 u25 u26 u27 u28 u29 u30 u31 u32 u33 u34 u35 : Value), a = { tmps := #[u0, .pointer (some ⟨bf, 0, none⟩), .pointer (some ⟨W.heap.size, 0, none⟩), u3, u4, u5, u6, u7, u8, .int .i64 ((xn : Int) + 1), .int .i64 (k : Int), u11, u12, u13, u14, u15, u16, u17, u18, u19, u20, u21, u22, u23, u24, u25, u26, u27, u28, u29, u30, u31, u32, u33, u34, u35], defers := ds.map mk } ∧ k ≤ xn + 1 ∧ PsS J ((List.range k).flatMap (rowB m xn yn)) O W (fdCells m sa sn sc ga gn gc xa xn xc ya yn yc) l bf ds Ok w) (fun a _ => xn + 1 - (intOf (a.tmps.getD 10 undef)).toNat) ?_ ?_
  · exact ⟨0, [], O, _, _, _, _, _, _, _, _, _, _, _, _, _, _, _, _, _, _, _, _, _, _, _, _, _, _, _, _, _, _, _, _, rfl, by omega, hS0⟩
  · clear hS0 c0 c1 c2 c3 c4 c5 c6 c7 c8 c9 c10 c11
    rintro a wr ⟨k, ds, Ok, u0, u3, u4, u5, u6, u7, u8, u11, u12, u13, u14, u15, u16, u17, u18, u19, u20, u21, u22, u23, u24, u25, u26, u27, u28, u29, u30, u31, u32, u33, u34, u35, rfl, hk, hS⟩
    by_cases hkl : k < xn + 1
    · obtain ⟨d0, d1, d2, d3, d4, d5, d6, d7, d8, d9, d10, d11⟩ := fdC_of hS.f
      gi_wp2
      refine wpIn_loop (fun a w => ∃ (q : Nat) (ds : List Nat) (Ok : Nat → Prop) (u0 u4 u5 u6 u7 u8 u11 u12 u13 u14 u15 u18 u19 u20 u21 u22 u23 u24 u25 u26 u27 u28 u29 u30 u31 u32 u33 u34 u35 : Value), a = { tmps := #[u0, .pointer (some ⟨bf, 0, none⟩), .pointer (some ⟨W.heap.size, 0, none⟩), .int .i64 (k : Int), u4, u5, u6, u7, u8, .int .i64 ((xn : Int) + 1), .int .i64 (k : Int), u11, u12, u13, u14, u15, .int .i64 ((yn : Int) + 1), .int .i64 (q : Int), u18, u19, u20, u21, u22, u23, u24, u25, u26, u27, u28, u29, u30, u31, u32, u33, u34, u35], defers := ds.map mk } ∧ q ≤ yn + 1 ∧ PsS J ((List.range k).flatMap (rowB m xn yn) ++ (List.range q).flatMap (cellB m xn yn k)) O W (fdCells m sa sn sc ga gn gc xa xn xc ya yn yc) l bf ds Ok w) (fun a _ => yn + 1 - (intOf (a.tmps.getD 17 undef)).toNat) ?_ ?_
      · exact ⟨0, ds, Ok, _, _, _, _, _, _, _, _, _, _, _, _, _, _, _, _, _, _, _, _, _, _, _, _, _, _, _, _, _, rfl, by omega, by simpa using hS⟩
      · clear hS d0 d1 d2 d3 d4 d5 d6 d7 d8 d9 d10 d11
        rintro a wr ⟨q, ds, Ok, u0, u4, u5, u6, u7, u8, u11, u12, u13, u14, u15, u18, u19, u20, u21, u22, u23, u24, u25, u26, u27, u28, u29, u30, u31, u32, u33, u34, u35, rfl, hq, hS⟩
        by_cases hql : q < yn + 1
        · obtain ⟨e0, e1, e2, e3, e4, e5, e6, e7, e8, e9, e10, e11⟩ := fdC_of hS.f
          obtain ⟨en, hen⟩ : ∃ en, endB m xn yn (k : Int) (q : Int) = en := ⟨_, rfl⟩
          gi_wp2_with (first
            | (refine ⟨trivial, rfl, ?_⟩; gi_at_call 49; refine (callsIn_wide.2 (mayEnd_calls m sa sn sc ga gn gc xa xn xc ya yn yc (k : Int) (q : Int) _)).mono ?_; rintro e w4 ⟨rfl, hb4⟩; rw [hen]; replace hS := hS.next hst hb4; obtain ⟨g0, g1, g2, g3, g4, g5, g6, g7, g8, g9, g10, g11⟩ := fdC_of hS.f; cases en)
            | (refine ⟨trivial, rfl, ?_⟩; gi_at_call 57; refine (callsIn_wide.2 (into_calls m sa sn sc ga gn gc xa xn xc ya yn yc (k : Int) (q : Int) [] _)).mono ?_; rintro e w6 ⟨bf', bi', bj', bb', rfl, hb6, hge, hbf', hbi', hbj', hbb'⟩; have hS4 := hS; replace hS := hS.next hst hb6))
          · refine ⟨⟨q + 1, ds, Ok, _, _, _, _, _, _, _, _, _, _, _, _, _, _, _, _, _, _, _, _, _, _, _, _, _, _, _, _, _, rfl, by omega, ?_⟩, by simp [intOf]; omega⟩
            have hp : cellB m xn yn k q = [] := by simp [cellB, hen]
            rw [rows_succ, hp]
            simpa using hS
          · have hlt4 : ∀ k, Ok k → k < w4.heap.size := fun k h => hlt _ _ _ hS4.hJ _ h
            have hp : cellB m xn yn k q = intoF m xn yn (k + q + 1) (k : Int) (q : Int) [] := by simp [cellB, hen]
            refine rf_law (gf := 65) (encs := encP) (xs := cellB m xn yn k q) (C := fun k => k = bf' ∨ k = bi' ∨ k = bj' ∨ k = bb') rfl (enters_of Try.func65 (by kernel_rfl) rfl) (fun _ => rfl)
              (fun W' hb' => by rw [hp]; exact into1_gives m sa sn sc ga gn gc xa xn xc ya yn yc hxm hym hg (k + q + 1) (k : Int) (q : Int) [] bf' bi' bj' bb' W' (by omega) (by omega) (by omega) (by simp; omega) ((Fr.of_below (O := fun _ => False) hb').heap hbf' (fun h => h)) ((Fr.of_below (O := fun _ => False) hb').heap hbi' (fun h => h)) ((Fr.of_below (O := fun _ => False) hb').heap hbj' (fun h => h)) ((Fr.of_below (O := fun _ => False) hb').heap hbb' (fun h => h)))
              (fun pre Oq Wq => J ((List.range k).flatMap (rowB m xn yn) ++ (List.range q).flatMap (cellB m xn yn k) ++ pre) Oq Wq ∧ Wq.heap[W.heap.size]? = some (.cells #[.func (.yield l) #[] #[]] 58 (0, 0)) ∧ ¬ Oq W.heap.size) Ok
              (fun s Oq A h => hlt _ _ _ h.1) (fun q' hq' => ⟨?_, fun ho => ?_⟩) (fun s Oq A B T h hf hT => ⟨(hst.mono hS.fr.size) _ _ _ _ _ h.1 hf hT, hf.heap h.2.1 (fun ht => by have := (hT _ ht).1; have := (Array.getElem?_eq_some_iff.1 hS.y).1; omega), h.2.2⟩) ⟨by simpa using hS.hJ, hS.y, hS.ny⟩ pBox ?_ ?_
            · rcases hq' with rfl | rfl | rfl | rfl
              · exact (Array.getElem?_eq_some_iff.1 hbf').1
              · exact (Array.getElem?_eq_some_iff.1 hbi').1
              · exact (Array.getElem?_eq_some_iff.1 hbj').1
              · exact (Array.getElem?_eq_some_iff.1 hbb').1
            · have := hlt4 _ ho
              rcases hq' with rfl | rfl | rfl | rfl <;> omega
            · intro l' pre x post Oq Wq hxp hKq hnl hle
              simp only [encP, ptV]
              gi_wp2
              refine ⟨rfl, ?_⟩
              rintro W2 ⟨hJq, hyq, hnq⟩ hbx hnb
              have hx0 := cell_block hbx 0 _ rfl
              have hx1 := cell_block hbx 1 _ rfl
              have hx2 := cell_block hbx 2 _ rfl
              have hyc := cell_block hyq 0 _ rfl
              obtain ⟨r1, hr1⟩ := rows_split (rowB m xn yn) hkl
              obtain ⟨r2, hr2⟩ := rows_split (cellB m xn yn k) hql
              have hall : pathsB m xn yn = ((List.range k).flatMap (rowB m xn yn) ++ (List.range q).flatMap (cellB m xn yn k) ++ pre) ++ x :: (post ++ (r2 ++ r1)) := by
                rw [pathsB_rows, hr1, show rowB m xn yn k = (List.range (yn + 1)).flatMap (cellB m xn yn k) from rfl, hr2, hxp]
                simp
              obtain ⟨fn', tmps', assign', body', hyy, hR'⟩ := hY ((List.range k).flatMap (rowB m xn yn) ++ (List.range q).flatMap (cellB m xn yn k) ++ pre) x (post ++ (r2 ++ r1)) Oq W2 hall hJq
              simp only [encP, ptV] at hyy
              gi_wp2
              refine ⟨rfl, ?_⟩
              refine (RoundIn.inR hR').mono ?_
              rintro e W3 ⟨rfl, O', hJ', hf', ho'⟩
              gi_wp2
              refine ⟨O', ⟨by simpa using hJ', hf'.heap hyq hnq, fun h => ?_⟩, hf', ho'⟩
              rcases ho' _ h with h | h
              · exact hnq h
              · have := (Array.getElem?_eq_some_iff.1 hyq).1; omega
            · rintro D O' W' hD ⟨hJ', hy', hn'⟩ hd hnD hf' ho'
              gi_wp2
              have hS' := hS.done hD hJ' hd hnD hf' ho'
              refine ⟨⟨q + 1, D :: ds, O', _, _, _, _, _, _, _, _, _, _, _, _, _, _, _, _, _, _, _, _, _, _, _, _, _, _, _, _, _, rfl, by omega, ?_⟩, by simp [intOf]; omega⟩
              rw [rows_succ]
              simpa using hS'
        · have hq1 : q = yn + 1 := by omega
          gi_wp2
          refine ⟨⟨k + 1, ds, Ok, _, _, _, _, _, _, _, _, _, _, _, _, _, _, _, _, _, _, _, _, _, _, _, _, _, _, _, _, _, _, _, _, rfl, by omega, ?_⟩, by simp [intOf]; omega⟩
          rw [rows_succ]
          rw [hq1] at hS
          exact hS
    · have hk1 : k = xn + 1 := by omega
      gi_wp2
      refine leaves_marks ds wr hS.nd (fun D hD => (hS.ds D hD).1) (fun W' hf => ⟨_, results_none rfl _ _ _, ⟨_, rfl⟩, Ok, ?_, ?_, hS.ok⟩)
      · rw [pathsB_rows, ← hk1]
        exact hst _ _ _ _ _ hS.hJ hf (fun D hD => ⟨(hS.ds D hD).2.2, (hS.ds D hD).2.1⟩)
      · exact hS.fr.trans hf (fun D hD => .inr (hS.ds D hD).2.2)
set_option maxHeartbeats 1000000 in
theorem paths_calls (m : Md) (sa : Option Addr) (sn sc : Nat) (ga : Option Addr) (gn gc : Nat) (xa : Option Addr) (xn xc : Nat) (ya : Option Addr) (yn yc : Nat) (w : World) :
    Calls Try.prog 33 #[.agg (fdCells m sa sn sc ga gn gc xa xn xc ya yn yc)] w fun e w' => ∃ bf : Nat, e = .returned (.func (.func 56) #[] #[.pointer (some ⟨bf, 0, none⟩)]) ∧ Below w.heap.size w w' ∧ w.heap.size ≤ bf ∧ w'.heap[bf]? = some (.cells (fdCells m sa sn sc ga gn gc xa xn xc ya yn yc) 55 (0, 0)) := by
  unfold fdCells
  go_enter Try.func33, Try.ntmps33
  go_wp2
  go_ret
  exact ⟨w.heap.size, rfl, bl1 _ _, Nat.le_refl _, hp_at rfl⟩

end Go.Proofs.Ytegndeefddlccaa
