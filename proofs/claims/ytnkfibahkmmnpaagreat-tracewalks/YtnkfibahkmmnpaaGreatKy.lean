/-
  The document's walk: its columns; what it has in memory. The walk of the document's Walk.
-/
import Derived.Test.YtnkfibahkmmnpaaGreatKv
import Derived.Test.YtnkfibahkmmnpaaGreatKq
namespace Go.Proofs.YtnkfibahkmmnpaaGreat
open Go.RowKit Go.Deep Go.Maps

/-- The columns so far, from the last one. -/
def colsR (t : List UInt8) (k : Nat) : Array Value := Array.ofFn (n := t.length) fun m => if m.val < k then u8E (t.reverse.getD m.val 0) else .int .u8 0
theorem colsR_get (t : List UInt8) (k : Nat) {m : Nat} (hm : m < t.length) : (colsR t k)[m]? = some (if m < k then u8E (t.reverse.getD m 0) else .int .u8 0) := by simp [colsR, hm]
theorem colsR_set (t : List UInt8) (k : Nat) : (colsR t k).setIfInBounds k (u8E (t.reverse.getD k 0)) = colsR t (k + 1) := by
  apply Array.ext_getElem?
  intro j
  by_cases hj : j < t.length
  · rw [Array.getElem?_setIfInBounds, colsR_get _ _ hj, colsR_get _ _ hj]
    by_cases e : k = j
    · subst e; simp [colsR, hj]
    · rw [if_neg e]
      by_cases h : j < k
      · rw [if_pos h, if_pos (by omega)]
      · rw [if_neg h, if_neg (by omega)]
  · rw [Array.getElem?_eq_none (by simp [colsR]; omega), Array.getElem?_eq_none (by simp [colsR]; omega)]
theorem colsR_new (t : List UInt8) : madeCells #[.int .u8 0] t.length = colsR t 0 := by
  apply Array.ext_getElem?
  intro j
  by_cases hj : j < t.length
  · rw [colsR_get _ _ hj, if_neg (by omega)]; simp [madeCells, hj, Nat.mod_one]
  · rw [Array.getElem?_eq_none (by simp [madeCells]; omega), Array.getElem?_eq_none (by simp [colsR]; omega)]
theorem make_cols (t : List UInt8) (n : Nat) (ht : t.length = n) (hn : n ≤ 1048576) (W : World) : (Instr.makeSlice 75 (.int .i64 n) (.int .i64 n)).run Tryz.prog W = .ok (.slice (some ⟨W.heap.size, 0, none⟩) n n) (W.alloc (.cells (colsR t 0) 5)) := by
  obtain ⟨i, hi, hz, hs, hb⟩ := info_parts info5E
  have := run_make (P := Tryz.prog) W 75 5 i _ Tryz.underlying75 hi hz .i64 .i64 n n (by omega) (by omega) (by rw [hb]; omega) (by omega)
  rw [this, hs, Int.toNat_natCast, Nat.mul_one, ← colsR_new, ht]; rfl
theorem conv_cols (V : World) (b : Nat) (t : List UInt8) (n : Nat) (ht : t.length = n) (h : V.heap[b]? = some (.cells (colsR t n) 5 (0, 0))) : (convert 75 9 (.slice (some ⟨b, 0, none⟩) n n)).run Tryz.prog V = .ok (.string ⟨t.reverse.toArray⟩) V := by
  subst ht
  have := run_convert_bytes_back (P := Tryz.prog) V 75 9 5 ⟨b, 0, none⟩ t.length t.reverse Tryz.underlying75 Tryz.underlying5 Tryz.underlying9 (fun j hj => by
    have hadd : (⟨b, 0, none⟩ : Addr).add j = ⟨b, 0 + j, none⟩ := by unfold Addr.add; split <;> simp_all
    have hj' : j < t.length := by simpa using hj
    rw [hadd, Nat.zero_add, cell_block h j _ (colsR_get _ _ hj'), if_pos hj', List.getD_eq_getElem?_getD, List.getElem?_eq_getElem hj]
    simp [u8E])
  rw [List.length_reverse] at this
  exact this
theorem own_neq {W : World} {B n f : Nat} {v : Value} {l : List Value} {cs : Array Value} {ty : TypeId} (h : W.ownsRow B 5 1 v n l) (hf : W.heap[f]? = some (.cells cs ty (0, 0))) (ht : ty ≠ 5) : some f ≠ v.ownBlock := by
  intro e
  rcases h.2 with ⟨hv, _⟩ | ⟨g', cap', cur', hv, _, hg', _⟩
  · rw [hv] at e; cases e
  · rw [hv] at e; simp [Value.ownBlock] at e; subst e; rw [hg'] at hf; injection hf with hf; injection hf with _ h2; exact ht h2.symm
/-- The walk so far: the result's box, the set, the columns gone. -/
structure Qw (w W : World) (sb P : Nat) (S : Nat → Bool) (ao : Option Addr) (cap : Nat) (t : List UInt8) : Prop where
  low : Below w.heap.size w W
  res : W.heap[w.heap.size]? = some (.cells #[.int .i64 0, .int .i64 0, .int .i64 0, .string ⟨#[]⟩] 39 (0, 0))
  set : W.heap[sb]? = some (.cells (bsC S P) 4 (0, 0))
  own : W.ownsRow (w.heap.size + 1) 5 1 (.slice ao t.length cap) t.length (byE t)
section
variable {w W V : World} {sb P : Nat} {S : Nat → Bool} {ao : Option Addr} {cap : Nat} {t : List UInt8}
theorem Qw.next (h : Qw w W sb P S ao cap t) (hb : Below W.heap.size W V) : Qw w V sb P S ao cap t :=
  ⟨h.low.trans (hb.mono h.low.size), by rw [hb.block _ (lt_block h.res)]; exact h.res, by rw [hb.block _ (lt_block h.set)]; exact h.set, owned_below h.own hb⟩
theorem Qw.turn (h : Qw w W sb P S ao cap t) {tb : Nat} {T : Nat → Bool} (ht : W.heap[tb]? = some (.cells (bsC T P) 4 (0, 0))) : Qw w W tb P T ao cap t := ⟨h.low, h.res, ht, h.own⟩
theorem Qw.grown (h : Qw w W sb P S ao cap t) (hg : W.grownBy V (Value.slice ao t.length cap).ownBlock) {ao2 : Option Addr} {cap2 : Nat} {t2 : List UInt8} (ho : V.ownsRow (w.heap.size + 1) 5 1 (.slice ao2 t2.length cap2) t2.length (byE t2)) : Qw w V sb P S ao2 cap2 t2 := by
  have hz := lt_block h.res
  have hne : ∀ k, k < w.heap.size + 1 → some k ≠ (Value.slice ao t.length cap).ownBlock := fun k hk e => by have := (h.own.lt k e.symm).1; omega
  exact ⟨h.low.grown hg h.low.size (fun k hk => by have := (h.own.lt k hk).1; omega), by rw [hg.block _ hz (hne _ (by omega))]; exact h.res, by rw [hg.block _ (lt_block h.set) (own_neq h.own h.set (by decide))]; exact h.set, ho⟩
end
end Go.Proofs.YtnkfibahkmmnpaaGreat

namespace Go.Proofs.YtnkfibahkmmnpaaGreat
open Go.RowKit Go.Deep Go.Maps

section
variable {w0 w : World} {p : Dp} {c : Cd} {s : Ls} {sx sy se : Sl} {x y : List Int} {st : Int}
set_option maxRecDepth 10000 in
set_option maxHeartbeats 8000000 in
theorem dwalk_calls (hg : Gk c) (h : Dt w0 w p c s sx sy x y se (runM c x y) st) (hn : Nrm c x.length y.length (runM c x y)) (hxy : (x.length + 1) * (y.length + 1) ≤ 1048576) (hx : x.length ≤ 65536) (hy : y.length ≤ 65536) :
    Calls Tryz.prog 9 #[.pointer (some ⟨p.b, 0, none⟩)] w (WalkPost c x y w) := by
  have hres : Tryz.f9.results = #[.cell 2 39, .tmp 3] := by kernel_rfl
  have hpl := hg.rt.planes
  have hcP : c.planes = (c.planes.toNat : Int) := by omega
  have HD : Hid (∀ W, Below w.heap.size w W → Dt w0 W p c s sx sy x y se (runM c x y) st) := fun W hW => h.next hW
  have HBt : Hid (∀ W, Below w.heap.size w W → Calls Tryz.prog 23 #[.pointer (some ⟨p.b, 0, none⟩)] W (BestPost (runM c x y).ends W)) := fun W hW => dbest_calls (h.next hW) hn.pl (by omega) (run_found c x y)
  have HNx : Hid (∀ (W : World) (sb : Nat) (S : Nat → Bool) (i j : Nat) (z : Int), Below w.heap.size w W → W.heap[sb]? = some (.cells (bsC S c.planes.toNat) 4 (0, 0)) → i ≤ 65536 → j ≤ 65536 → Calls Tryz.prog 24 #[.pointer (some ⟨p.b, 0, none⟩), .slice (some ⟨sb, 0, none⟩) c.planes.toNat c.planes.toNat, .int .i64 (i : Int), .int .i64 (j : Int), .int .i64 z] W (NextPost c.planes.toNat (goL (maskB c x y i j) S z c.arrows) W)) := fun W sb S i j z hW hS hi hj =>
    dnext_calls (h.next hW) hn hxy hcP (by omega) sb S hS i j hi hj z (by have := hg.rt.alen; omega) (fun a ha => by have := hg.arw ha; omega)
  have HR : Hid ((w.alloc (.cells #[.int .i64 0, .int .i64 0, .int .i64 0, .string ⟨#[]⟩] 39)).heap[w.heap.size]? = some (.cells #[.int .i64 0, .int .i64 0, .int .i64 0, .string ⟨#[]⟩] 39 (0, 0)) ∧ Below w.heap.size w (w.alloc (.cells #[.int .i64 0, .int .i64 0, .int .i64 0, .string ⟨#[]⟩] 39))) := ⟨heap_alloc_new _ _, below_new _⟩
  have HPl : Hid (∀ k, (runM c x y).ends.planes k = true → k < c.planes.toNat) := hn.pl
  have hP1 : 1 ≤ c.planes.toNat ∧ c.planes.toNat ≤ 10 := by omega
  obtain ⟨hP1, hP10⟩ := hP1
  have hm := make_bools c.planes.toNat (by omega)
  clear h hn
  go_enter Tryz.func9, Tryz.ntmps9
  go_wp2_with fail
  refine (HBt.out _ HR.out.2).mono ?_
  rintro e w1 ⟨ao1, cap1, rfl, ho1, hb1⟩
  have H1 : Hid (w1.heap[w.heap.size]? = some (.cells #[.int .i64 0, .int .i64 0, .int .i64 0, .string ⟨#[]⟩] 39 (0, 0)) ∧ Below w.heap.size w w1 ∧ IntsAt w1 ao1 (risB (runM c x y).ends).length (risB (runM c x y).ends)) :=
    ⟨by rw [hb1.block _ (lt_block HR.out.1)]; exact HR.out.1, HR.out.2.trans (hb1.mono HR.out.2.size), ints_owned ho1⟩
  clear ho1 hb1 HR HBt
  cases hf : (runM c x y).ends.found with
  | false =>
    have r0 := cell_block H1.out.1 0 _ rfl
    have r1 := cell_block H1.out.1 1 _ rfl
    have r2 := cell_block H1.out.1 2 _ rfl
    have r3 := cell_block H1.out.1 3 _ rfl
    have rf : ∀ k, w1.frozen? ⟨w.heap.size, k, none⟩ = false := fun k => frozen_of_row _ _ k _ _ H1.out.1
    have HX : Hid (∀ W : World, Below w.heap.size w W → WalkPost c x y w (.returned (.tuple #[.agg #[.int .i64 0, .int .i64 0, .int .i64 0, .string ⟨#[]⟩], .int .i64 130])) W) := fun W hW => ⟨by unfold wlkF wlkE; rw [hf]; rfl, hW⟩
    clear hf HD HNx HPl
    generalize (risB (runM c x y).ends).length = rl at *
    generalize (runM c x y).ends = E at *
    obtain ⟨e1, e2, e3, e4, e5⟩ := E
    go_wp2
    refine bodyPost_ret (v := .tuple #[.agg #[.int .i64 0, .int .i64 0, .int .i64 0, .string ⟨#[]⟩], .int .i64 130]) ?_ rfl (HX.out _ ?_)
    · simp only [results, hres]
      go_simp
    · exact (((H1.out.2.1.setCell (p := ⟨w.heap.size, 0, none⟩) (Nat.le_refl _) _).setCell (p := ⟨w.heap.size, 1, none⟩) (Nat.le_refl _) _).setCell (p := ⟨w.heap.size, 2, none⟩) (Nat.le_refl _) _).setCell (p := ⟨w.heap.size, 3, none⟩) (Nat.le_refl _) _
  | true =>
    obtain ⟨i0, j0, hi, hj, hix, hjy, hwk⟩ := wk_start hg hf
    have HX : Hid (∀ W : World, Below w.heap.size w W → WalkPost c x y w (.returned (.tuple #[.agg #[.int .i64 (runM c x y).ends.score, .int .i64 ((wayL c x y).2.1 : Int), .int .i64 ((wayL c x y).2.2 : Int), .string (colS (wayL c x y).1)], .int .i64 0])) W) := fun W hW => ⟨by unfold wlkF wlkE; rw [hf]; rfl, hW⟩
    have hway : wayL c x y = goW c x y (i0 + j0 + 1) i0 j0 (setL (risB (runM c x y).ends)) := by
      unfold wayL
      rw [hi, hj]
      rfl
    have HWy : Hid (Wy c x y (wayL c x y).1 (wayL c x y).2.1 (wayL c x y).2.2 0 i0 j0 (setL (risB (runM c x y).ends))) := by
      show Wy _ _ _ _ _ _ _ _ _ _
      rw [hway]; exact Wy.start hwk
    have HEn : Hid ((wayL c x y).1.length ≤ i0 + j0) := by
      show _ ≤ _
      rw [hway]; exact (goW_ends hg _ _ _ _ hwk (by omega)).2.2.2
    have HK : Hid (Gk c) := hg
    have HPr : Hid (∀ z ∈ risB (runM c x y).ends, 0 ≤ z ∧ z < (c.planes.toNat : Int)) := fun z hz => by
      obtain ⟨k, _, k2, rfl⟩ := (ris_mem _ _).1 hz
      have := HPl.out k k2
      omega
    have c1 := (HD.out w1 H1.out.2.1).cell 1 (v := .int .i64 c.planes) rfl
    rw [hcP] at c1
    have hi' : (runM c x y).ends.i = (i0 : Int) := hi
    have hj' : (runM c x y).ends.j = (j0 : Int) := hj
    have hi6 : i0 ≤ 65536 := by omega
    have hj6 : j0 ≤ 65536 := by omega
    rw [hi', hj']
    clear hwk hi hj hi' hj' hix hjy hway hf hg HPl hcP hpl
    have hn10 : (risB (runM c x y).ends).length ≤ 10 := risL_len _ 10
    obtain ⟨l, hll⟩ : ∃ l, risB (runM c x y).ends = l := ⟨_, rfl⟩
    rw [hll] at H1 HWy HPr hn10 ⊢
    clear hll
    obtain ⟨n, hnl⟩ : ∃ n, l.length = n := ⟨_, rfl⟩
    have HL : Hid (l.length = n) := hnl
    rw [hnl] at H1 hn10 ⊢
    clear hnl
    generalize (runM c x y).ends.score = sc at *
    obtain ⟨cols, hcols⟩ : ∃ cols, (wayL c x y).1 = cols := ⟨_, rfl⟩
    rw [hcols] at HX HWy HEn
    obtain ⟨I, hI⟩ : ∃ I, (wayL c x y).2.1 = I := ⟨_, rfl⟩
    rw [hI] at HX HWy
    obtain ⟨J, hJ⟩ : ∃ J, (wayL c x y).2.2 = J := ⟨_, rfl⟩
    rw [hJ] at HX HWy
    clear hcols hI hJ
    obtain ⟨P, hPP⟩ : ∃ P, c.planes.toNat = P := ⟨_, rfl⟩
    simp only [hPP] at c1 hm hP1 hP10 HPr HNx
    clear hPP
    go_upto_region 5 with (fail)
    obtain ⟨w2, hw2⟩ : ∃ w2, w2 = w1.alloc (.cells (bsC (fun _ => false) P) 4) := ⟨_, rfl⟩
    have H2 : Hid (Below w.heap.size w w2 ∧ w2.heap[w.heap.size]? = some (.cells #[.int .i64 0, .int .i64 0, .int .i64 0, .string ⟨#[]⟩] 39 (0, 0)) ∧ w2.heap[w1.heap.size]? = some (.cells (bsC (setL (l.take 0)) P) 4 (0, 0)) ∧ IntsAt w1 ao1 n l ∧ w.heap.size < w1.heap.size ∧ Below w1.heap.size w1 w2) := by
      have hb := below_new (w := w1) (.cells (bsC (fun _ => false) P) 4)
      rw [← hw2] at hb
      refine ⟨H1.out.2.1.trans (hb.mono H1.out.2.1.size), by rw [hb.block _ (lt_block H1.out.1)]; exact H1.out.1, by rw [hw2]; exact heap_alloc_new _ _, H1.out.2.2, lt_block H1.out.1, hb⟩
    rw [← hw2]
    clear hw2 c1 H1
    obtain ⟨sb0, hsb0⟩ : ∃ sb0, w1.heap.size = sb0 := ⟨_, rfl⟩
    rw [hsb0] at H2 ⊢
    have HSz : Hid (w1.heap.size = sb0) := hsb0
    clear hsb0
    have HLa : Hid (setL l = setL l) := rfl
    obtain ⟨S0, hS0⟩ : ∃ S0, setL l = S0 := ⟨_, rfl⟩
    rw [hS0] at HWy
    have HS0 : Hid (setL l = S0) := hS0
    clear hS0 HLa
    go_wp2
    go_loopg [10] n (fun q v wr => ∃ k : Nat, k + q = n ∧ v = .int .i64 (k : Int) ∧ Hid (Below w.heap.size w wr ∧ wr.heap[w.heap.size]? = some (.cells #[.int .i64 0, .int .i64 0, .int .i64 0, .string ⟨#[]⟩] 39 (0, 0)) ∧ wr.heap[sb0]? = some (.cells (bsC (setL (l.take k)) P) 4 (0, 0)) ∧ Below sb0 w1 wr))
    case atStart => exact ⟨0, by omega, rfl, H2.out.1, H2.out.2.1, H2.out.2.2.1, H2.out.2.2.2.2.2⟩
    case round =>
      obtain ⟨k, hkn, rfl, HO⟩ := hrel
      by_cases hk : k < n
      · have hd : decide ((k : Int) < (n : Int)) = true := decide_eq_true (by omega)
        have hgk : 0 < gk := by omega
        obtain ⟨lb, lo, hla, hlc⟩ := (H2.out.2.2.2.1.below (by rw [HSz.out]; exact HO.out.2.2.2)).cells (by omega)
        have e0 := hlc k hk
        have hmem : l.getD k 0 ∈ l := by
          rw [List.getD_eq_getElem?_getD, List.getElem?_eq_getElem (by rw [HL.out]; exact hk)]
          exact List.getElem_mem _
        have hr := HPr.out _ hmem
        have HT : Hid (l.take (k + 1) = l.take k ++ [l.getD k 0]) := by
          show _ = _
          rw [List.getD_eq_getElem?_getD, List.getElem?_eq_getElem (show k < l.length by rw [HL.out]; exact hk), List.take_add_one, List.getElem?_eq_getElem (show k < l.length by rw [HL.out]; exact hk)]
          rfl
        clear hlc
        generalize l.getD k 0 = z at *
        obtain ⟨pn, rfl⟩ := Int.eq_ofNat_of_zero_le hr.1
        have hpn : pn < P := by omega
        have hpz : (pn : Int) < (P : Int) := hr.2
        have t0 := cell_block HO.out.2.2.1 pn _ (bsC_get _ _ hpn)
        have tf : wr.frozen? ⟨sb0, pn, none⟩ = false := frozen_of_row _ _ pn _ _ HO.out.2.2.1
        have HOn : Hid (Below w.heap.size w (wr.setCell ⟨sb0, pn, none⟩ (.bool true)) ∧ (wr.setCell ⟨sb0, pn, none⟩ (.bool true)).heap[w.heap.size]? = some (.cells #[.int .i64 0, .int .i64 0, .int .i64 0, .string ⟨#[]⟩] 39 (0, 0)) ∧ (wr.setCell ⟨sb0, pn, none⟩ (.bool true)).heap[sb0]? = some (.cells (bsC (setL (l.take (k + 1))) P) 4 (0, 0)) ∧ Below sb0 w1 (wr.setCell ⟨sb0, pn, none⟩ (.bool true))) := by
          have hlt := H2.out.2.2.2.2.1
          refine ⟨HO.out.1.setCell (p := ⟨sb0, pn, none⟩) (Nat.le_of_lt hlt) _, ?_, ?_, ?_⟩
          · rw [Below.heap_setCell _ _ _ _ (by show w.heap.size ≠ sb0; omega)]; exact HO.out.2.1
          · rw [heap_setCell_same _ _ _ _ _ _ HO.out.2.2.1, bsC_set, HT.out, setL_snoc, Int.toNat_natCast]
            rfl
          · exact HO.out.2.2.2.setCell (p := ⟨sb0, pn, none⟩) (Nat.le_refl _) _
        subst hla
        clear HT hmem hr H2
        go_wp2
        go_roundg (gk - 1)
        case rel => exact ⟨k + 1, by omega, by go_num, HOn⟩
        case measure => omega
      have hd : decide ((k : Int) < (n : Int)) = false := decide_eq_false (by omega)
      have HQ0 : Hid (Qw w wr sb0 P S0 none 0 []) := by
        have e := HO.out.2.2.1
        rw [List.take_of_length_le (by rw [HL.out]; omega), HS0.out] at e
        exact ⟨HO.out.1, HO.out.2.1, e, ⟨rfl, .inl ⟨rfl, rfl⟩⟩⟩
      clear HO H2 HPr HS0 HL
      obtain ⟨i5, hi5, hz50, hz51, hz52⟩ := info_parts info5E
      go_wp2
      go_loopg [5, 6, 9, 11, 12, 13, 14] (i0 + j0) (fun q v5 v6 v9 v11 _ _ _ wr => ∃ (i j k : Nat) (S : Nat → Bool) (sb : Nat) (ao : Option Addr) (cap : Nat) (t : List UInt8), q = i + j ∧ v5 = .int .i64 (i : Int) ∧ v6 = .int .i64 (j : Int) ∧ v9 = .slice (some ⟨sb, 0, none⟩) P P ∧ v11 = .slice ao t.length cap ∧ k ≤ 131072 ∧ t.length ≤ 131072 ∧ i ≤ 65536 ∧ j ≤ 65536 ∧ Hid (t = (cols.take k).map u8O ∧ t.length = k ∧ Wy c x y cols I J k i j S ∧ Qw w wr sb P S ao cap t))
      case atStart => exact ⟨i0, j0, 0, S0, sb0, none, 0, [], rfl, rfl, rfl, rfl, rfl, by omega, by simp, hi6, hj6, by simp, rfl, HWy.out, HQ0.out⟩
      case round =>
        clear HQ0 HWy
        obtain ⟨i, j, k2, S, sb, ao, cap, t, hgk, rfl, rfl, rfl, rfl, hk131, htl, hi65, hj65, HL2⟩ := hrel
        have hP0 : (0 : Int) < (P : Int) := by omega
        have s0 := cell_block HL2.out.2.2.2.set 0 _ (bsC_get _ _ (show 0 < P by omega))
        cases h0 : S 0 with
        | true =>
          rw [h0] at s0
          have HF : Hid (cols.map u8O = t ∧ (I : Int) = i ∧ (J : Int) = j) := by
            obtain ⟨f1, f2, f3⟩ := HL2.out.2.2.1.fin h0
            refine ⟨?_, by omega, by omega⟩
            rw [HL2.out.1, List.take_of_length_le f1]
          have HQ1 : Hid (Qw w wr sb P S ao cap t) := HL2.out.2.2.2
          have HE : Hid (∀ W : World, Below w.heap.size w W → WalkPost c x y w (.returned (.tuple #[.agg #[.int .i64 sc, .int .i64 (i : Int), .int .i64 (j : Int), .string ⟨t.reverse.toArray⟩], .int .i64 0])) W) := fun W hW => by
            have := HX.out W hW
            rw [HF.out.2.1, HF.out.2.2] at this
            rw [show colS cols = ⟨t.reverse.toArray⟩ by unfold colS; rw [HF.out.1]] at this
            exact this
          clear HF HL2 HX HNx h0
          obtain ⟨tn, htn⟩ : ∃ tn, t.length = tn := ⟨_, rfl⟩
          have HTn : Hid (t.length = tn) := htn
          have hmc := make_cols t tn htn (by omega)
          rw [htn] at htl
          simp only [htn]
          clear htn
          go_upto_region 24 with (fail)
          have H0 : Hid (Qw w (wr.alloc (.cells (colsR t 0) 5)) sb P S ao cap t ∧ (wr.alloc (.cells (colsR t 0) 5)).heap[wr.heap.size]? = some (.cells (colsR t 0) 5 (0, 0)) ∧ (∀ g, (Value.slice ao t.length cap).ownBlock = some g → g < wr.heap.size) ∧ w.heap.size < wr.heap.size) := ⟨HQ1.out.next (below_new _), heap_alloc_new _ _, fun g hgg => (HQ1.out.own.lt g hgg).2, lt_block HQ1.out.res⟩
          obtain ⟨w7, hw7⟩ : ∃ w7, w7 = wr.alloc (.cells (colsR t 0) 5) := ⟨_, rfl⟩
          rw [← hw7] at H0 ⊢
          obtain ⟨cb, hcb⟩ : ∃ cb, wr.heap.size = cb := ⟨_, rfl⟩
          rw [hcb] at H0 ⊢
          clear hw7 hcb HQ1 s0
          go_wp2
          go_loopg [16] tn (fun q v wr => ∃ k : Nat, k + q = tn ∧ v = .int .i64 (k : Int) ∧ Hid (Qw w wr sb P S ao cap t ∧ wr.heap[cb]? = some (.cells (colsR t k) 5 (0, 0))))
          case atStart => exact ⟨0, by omega, rfl, H0.out.1, H0.out.2.1⟩
          case round =>
            obtain ⟨k, hkn, rfl, HO⟩ := hrel
            by_cases hk : k < tn
            rotate_left
            · have hd : decide ((k : Int) < (tn : Int)) = false := decide_eq_false (by omega)
              have hkt : k = tn := by omega
              subst hkt
              have hcv := conv_cols wr cb t k HTn.out HO.out.2
              have r0 := cell_block HO.out.1.res 0 _ rfl
              have r1 := cell_block HO.out.1.res 1 _ rfl
              have r2 := cell_block HO.out.1.res 2 _ rfl
              have r3 := cell_block HO.out.1.res 3 _ rfl
              have rf : ∀ k, wr.frozen? ⟨w.heap.size, k, none⟩ = false := fun k => frozen_of_row _ _ k _ _ HO.out.1.res
              have HLo : Hid (Below w.heap.size w wr) := HO.out.1.low
              clear HO H0 hmc
              generalize (⟨t.reverse.toArray⟩ : ByteArray) = str at *
              go_wp2
              refine bodyPost_ret (v := .tuple #[.agg #[.int .i64 sc, .int .i64 (i : Int), .int .i64 (j : Int), .string str], .int .i64 0]) ?_ rfl (HE.out _ ?_)
              · simp only [results, hres]
                go_simp
              · exact (((HLo.out.setCell (p := ⟨w.heap.size, 0, none⟩) (Nat.le_refl _) _).setCell (p := ⟨w.heap.size, 1, none⟩) (Nat.le_refl _) _).setCell (p := ⟨w.heap.size, 2, none⟩) (Nat.le_refl _) _).setCell (p := ⟨w.heap.size, 3, none⟩) (Nat.le_refl _) _
            have hd : decide ((k : Int) < (tn : Int)) = true := decide_eq_true (by omega)
            have hgk2 : 0 < gk := by omega
            have hko : k < t.length := by rw [HTn.out]; exact hk
            obtain ⟨g, cg, hag, hgb, _⟩ := owned_some HO.out.1.own (by omega)
            cases hag
            obtain ⟨m, hmm⟩ : ∃ m, tn - 1 - k = m := ⟨_, rfl⟩
            have em : (tn : Int) - 1 - (k : Int) = (m : Int) := by omega
            have hmt : (m : Int) < (tn : Int) := by omega
            have hkt : (k : Int) < (tn : Int) := by omega
            have hb0 : (byE t)[m]? = some (u8E (t.reverse.getD k 0)) := by
              have hm2 : m < t.length := by rw [HTn.out]; omega
              unfold byE
              rw [List.getElem?_map, List.getElem?_eq_getElem hm2, List.getD_eq_getElem?_getD, List.getElem?_reverse hko, List.getElem?_eq_getElem (show t.length - 1 - k < t.length by omega)]
              simp only [Option.map_some, Option.getD_some]
              congr 3
              rw [HTn.out]; omega
            have b0 := (owned_cells HO.out.1.own m _ hb0).1
            have t0 := cell_block HO.out.2 k _ (colsR_get _ _ hko)
            have tf : wr.frozen? ⟨cb, k, none⟩ = false := frozen_of_row _ _ k _ _ HO.out.2
            have HOn : Hid (Qw w (wr.setCell ⟨cb, k, none⟩ (u8E (t.reverse.getD k 0))) sb P S (some ⟨g, 0, none⟩) cap t ∧ (wr.setCell ⟨cb, k, none⟩ (u8E (t.reverse.getD k 0))).heap[cb]? = some (.cells (colsR t (k + 1)) 5 (0, 0))) := by
              have hlt := H0.out.2.2.2
              have hne : g ≠ cb := fun e => by have := H0.out.2.2.1 g rfl; omega
              refine ⟨⟨HO.out.1.low.setCell (p := ⟨cb, k, none⟩) (Nat.le_of_lt hlt) _, ?_, ?_, ?_⟩, ?_⟩
              · rw [Below.heap_setCell _ _ _ _ (by show w.heap.size ≠ cb; omega)]; exact HO.out.1.res
              · rw [Below.heap_setCell _ _ _ _ (by show sb ≠ cb; exact ty_ne HO.out.1.set HO.out.2 (by decide))]; exact HO.out.1.set
              · exact owned_of_block HO.out.1.own fun gg cur hv hgg => by
                  exact Below.heap_setCell _ _ _ _ (by have h2 := hv; simp [Value.ownBlock] at h2; show gg ≠ cb; omega)
              · rw [heap_setCell_same _ _ _ _ _ _ HO.out.2, colsR_set]
            unfold u8E at b0 HOn
            clear H0 hb0 hmc hmm
            generalize (t.reverse.getD k 0) = cc at *
            go_wp2
            go_roundg (gk - 1)
            case rel => exact ⟨k + 1, by omega, by go_num, HOn⟩
            case measure => omega
        | false =>
          rw [h0] at s0
          obtain ⟨m1, m2, m3, u, v, m4, m5, m6, m7⟩ := HL2.out.2.2.1.more HK.out h0
          obtain ⟨g1, g2⟩ := HL2.out.2.2.1.wk.goes HK.out h0
          have hui : u ≤ i ∧ v ≤ j := by rcases back_lex m3 with ⟨z1, z2⟩ | ⟨z1, z2⟩ | ⟨z1, z2⟩ <;> omega
          have hu1 := hui.1
          have hv1 := hui.2
          clear hui
          have hk1 : k2 < i0 + j0 := by have := HEn.out; omega
          have HW2 : Hid (Wy c x y cols I J (k2 + 1) u v (leastAt c x y i j S).2) := m7
          have HT2 : Hid ((cols.take (k2 + 1)).map u8O = t ++ [u8O (colB (leastAt c x y i j S).1)]) := by
            show _ = _
            rw [← m2, HL2.out.1, List.take_add_one, List.map_append, List.getD_eq_getElem?_getD, List.getElem?_eq_getElem m1]
            rfl
          have HTL : Hid (t.length = k2) := HL2.out.2.1
          have HQ1 : Hid (Qw w wr sb P S ao cap t) := HL2.out.2.2.2
          have HNy : Hid (∀ (W : World) (z : Int), Qw w W sb P S ao cap t → Calls Tryz.prog 24 #[.pointer (some ⟨p.b, 0, none⟩), .slice (some ⟨sb, 0, none⟩) P P, .int .i64 (i : Int), .int .i64 (j : Int), .int .i64 z] W (NextPost P (goL (maskB c x y i j) S z c.arrows) W)) := fun W z hW => HNx.out W sb S i j z hW.low hW.set hi65 hj65
          obtain ⟨G, hG⟩ : ∃ G : Int → (Nat → Bool) × Bool, (fun z => goL (maskB c x y i j) S z c.arrows) = G := ⟨_, rfl⟩
          have hGz : ∀ z, goL (maskB c x y i j) S z c.arrows = G z := fun z => by rw [← hG]
          simp only [hGz] at HNy g1 g2
          clear hG hGz m1 m2 m7 HL2 h0
          generalize leastAt c x y i j S = R at *
          obtain ⟨rn, r⟩ := R
          simp only at HW2 HT2 m3 m4 m5 g1 g2
          have HG : Hid (G rn = (r, true) ∧ ∀ st : Int, st < rn → (G st).2 = false) := ⟨g1, g2⟩
          obtain ⟨n1, n3⟩ := m3
          clear g1 g2
          go_wp2_with fail
          refine (HNy.out _ 1 HQ1.out).mono ?_
          rintro e w3 ⟨rfl, hb3, ht3⟩
          obtain ⟨tb0, htb0⟩ : ∃ tb0, wr.heap.size = tb0 := ⟨_, rfl⟩
          rw [htb0] at ht3 ⊢
          have HQ2 : Hid (Qw w w3 sb P S ao cap t ∧ w3.heap[tb0]? = some (.cells (bsC (G 1).1 P) 4 (0, 0))) := ⟨HQ1.out.next hb3, ht3⟩
          clear hb3 ht3 htb0 HQ1 s0
          obtain ⟨gk1, rfl⟩ : ∃ v, v = gk := ⟨_, rfl⟩
          go_wp2
          go_loopg [12, 13, 14] (rn - 1).toNat (fun q v12 v13 v14 wr => ∃ (z : Int) (tb : Nat), 1 ≤ z ∧ z ≤ rn ∧ q = (rn - z).toNat ∧ v12 = .int .i64 z ∧ v13 = .slice (some ⟨tb, 0, none⟩) P P ∧ v14 = .bool (G z).2 ∧ Hid (Qw w wr sb P S ao cap t ∧ wr.heap[tb]? = some (.cells (bsC (G z).1 P) 4 (0, 0))))
          case atStart => exact ⟨1, tb0, by omega, n1, rfl, rfl, rfl, rfl, HQ2⟩
          case round =>
            clear HQ2
            obtain ⟨z, tb, hz1, hz2, hgz, rfl, rfl, rfl, HQ3⟩ := hrel
            by_cases hzr : z < rn
            · have e1 := HG.out.2 z hzr
              have d3 : decide (z < 3) = true := decide_eq_true (by omega)
              go_wp2_with fail
              refine (HNy.out _ (z + 1) HQ3.out.1).mono ?_
              rintro e w4 ⟨rfl, hb4, ht4⟩
              have HQ4 : Hid (Qw w w4 sb P S ao cap t ∧ w4.heap[wr.heap.size]? = some (.cells (bsC (G (z + 1)).1 P) 4 (0, 0))) := ⟨HQ3.out.1.next hb4, ht4⟩
              clear hb4 ht4 HQ3
              go_wp2
              go_roundg (gk - 1)
              case rel => exact ⟨z + 1, _, by omega, by omega, by omega, rfl, rfl, rfl, HQ4⟩
              case measure => omega
            obtain rfl : z = rn := by omega
            have e1 : (G z).2 = true := by rw [HG.out.1]
            rw [show (G z).1 = r by rw [HG.out.1]] at HQ3
            clear HG HNy hzr hz1 hz2
            have : z = 1 ∨ z = 2 ∨ z = 3 := by omega
            rcases this with rfl | rfl | rfl
            · have hu : (u : Int) = (i : Int) - 1 := m4
              have hv : (v : Int) = (j : Int) - 1 := m5
              clear m4 m5
              have HTc : Hid ((cols.take (k2 + 1)).map u8O = t ++ [(77 : UInt8)]) := HT2.out
              clear HT2
              go_wp2_with (at_builtin; refine wpList_append_own _ rfl _ _ 75 rfl (w.heap.size + 1) 5 i5 _ 1 1 Tryz.underlying75 hi5 hz50 hz51 hz52 rfl (by decide) (.slice ao t.length cap) t.length (byE t) rfl (owned_below HQ3.out.1.own (below_new _)) ⟨_, 0, none⟩ 1 1 [u8E (77 : UInt8)] rfl rfl (u8_new _ (77 : UInt8)) (u8_one (77 : UInt8)) (by unfold maxLen; omega) (by omega) ?c5 ?_)
              case c5 => have := lt_block HQ3.out.1.res; simp; omega
              intro v' w5 ho hgr _
              obtain ⟨ao5, c5, rfl⟩ := owned_shape ho
              have HO5 : w5.ownsRow (w.heap.size + 1) 5 1 (.slice ao5 (t ++ [(77 : UInt8)]).length c5) (t ++ [(77 : UInt8)]).length (byE (t ++ [(77 : UInt8)])) := by
                rw [byE_snoc, List.length_append]
                exact ho
              have HQ6 : Hid (Qw w w5 tb P r ao5 c5 (t ++ [(77 : UInt8)])) := ((HQ3.out.1.turn HQ3.out.2).next (below_new _)).grown hgr HO5
              have HLT : Hid ((t ++ [(77 : UInt8)]).length = t.length + 1) := by show _ = _; simp
              clear ho hgr HO5 HQ3
              go_wp2
              go_roundg (u + v)
              case rel => exact ⟨u, v, k2 + 1, r, tb, ao5, c5, t ++ [(77 : UInt8)], rfl, by rw [hu], by rw [hv], rfl, by rw [HLT.out], by omega, by rw [HLT.out, HTL.out]; omega, by omega, by omega, HTc.out.symm, by rw [HLT.out, HTL.out], HW2.out, HQ6.out⟩
              case measure => omega
            · have hu : (u : Int) = (i : Int) - 1 := m4
              have hv : (v : Int) = (j : Int) := m5.trans (Int.sub_zero _)
              clear m4 m5
              have HTc : Hid ((cols.take (k2 + 1)).map u8O = t ++ [(68 : UInt8)]) := HT2.out
              clear HT2
              go_wp2_with (at_builtin; refine wpList_append_own _ rfl _ _ 75 rfl (w.heap.size + 1) 5 i5 _ 1 1 Tryz.underlying75 hi5 hz50 hz51 hz52 rfl (by decide) (.slice ao t.length cap) t.length (byE t) rfl (owned_below HQ3.out.1.own (below_new _)) ⟨_, 0, none⟩ 1 1 [u8E (68 : UInt8)] rfl rfl (u8_new _ (68 : UInt8)) (u8_one (68 : UInt8)) (by unfold maxLen; omega) (by omega) ?c5 ?_)
              case c5 => have := lt_block HQ3.out.1.res; simp; omega
              intro v' w5 ho hgr _
              obtain ⟨ao5, c5, rfl⟩ := owned_shape ho
              have HO5 : w5.ownsRow (w.heap.size + 1) 5 1 (.slice ao5 (t ++ [(68 : UInt8)]).length c5) (t ++ [(68 : UInt8)]).length (byE (t ++ [(68 : UInt8)])) := by
                rw [byE_snoc, List.length_append]
                exact ho
              have HQ6 : Hid (Qw w w5 tb P r ao5 c5 (t ++ [(68 : UInt8)])) := ((HQ3.out.1.turn HQ3.out.2).next (below_new _)).grown hgr HO5
              have HLT : Hid ((t ++ [(68 : UInt8)]).length = t.length + 1) := by show _ = _; simp
              clear ho hgr HO5 HQ3
              go_wp2
              go_roundg (u + v)
              case rel => exact ⟨u, v, k2 + 1, r, tb, ao5, c5, t ++ [(68 : UInt8)], rfl, by rw [hu], by rw [hv], rfl, by rw [HLT.out], by omega, by rw [HLT.out, HTL.out]; omega, by omega, by omega, HTc.out.symm, by rw [HLT.out, HTL.out], HW2.out, HQ6.out⟩
              case measure => omega
            · have hu : (u : Int) = (i : Int) := m4.trans (Int.sub_zero _)
              have hv : (v : Int) = (j : Int) - 1 := m5
              clear m4 m5
              have HTc : Hid ((cols.take (k2 + 1)).map u8O = t ++ [(73 : UInt8)]) := HT2.out
              clear HT2
              go_wp2_with (at_builtin; refine wpList_append_own _ rfl _ _ 75 rfl (w.heap.size + 1) 5 i5 _ 1 1 Tryz.underlying75 hi5 hz50 hz51 hz52 rfl (by decide) (.slice ao t.length cap) t.length (byE t) rfl (owned_below HQ3.out.1.own (below_new _)) ⟨_, 0, none⟩ 1 1 [u8E (73 : UInt8)] rfl rfl (u8_new _ (73 : UInt8)) (u8_one (73 : UInt8)) (by unfold maxLen; omega) (by omega) ?c5 ?_)
              case c5 => have := lt_block HQ3.out.1.res; simp; omega
              intro v' w5 ho hgr _
              obtain ⟨ao5, c5, rfl⟩ := owned_shape ho
              have HO5 : w5.ownsRow (w.heap.size + 1) 5 1 (.slice ao5 (t ++ [(73 : UInt8)]).length c5) (t ++ [(73 : UInt8)]).length (byE (t ++ [(73 : UInt8)])) := by
                rw [byE_snoc, List.length_append]
                exact ho
              have HQ6 : Hid (Qw w w5 tb P r ao5 c5 (t ++ [(73 : UInt8)])) := ((HQ3.out.1.turn HQ3.out.2).next (below_new _)).grown hgr HO5
              have HLT : Hid ((t ++ [(73 : UInt8)]).length = t.length + 1) := by show _ = _; simp
              clear ho hgr HO5 HQ3
              go_wp2
              go_roundg (u + v)
              case rel => exact ⟨u, v, k2 + 1, r, tb, ao5, c5, t ++ [(73 : UInt8)], rfl, by rw [hu], by rw [hv], rfl, by rw [HLT.out], by omega, by rw [HLT.out, HTL.out]; omega, by omega, by omega, HTc.out.symm, by rw [HLT.out, HTL.out], HW2.out, HQ6.out⟩
              case measure => omega
end
end Go.Proofs.YtnkfibahkmmnpaaGreat

