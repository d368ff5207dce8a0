/-
  Proved: of any text, the code and the error that Decode tells are the document's, twice, and apart from what was told before; no condition but that the program's own variables start as its text lays them.
-/
import Derived.Test.YtignpgoicoojiaaDoorRows
import Derived.Test.YtignpgoicoojiaaDoorCards
import Derived.Test.YtignpgoicoojiaaDoorTie
import Derived.Test.YtignpgoicoojiaaDoorOpn
import Derived.Test.YtignpgoicoojiaaDoorRfH
import Derived.Test.YtignpgoicoojiaaDoorSam
import Derived.Test.YtignpgoicoojiaaDoorAwk
namespace Go.Proofs.YtignpgoicoojiaaDoor
open Go.RowKit Go.Deep

theorem wpList_append_fresh {P : Program} {w : World} {ops : Array Oper} {rest : List Oper} {o : Oper} {a : Act} {Q : Exit → Act → World → Prop} (hgd : o.guard = none) (s x : Operand) (t : TypeId)
    (ho : o.op = .call { callee := .builtin .append, args := #[s, x], argTypes := #[t, t] })
    (base : Nat) (e : TypeId) (i : TypeInfo) (z : Value) (size bytes : Nat) (ht : P.underlying t = some (.slice e)) (hi : P.info? e = some i) (hz : i.zero = some z)
    (hsize : i.size = size) (hby : i.bytes = bytes) (hzs : z.cells.size = size) (hsz : 0 < size)
    (v : Value) (n : Nat) (xs : List Value) (hs : a.eval s = v) (hown : w.ownsRow base e size v n xs)
    (ad : Addr) (m c : Nat) (news : List Value) (hx : a.eval x = .slice (some ad) m c) (hl : news.length = m * size) (hnews : ∀ j u, news[j]? = some u → w.cell? (ad.add j) = some u) (h1 : ∀ u ∈ news, u.oneCell' = true)
    (h63 : n + m ≤ maxLen) (hbytes : (n + m) * bytes ≤ 140737488355328) (hbase : base ≤ w.heap.size)
    (h : ∀ v' w', w'.ownsRow base e size v' (n + m) (xs ++ news) → w.grownBy w' v.ownBlock → (∀ g, v'.ownBlock = some g → some g = v.ownBlock ∨ w.heap.size ≤ g) → wpList P ops Q rest (a.put o.dst v') w') : wpList P ops Q (o :: rest) a w := by
  refine wpList_plain hgd fun K hK => ?_
  obtain ⟨v', w', hrun, r1, r2, r3⟩ := run_append_fresh (P := P) w base t o.type e i z size bytes ht hi hz hsize hby hzs hsz v n xs hown ad m c news hl hnews h1 h63 hbytes hbase
  unfold Oper.wp
  simp [execOp, ho, resolve, invoke, builtin, hs, hx, hrun, Result.andThen]
  exact hK _ _ (h v' w' r1 r2 r3)
theorem refDec_calls (s : ByteArray) (w : World) (hs : s.size ≤ maxLen) : Calls Tryd.prog 18 #[.string s] w (RdP s w) := by
  by_cases hb : (rhead s.data.toList).1.getD 0 0 < 2 ∨ 20 < (rhead s.data.toList).1.getD 0 0
  · refine (refDecode_bad s w hs hb).mono ?_
    rintro e w' ⟨rfl, h⟩
    have hr : rdec s.data.toList = (noCd, 150) := by rw [rdec, if_pos hb]
    exact ⟨nilS, by rw [hr], by rw [hr]; exact fun V _ => no_at V, h⟩
  · exact refDecode_ok s w hs (by omega)
theorem zw_start {w1 w2 w3 : World} {C : Cd} {sl : Ls} (hb2 : Below w1.heap.size w1 w2) (hrow : (sl = nilS ∧ C = noCd) ∨ ∃ g1 g2 g3 g4, sl = ownS C g1 g2 g3 g4 ∧ CdOwn w1.heap.size w2 C g1 g2 g3 g4)
    (hb3 : Below (w2.alloc (.cells (cdCells C sl) 26)).heap.size (w2.alloc (.cells (cdCells C sl) 26)) w3) (ds : Array Value) : Zw w1 w3 w2.heap.size C sl ds (w3.alloc (.cells ds 26)) := by
  have hn1 := below_new (w := w2) (.cells (cdCells C sl) 26)
  have hn2 := below_new (w := w3) (.cells ds 26)
  have hz3 := hb3.size
  have hz1 : (w2.alloc (.cells (cdCells C sl) 26)).heap.size = w2.heap.size + 1 := by simp
  have key : ∀ {e : TypeId} {size n : Nat} {v : Value} {xs : List Value}, w2.ownsRow w1.heap.size e size v n xs → (w3.alloc (.cells ds 26)).ownsRow w1.heap.size e size v n xs := fun h => owned_below (owned_below (owned_below h hn1) hb3) hn2
  have rows : (∃ xs, w2.ownsRow w1.heap.size 3 1 (slV sl.t) sl.t.n xs) ∧ (∃ xs, w2.ownsRow w1.heap.size 3 1 (slV sl.k) sl.k.n xs) ∧ (∃ xs, w2.ownsRow w1.heap.size 38 4 (slV sl.i) sl.i.n xs) ∧ (∃ xs, w2.ownsRow w1.heap.size 40 4 (slV sl.r) sl.r.n xs) ∧ ∀ g, (slV sl.t).ownBlock = some g → (slV sl.k).ownBlock ≠ some g := by
    rcases hrow with ⟨rfl, _⟩ | ⟨g1, g2, g3, g4, rfl, ho⟩
    · exact ⟨⟨[], rfl, .inl ⟨rfl, rfl⟩⟩, ⟨[], rfl, .inl ⟨rfl, rfl⟩⟩, ⟨[], rfl, .inl ⟨rfl, rfl⟩⟩, ⟨[], rfl, .inl ⟨rfl, rfl⟩⟩, fun g h => by cases h⟩
    · refine ⟨⟨_, ho.t⟩, ⟨_, ho.k⟩, ⟨_, ho.i⟩, ⟨_, ho.r⟩, fun g h h2 => ?_⟩
      have e1 : some g1 = some g := h
      have e2 : some g2 = some g := h2
      exact ho.ne (Option.some.inj (e1.trans e2.symm))
  obtain ⟨⟨_, x1⟩, ⟨_, x2⟩, ⟨_, x3⟩, ⟨_, x4⟩, hap⟩ := rows
  have hlow : Below w1.heap.size w1 (w3.alloc (.cells ds 26)) := (hb2.trans (hn1.mono hb2.size)).trans ((hb3.mono (by have := hb2.size; omega)).trans (hn2.mono (by have := hb2.size; omega)))
  refine ⟨hlow, hb2.size, by omega, by simp, ?_, heap_alloc_new _ _, fun k _ b => hn2.block k b, ⟨_, key x1⟩, ⟨_, key x2⟩, ⟨_, key x3⟩, ⟨_, key x4⟩, hap, fun g hh => Or.inl ?_⟩
  · rw [hn2.block _ (by omega), hb3.block _ (by omega)]; exact heap_alloc_new _ _
  · rcases hh with hv | hv | hv | hv
    · exact (x1.lt g hv).2
    · exact (x2.lt g hv).2
    · exact (x3.lt g hv).2
    · exact (x4.lt g hv).2
theorem dec_small (t : List UInt8) : (decA t).1.table.length ≤ 400 ∧ (decA t).1.consts.length ≤ 100 ∧ (decA t).1.cell.length ≤ 1000 ∧ (decA t).1.arrows.length ≤ 160 := by
  rcases decA_cases t with h | ⟨c, h, hr, _⟩
  · rw [h]; exact ⟨by decide, by decide, by decide, by decide⟩
  · rw [h]
    have := rt_of hr
    exact ⟨this.tl, this.kl, this.cl, this.al⟩
theorem one4 (a b c d : Int) : ∀ u ∈ [Value.int .i64 a, .int .i64 b, .int .i64 c, .int .i64 d], u.oneCell' = true := by
  intro u hu
  simp only [List.mem_cons, List.not_mem_nil, or_false] at hu
  rcases hu with rfl | rfl | rfl | rfl <;> rfl
set_option maxRecDepth 20000 in
set_option maxHeartbeats 16000000 in
theorem reads_walk (s : ByteArray) (w : World) (htab : TabOk w) (hs : s.size ≤ maxLen) :
    Calls Tryd.prog 4 #[.string s] w fun e w' => e = .returned (.bool true) ∧ Below w.heap.size w w' := by
  have hsm := dec_small s.data.toList
  have hrd := rdec_is s.data.toList
  have HD : Hid (∀ W, Calls Tryd.prog 17 #[.string s] W (DecP s W)) := fun W => decode_calls s W hs
  have HR : Hid (∀ W, Calls Tryd.prog 18 #[.string s] W (RdP s W)) := fun W => refDec_calls s W hs
  have HAw : Hid (Calls Tryd.prog 10 #[] w fun e w' => e = .returned (.bool true) ∧ Below w.heap.size w w') := awake_calls w htab
  unfold DecP at HD
  unfold RdP at HR
  rw [hrd] at HR
  generalize decA s.data.toList = X at HD HR hsm
  obtain ⟨C, er⟩ := X
  simp only at HD HR hsm
  obtain ⟨q1, q2, q3, q4⟩ := hsm
  have HSm : Hid (sameB C C = true) := sameB_iff.2 rfl
  clear hrd htab
  have bz : (er == er) = true := by simp
  go_enter Tryd.func4, Tryd.ntmps4
  go_wp2_with fail
  refine HAw.out.mono ?_
  rintro e w1 ⟨rfl, hb1⟩
  have HB1 : Hid (Below w.heap.size w w1) := hb1
  clear hb1 HAw
  go_wp2_with fail
  refine (HD.out w1).mono ?_
  rintro e w2 ⟨sl, rfl, hat, hb2, hrow⟩
  have l1 : sl.t.n ≤ 400 := by have := hat.table.length; omega
  have l2 : sl.k.n ≤ 100 := by have := hat.consts.length; omega
  have l3 : sl.i.n ≤ 1000 := by have := hat.cell.length; omega
  have l4 : sl.r.n ≤ 160 := by have := hat.arrows.length; omega
  have HP : Hid (CdAt w2 C sl ∧ Below w1.heap.size w1 w2 ∧ ((sl = nilS ∧ C = noCd) ∨ ∃ g1 g2 g3 g4, sl = ownS C g1 g2 g3 g4 ∧ CdOwn w1.heap.size w2 C g1 g2 g3 g4)) := ⟨hat, hb2, hrow⟩
  clear hat hb2 hrow q1 q2 q3 q4
  rw [show cdCells C sl = #[.int .i64 C.letters, .int .i64 C.planes, .int .i64 C.regs, .int .i64 C.lo, .int .i64 C.hi, .int .i64 C.most, .slice sl.t.a sl.t.n sl.t.c, .slice sl.k.a sl.k.n sl.k.c, .slice sl.i.a sl.i.n sl.i.c, .slice sl.r.a sl.r.n sl.r.c] from rfl]
  go_wp2_with fail
  refine (HR.out _).mono ?_
  rintro e w3 ⟨sw, rfl, hV, hb3⟩
  have HZ : Hid (Zw w1 w3 w2.heap.size C sl (cdCells C sw) (w3.alloc (.cells (cdCells C sw) 26))) := zw_start HP.out.2.1 HP.out.2.2 hb3 _
  have HCw : Hid (∀ (s4 : Ls) (W : World), Zw w1 w3 w2.heap.size C s4 (cdCells C sw) W → CdAt W C sw) := fun s4 W hz => hV W fun k a b => hz.hi k (by simp at a; omega) b
  have HAt : Hid (CdAt (w3.alloc (.cells (cdCells C sw) 26)) C sl) := ((HP.out.1.below (below_new _)).below hb3).below (below_new _)
  have hlt : w2.heap.size < w3.heap.size := HZ.out.h2
  clear hV hb3 HP HR
  rw [show cdCells C sw = #[.int .i64 C.letters, .int .i64 C.planes, .int .i64 C.regs, .int .i64 C.lo, .int .i64 C.hi, .int .i64 C.most, .slice sw.t.a sw.t.n sw.t.c, .slice sw.k.a sw.k.n sw.k.c, .slice sw.i.a sw.i.n sw.i.c, .slice sw.r.a sw.r.n sw.r.c] from rfl]
  go_upto_region 4 with (fail)
  obtain ⟨b4, hb4⟩ : ∃ b, w2.heap.size = b := ⟨_, rfl⟩
  rw [hb4] at HZ HCw hlt ⊢
  clear hb4
  obtain ⟨b6, hb6⟩ : ∃ b, w3.heap.size = b := ⟨_, rfl⟩
  rw [hb6] at hlt ⊢
  have HB6 : Hid (w3.heap.size = b6) := hb6
  clear hb6
  obtain ⟨W4, hW4⟩ : ∃ W, w3.alloc (.cells (cdCells C sw) 26) = W := ⟨_, rfl⟩
  rw [hW4] at HZ HAt
  rw [show w3.alloc (.cells #[.int .i64 C.letters, .int .i64 C.planes, .int .i64 C.regs, .int .i64 C.lo, .int .i64 C.hi, .int .i64 C.most, .slice sw.t.a sw.t.n sw.t.c, .slice sw.k.a sw.k.n sw.k.c, .slice sw.i.a sw.i.n sw.i.c, .slice sw.r.a sw.r.n sw.r.c] 26) = W4 from hW4]
  clear hW4
  have c0 := HZ.out.cell4 0 (v := .int .i64 C.letters) rfl
  have c1 := HZ.out.cell4 1 (v := .int .i64 C.planes) rfl
  have c2 := HZ.out.cell4 2 (v := .int .i64 C.regs) rfl
  have c3 := HZ.out.cell4 3 (v := .int .i64 C.lo) rfl
  have c4 := HZ.out.cell4 4 (v := .int .i64 C.hi) rfl
  have c5 := HZ.out.cell4 5 (v := .int .i64 C.most) rfl
  have c6 := HZ.out.cell4 6 (v := .slice sl.t.a sl.t.n sl.t.c) rfl
  have c7 := HZ.out.cell4 7 (v := .slice sl.k.a sl.k.n sl.k.c) rfl
  have c8 := HZ.out.cell4 8 (v := .slice sl.i.a sl.i.n sl.i.c) rfl
  have c9 := HZ.out.cell4 9 (v := .slice sl.r.a sl.r.n sl.r.c) rfl
  have d0 : W4.cell? ⟨b6, 0, none⟩ = some (.int .i64 C.letters) := by rw [← HB6.out]; exact cell_block HZ.out.bx6 0 _ rfl
  have d1 : W4.cell? ⟨b6, 1, none⟩ = some (.int .i64 C.planes) := by rw [← HB6.out]; exact cell_block HZ.out.bx6 1 _ rfl
  have d2 : W4.cell? ⟨b6, 2, none⟩ = some (.int .i64 C.regs) := by rw [← HB6.out]; exact cell_block HZ.out.bx6 2 _ rfl
  have d3 : W4.cell? ⟨b6, 3, none⟩ = some (.int .i64 C.lo) := by rw [← HB6.out]; exact cell_block HZ.out.bx6 3 _ rfl
  have d4 : W4.cell? ⟨b6, 4, none⟩ = some (.int .i64 C.hi) := by rw [← HB6.out]; exact cell_block HZ.out.bx6 4 _ rfl
  have d5 : W4.cell? ⟨b6, 5, none⟩ = some (.int .i64 C.most) := by rw [← HB6.out]; exact cell_block HZ.out.bx6 5 _ rfl
  have d6 : W4.cell? ⟨b6, 6, none⟩ = some (.slice sw.t.a sw.t.n sw.t.c) := by rw [← HB6.out]; exact cell_block HZ.out.bx6 6 _ rfl
  have d7 : W4.cell? ⟨b6, 7, none⟩ = some (.slice sw.k.a sw.k.n sw.k.c) := by rw [← HB6.out]; exact cell_block HZ.out.bx6 7 _ rfl
  have d8 : W4.cell? ⟨b6, 8, none⟩ = some (.slice sw.i.a sw.i.n sw.i.c) := by rw [← HB6.out]; exact cell_block HZ.out.bx6 8 _ rfl
  have d9 : W4.cell? ⟨b6, 9, none⟩ = some (.slice sw.r.a sw.r.n sw.r.c) := by rw [← HB6.out]; exact cell_block HZ.out.bx6 9 _ rfl
  go_wp2_with fail
  refine (same_calls C C sl sw _ HAt.out (HCw.out _ _ HZ.out)).mono ?_
  rintro e w5 ⟨rfl, hb5⟩
  rw [HSm.out]
  have HZ5 : Hid (Zw w1 w3 b4 C sl (cdCells C sw) w5) := HZ.out.next hb5
  clear hb5 HZ HAt c0 c1 c2 c3 c4 c5 c6 c7 c8 c9 d0 d1 d2 d3 d4 d5 d6 d7 d8 d9
  go_wp2
  go_loopg [9] sl.t.n (fun q v wr => ∃ j : Nat, j + q = sl.t.n ∧ v = .int .i64 (j : Int) ∧ Hid (Zw w1 w3 b4 C sl (cdCells C sw) wr))
  case atStart => exact ⟨0, by omega, rfl, HZ5⟩
  case round =>
    clear HZ5
    obtain ⟨j, hjn, rfl, HO⟩ := hrel
    have c6 := HO.out.cell4 6 (v := .slice sl.t.a sl.t.n sl.t.c) rfl
    by_cases hj : j < sl.t.n
    · have hd : decide ((j : Int) < (sl.t.n : Int)) = true := decide_eq_true (by omega)
      have hgk : 0 < gk := by omega
      obtain ⟨g, ha, ⟨u, hu⟩, hf, hst⟩ := HO.out.stT (by omega) (k := j) (by omega)
      have HZn : Hid (Zw w1 w3 b4 C sl (cdCells C sw) (wr.setCell ⟨g, j, none⟩ (.int .i64 (-99)))) := hst _
      rw [ha] at c6
      clear hst ha HO
      go_wp2
      go_roundg (gk - 1)
      case rel => exact ⟨j + 1, by omega, by go_num, HZn⟩
      case measure => omega
    have hd : decide ((j : Int) < (sl.t.n : Int)) = false := decide_eq_false (by omega)
    have HO0 : Hid (Zw w1 w3 b4 C sl (cdCells C sw) wr) := HO
    clear HO
    go_wp2
    go_loopg [10] sl.k.n (fun q v wr => ∃ j : Nat, j + q = sl.k.n ∧ v = .int .i64 (j : Int) ∧ Hid (Zw w1 w3 b4 C sl (cdCells C sw) wr))
    case atStart => exact ⟨0, by omega, rfl, HO0⟩
    case round =>
      clear HO0
      obtain ⟨j, hjn, rfl, HO⟩ := hrel
      have c7 := HO.out.cell4 7 (v := .slice sl.k.a sl.k.n sl.k.c) rfl
      by_cases hj : j < sl.k.n
      · have hd : decide ((j : Int) < (sl.k.n : Int)) = true := decide_eq_true (by omega)
        have hgk : 0 < gk := by omega
        obtain ⟨g, ha, ⟨u, hu⟩, hf, hst⟩ := HO.out.stK (by omega) (k := j) (by omega)
        have HZn : Hid (Zw w1 w3 b4 C sl (cdCells C sw) (wr.setCell ⟨g, j, none⟩ (.int .i64 (-99)))) := hst _
        rw [ha] at c7
        clear hst ha HO
        go_wp2
        go_roundg (gk - 1)
        case rel => exact ⟨j + 1, by omega, by go_num, HZn⟩
        case measure => omega
      have hd : decide ((j : Int) < (sl.k.n : Int)) = false := decide_eq_false (by omega)
      have HO1 : Hid (Zw w1 w3 b4 C sl (cdCells C sw) wr) := HO
      clear HO
      go_wp2
      go_loopg [11] sl.i.n (fun q v wr => ∃ j : Nat, j + q = sl.i.n ∧ v = .int .i64 (j : Int) ∧ Hid (Zw w1 w3 b4 C sl (cdCells C sw) wr))
      case atStart => exact ⟨0, by omega, rfl, HO1⟩
      case round =>
        clear HO1
        obtain ⟨j, hjn, rfl, HO⟩ := hrel
        have c8 := HO.out.cell4 8 (v := .slice sl.i.a sl.i.n sl.i.c) rfl
        by_cases hj : j < sl.i.n
        · have hd : decide ((j : Int) < (sl.i.n : Int)) = true := decide_eq_true (by omega)
          have hgk : 0 < gk := by omega
          obtain ⟨g, ha, ⟨u, hu⟩, hf, hst⟩ := HO.out.stI (by omega) (k := j * 4) (by omega)
          have HZn : Hid (Zw w1 w3 b4 C sl (cdCells C sw) (wr.setCell ⟨g, j * 4, none⟩ (.int .i64 (-99)))) := hst _
          rw [ha] at c8
          clear hst ha HO
          go_wp2
          go_roundg (gk - 1)
          case rel => exact ⟨j + 1, by omega, by go_num, HZn⟩
          case measure => omega
        have hd : decide ((j : Int) < (sl.i.n : Int)) = false := decide_eq_false (by omega)
        have HO2 : Hid (Zw w1 w3 b4 C sl (cdCells C sw) wr) := HO
        clear HO
        go_wp2
        go_loopg [12] sl.r.n (fun q v wr => ∃ j : Nat, j + q = sl.r.n ∧ v = .int .i64 (j : Int) ∧ Hid (Zw w1 w3 b4 C sl (cdCells C sw) wr))
        case atStart => exact ⟨0, by omega, rfl, HO2⟩
        case round =>
          clear HO2
          obtain ⟨j, hjn, rfl, HO⟩ := hrel
          have c9 := HO.out.cell4 9 (v := .slice sl.r.a sl.r.n sl.r.c) rfl
          by_cases hj : j < sl.r.n
          · have hd : decide ((j : Int) < (sl.r.n : Int)) = true := decide_eq_true (by omega)
            have hgk : 0 < gk := by omega
            obtain ⟨g, ha, ⟨u, hu⟩, hf, hst⟩ := HO.out.stR (by omega) (k := j * 4 + 1) (by omega)
            have HZn : Hid (Zw w1 w3 b4 C sl (cdCells C sw) (wr.setCell ⟨g, j * 4 + 1, none⟩ (.int .i64 (-99)))) := hst _
            rw [ha] at c9
            clear hst ha HO
            go_wp2
            go_roundg (gk - 1)
            case rel => exact ⟨j + 1, by omega, by go_num, HZn⟩
            case measure => omega
          have hd : decide ((j : Int) < (sl.r.n : Int)) = false := decide_eq_false (by omega)
          have HO3 : Hid (Zw w1 w3 b4 C sl (cdCells C sw) wr) := HO
          clear HO
          obtain ⟨i3, hi3, hz30, hz31, hz32⟩ := info_parts info3
          obtain ⟨i38, hi38, hz380, hz381, hz382⟩ := info_parts info38
          obtain ⟨i40, hi40, hz400, hz401, hz402⟩ := info_parts info40
          have y6 := HO3.out.cell4 6 (v := .slice sl.t.a sl.t.n sl.t.c) rfl
          obtain ⟨xs0, hx0⟩ := HO3.out.t
          go_wp2_with (at_builtin; go_loud (refine wpList_append_fresh rfl _ _ 22 rfl w1.heap.size 3 i3 (.int .i64 0) 1 8 Tryd.underlying22 hi3 hz30 hz31 hz32 rfl (by decide) (.slice sl.t.a sl.t.n sl.t.c) _ _ rfl (owned_below hx0 (below_new _)) ⟨_, 0, none⟩ 1 1 [.int .i64 1] rfl rfl (cells_new4 wr [.int .i64 1] 3) (one_int 1) ?c3 ?c4 ?c5 ?_))
          case c3 => unfold maxLen; omega
          case c4 => omega
          case c5 => have := HO3.out.low.size; simp; omega
          intro v' wa0 hown hgrow hnew
          obtain ⟨va0, vc0, rfl⟩ := owned_shape hown
          obtain ⟨z6, f6, hZ⟩ := (HO3.out.next (below_new (.cells [.int .i64 1].toArray 3))).apT (s := ⟨va0, sl.t.n + 1, vc0⟩) hown hgrow (fun g hg => (hnew g hg).imp id (fun h => by simpa using h))
          unfold slV at z6 hZ
          simp only at z6 hZ
          clear hown hgrow hnew hx0 y6 HO3
          go_upto_region 22 with (fail)
          obtain ⟨wz0, hwz0⟩ : ∃ wz, wa0.setCell ⟨b4, 6, none⟩ (.slice va0 (sl.t.n + 1) vc0) = wz := ⟨_, rfl⟩
          have HA0 : Hid (Zw w1 w3 b4 C { sl with t := ⟨va0, sl.t.n + 1, vc0⟩ } (cdCells C sw) wz0) := by rw [← hwz0]; exact hZ
          rw [hwz0]
          clear hwz0 hZ z6 f6
          have y7 := HA0.out.cell4 7 (v := .slice sl.k.a sl.k.n sl.k.c) rfl
          obtain ⟨xs1, hx1⟩ := HA0.out.k
          go_wp2_with (at_builtin; go_loud (refine wpList_append_fresh rfl _ _ 22 rfl w1.heap.size 3 i3 (.int .i64 0) 1 8 Tryd.underlying22 hi3 hz30 hz31 hz32 rfl (by decide) (.slice sl.k.a sl.k.n sl.k.c) _ _ rfl (owned_below hx1 (below_new _)) ⟨_, 0, none⟩ 1 1 [.int .i64 2] rfl rfl (cells_new4 wz0 [.int .i64 2] 3) (one_int 2) ?c3 ?c4 ?c5 ?_))
          case c3 => unfold maxLen; omega
          case c4 => omega
          case c5 => have := HA0.out.low.size; simp; omega
          intro v' wa1 hown hgrow hnew
          obtain ⟨va1, vc1, rfl⟩ := owned_shape hown
          obtain ⟨z7, f7, hZ⟩ := (HA0.out.next (below_new (.cells [.int .i64 2].toArray 3))).apK (s := ⟨va1, sl.k.n + 1, vc1⟩) hown hgrow (fun g hg => (hnew g hg).imp id (fun h => by simpa using h))
          unfold slV at z7 hZ
          simp only at z7 hZ
          clear hown hgrow hnew hx1 y7 HA0
          go_upto_region 23 with (fail)
          obtain ⟨wz1, hwz1⟩ : ∃ wz, wa1.setCell ⟨b4, 7, none⟩ (.slice va1 (sl.k.n + 1) vc1) = wz := ⟨_, rfl⟩
          have HA1 : Hid (Zw w1 w3 b4 C { sl with t := ⟨va0, sl.t.n + 1, vc0⟩, k := ⟨va1, sl.k.n + 1, vc1⟩ } (cdCells C sw) wz1) := by rw [← hwz1]; exact hZ
          rw [hwz1]
          clear hwz1 hZ z7 f7
          have y8 := HA1.out.cell4 8 (v := .slice sl.i.a sl.i.n sl.i.c) rfl
          obtain ⟨xs2, hx2⟩ := HA1.out.i
          go_wp2_with (at_builtin; go_loud (refine wpList_append_fresh rfl _ _ 23 rfl w1.heap.size 38 i38 (.agg #[.int .i64 0, .int .i64 0, .int .i64 0, .int .i64 0]) 4 32 Tryd.underlying23 hi38 hz380 hz381 hz382 rfl (by decide) (.slice sl.i.a sl.i.n sl.i.c) _ _ rfl (owned_below hx2 (below_new _)) ⟨_, 0, none⟩ 1 1 [.int .i64 3, .int .i64 0, .int .i64 0, .int .i64 0] rfl rfl (cells_new4 wz1 [.int .i64 3, .int .i64 0, .int .i64 0, .int .i64 0] 38) (one4 3 0 0 0) ?c3 ?c4 ?c5 ?_))
          case c3 => unfold maxLen; omega
          case c4 => omega
          case c5 => have := HA1.out.low.size; simp; omega
          intro v' wa2 hown hgrow hnew
          obtain ⟨va2, vc2, rfl⟩ := owned_shape hown
          obtain ⟨z8, f8, hZ⟩ := (HA1.out.next (below_new (.cells [.int .i64 3, .int .i64 0, .int .i64 0, .int .i64 0].toArray 38))).apI (s := ⟨va2, sl.i.n + 1, vc2⟩) hown hgrow (fun g hg => (hnew g hg).imp id (fun h => by simpa using h))
          unfold slV at z8 hZ
          simp only at z8 hZ
          clear hown hgrow hnew hx2 y8 HA1
          go_upto_region 24 with (fail)
          obtain ⟨wz2, hwz2⟩ : ∃ wz, wa2.setCell ⟨b4, 8, none⟩ (.slice va2 (sl.i.n + 1) vc2) = wz := ⟨_, rfl⟩
          have HA2 : Hid (Zw w1 w3 b4 C { sl with t := ⟨va0, sl.t.n + 1, vc0⟩, k := ⟨va1, sl.k.n + 1, vc1⟩, i := ⟨va2, sl.i.n + 1, vc2⟩ } (cdCells C sw) wz2) := by rw [← hwz2]; exact hZ
          rw [hwz2]
          clear hwz2 hZ z8 f8
          have y9 := HA2.out.cell4 9 (v := .slice sl.r.a sl.r.n sl.r.c) rfl
          obtain ⟨xs3, hx3⟩ := HA2.out.r
          go_wp2_with (at_builtin; go_loud (refine wpList_append_fresh rfl _ _ 24 rfl w1.heap.size 40 i40 (.agg #[.int .i64 0, .int .i64 0, .int .i64 0, .int .i64 0]) 4 32 Tryd.underlying24 hi40 hz400 hz401 hz402 rfl (by decide) (.slice sl.r.a sl.r.n sl.r.c) _ _ rfl (owned_below hx3 (below_new _)) ⟨_, 0, none⟩ 1 1 [.int .i64 0, .int .i64 4, .int .i64 0, .int .i64 0] rfl rfl (cells_new4 wz2 [.int .i64 0, .int .i64 4, .int .i64 0, .int .i64 0] 40) (one4 0 4 0 0) ?c3 ?c4 ?c5 ?_))
          case c3 => unfold maxLen; omega
          case c4 => omega
          case c5 => have := HA2.out.low.size; simp; omega
          intro v' wa3 hown hgrow hnew
          obtain ⟨va3, vc3, rfl⟩ := owned_shape hown
          obtain ⟨z9, f9, hZ⟩ := (HA2.out.next (below_new (.cells [.int .i64 0, .int .i64 4, .int .i64 0, .int .i64 0].toArray 40))).apR (s := ⟨va3, sl.r.n + 1, vc3⟩) hown hgrow (fun g hg => (hnew g hg).imp id (fun h => by simpa using h))
          unfold slV at z9 hZ
          simp only at z9 hZ
          clear hown hgrow hnew hx3 y9 HA2
          go_upto_region 25 with (fail)
          obtain ⟨wz3, hwz3⟩ : ∃ wz, wa3.setCell ⟨b4, 9, none⟩ (.slice va3 (sl.r.n + 1) vc3) = wz := ⟨_, rfl⟩
          have HA3 : Hid (Zw w1 w3 b4 C ⟨⟨va0, sl.t.n + 1, vc0⟩, ⟨va1, sl.k.n + 1, vc1⟩, ⟨va2, sl.i.n + 1, vc2⟩, ⟨va3, sl.r.n + 1, vc3⟩⟩ (cdCells C sw) wz3) := by rw [← hwz3]; exact hZ
          rw [hwz3]
          clear hwz3 hZ z9 f9
          go_wp2_with fail
          refine (HD.out wz3).mono ?_
          rintro e w9 ⟨sm, rfl, hat2, hb9, _⟩
          rw [show cdCells C sm = #[.int .i64 C.letters, .int .i64 C.planes, .int .i64 C.regs, .int .i64 C.lo, .int .i64 C.hi, .int .i64 C.most, .slice sm.t.a sm.t.n sm.t.c, .slice sm.k.a sm.k.n sm.k.c, .slice sm.i.a sm.i.n sm.i.c, .slice sm.r.a sm.r.n sm.r.c] from rfl]
          go_upto_region 26 with (fail)
          have HN : Hid (Zw w1 w3 b4 C ⟨⟨va0, sl.t.n + 1, vc0⟩, ⟨va1, sl.k.n + 1, vc1⟩, ⟨va2, sl.i.n + 1, vc2⟩, ⟨va3, sl.r.n + 1, vc3⟩⟩ (cdCells C sw) (w9.alloc (.cells #[.int .i64 C.letters, .int .i64 C.planes, .int .i64 C.regs, .int .i64 C.lo, .int .i64 C.hi, .int .i64 C.most, .slice sm.t.a sm.t.n sm.t.c, .slice sm.k.a sm.k.n sm.k.c, .slice sm.i.a sm.i.n sm.i.c, .slice sm.r.a sm.r.n sm.r.c] 26)) ∧ (w9.alloc (.cells #[.int .i64 C.letters, .int .i64 C.planes, .int .i64 C.regs, .int .i64 C.lo, .int .i64 C.hi, .int .i64 C.most, .slice sm.t.a sm.t.n sm.t.c, .slice sm.k.a sm.k.n sm.k.c, .slice sm.i.a sm.i.n sm.i.c, .slice sm.r.a sm.r.n sm.r.c] 26)).heap[w9.heap.size]? = some (.cells #[.int .i64 C.letters, .int .i64 C.planes, .int .i64 C.regs, .int .i64 C.lo, .int .i64 C.hi, .int .i64 C.most, .slice sm.t.a sm.t.n sm.t.c, .slice sm.k.a sm.k.n sm.k.c, .slice sm.i.a sm.i.n sm.i.c, .slice sm.r.a sm.r.n sm.r.c] 26 (0, 0)) ∧ CdAt (w9.alloc (.cells #[.int .i64 C.letters, .int .i64 C.planes, .int .i64 C.regs, .int .i64 C.lo, .int .i64 C.hi, .int .i64 C.most, .slice sm.t.a sm.t.n sm.t.c, .slice sm.k.a sm.k.n sm.k.c, .slice sm.i.a sm.i.n sm.i.c, .slice sm.r.a sm.r.n sm.r.c] 26)) C sm) := ⟨(HA3.out.next hb9).next (below_new _), heap_alloc_new _ _, hat2.below (below_new _)⟩
          obtain ⟨b13, hb13⟩ : ∃ b, w9.heap.size = b := ⟨_, rfl⟩
          rw [hb13] at HN ⊢
          clear hb13 hat2 hb9 HA3
          generalize w9.alloc (.cells #[.int .i64 C.letters, .int .i64 C.planes, .int .i64 C.regs, .int .i64 C.lo, .int .i64 C.hi, .int .i64 C.most, .slice sm.t.a sm.t.n sm.t.c, .slice sm.k.a sm.k.n sm.k.c, .slice sm.i.a sm.i.n sm.i.c, .slice sm.r.a sm.r.n sm.r.c] 26) = w10 at HN ⊢
          have c0 := cell_block HN.out.2.1 0 (.int .i64 C.letters) rfl
          have c1 := cell_block HN.out.2.1 1 (.int .i64 C.planes) rfl
          have c2 := cell_block HN.out.2.1 2 (.int .i64 C.regs) rfl
          have c3 := cell_block HN.out.2.1 3 (.int .i64 C.lo) rfl
          have c4 := cell_block HN.out.2.1 4 (.int .i64 C.hi) rfl
          have c5 := cell_block HN.out.2.1 5 (.int .i64 C.most) rfl
          have c6 := cell_block HN.out.2.1 6 (.slice sm.t.a sm.t.n sm.t.c) rfl
          have c7 := cell_block HN.out.2.1 7 (.slice sm.k.a sm.k.n sm.k.c) rfl
          have c8 := cell_block HN.out.2.1 8 (.slice sm.i.a sm.i.n sm.i.c) rfl
          have c9 := cell_block HN.out.2.1 9 (.slice sm.r.a sm.r.n sm.r.c) rfl
          have d0 : w10.cell? ⟨b6, 0, none⟩ = some (.int .i64 C.letters) := by rw [← HB6.out]; exact cell_block HN.out.1.bx6 0 _ rfl
          have d1 : w10.cell? ⟨b6, 1, none⟩ = some (.int .i64 C.planes) := by rw [← HB6.out]; exact cell_block HN.out.1.bx6 1 _ rfl
          have d2 : w10.cell? ⟨b6, 2, none⟩ = some (.int .i64 C.regs) := by rw [← HB6.out]; exact cell_block HN.out.1.bx6 2 _ rfl
          have d3 : w10.cell? ⟨b6, 3, none⟩ = some (.int .i64 C.lo) := by rw [← HB6.out]; exact cell_block HN.out.1.bx6 3 _ rfl
          have d4 : w10.cell? ⟨b6, 4, none⟩ = some (.int .i64 C.hi) := by rw [← HB6.out]; exact cell_block HN.out.1.bx6 4 _ rfl
          have d5 : w10.cell? ⟨b6, 5, none⟩ = some (.int .i64 C.most) := by rw [← HB6.out]; exact cell_block HN.out.1.bx6 5 _ rfl
          have d6 : w10.cell? ⟨b6, 6, none⟩ = some (.slice sw.t.a sw.t.n sw.t.c) := by rw [← HB6.out]; exact cell_block HN.out.1.bx6 6 _ rfl
          have d7 : w10.cell? ⟨b6, 7, none⟩ = some (.slice sw.k.a sw.k.n sw.k.c) := by rw [← HB6.out]; exact cell_block HN.out.1.bx6 7 _ rfl
          have d8 : w10.cell? ⟨b6, 8, none⟩ = some (.slice sw.i.a sw.i.n sw.i.c) := by rw [← HB6.out]; exact cell_block HN.out.1.bx6 8 _ rfl
          have d9 : w10.cell? ⟨b6, 9, none⟩ = some (.slice sw.r.a sw.r.n sw.r.c) := by rw [← HB6.out]; exact cell_block HN.out.1.bx6 9 _ rfl
          go_wp2_with fail
          refine (same_calls C C sm sw _ HN.out.2.2 (HCw.out _ _ HN.out.1)).mono ?_
          rintro e w11 ⟨rfl, hb11⟩
          rw [HSm.out]
          have HF : Hid (Below w.heap.size w w11) := HB1.out.trans (((HN.out.1.next hb11).low).mono HB1.out.size)
          clear hb11 HN c0 c1 c2 c3 c4 c5 c6 c7 c8 c9 d0 d1 d2 d3 d4 d5 d6 d7 d8 d9
          go_wp2
          go_ret
          exact ⟨rfl, HF.out⟩

namespace codeReads
open Go.ChangeShapes Go.WideShapes Go.ChangeAt Go.RowKit
open Go.ChangeMaps (open_string shut_string)

set_option maxRecDepth 100000 in
theorem lifted (os : Os) (started : os.Started) (H : Type) (enc : TypeId × Value → H) :
    ReturnsInHanded {} Tryd.checked os 4 .any (fun w args => (Rows.codeReadsSpec.pre enc Tryd.prog Tryd.f4 [] false w args ∧ laidMetH Tryd.prog theLaid w) ∧ sizedMet enc Tryd.prog Tryd.f4 (OpenSpec.ofChange Rows.codeReadsSpec) false w args)
      (Rows.codeReadsSpec.post enc Tryd.prog Tryd.f4 false true false false) := by
  refine returnsInHanded_of_change_and (C := Tryd.checked) (X := fun w _ => laidMetH Tryd.prog theLaid w) (fun _ _ _ hh h => h.of_heap hh) own started (by kernel_rfl) Tryd.func4
    (ChangeSpec.witness_shaped (enc := enc) (C := Tryd.checked) (os := os) (X := fun w _ => laidMetH Tryd.prog theLaid w) false (World.doorLaid Tryd.prog 400 os) #[.string ByteArray.empty] 8 rfl (World.shaped_of_RefB (by kernel_rfl) (by kernel_rfl)) (by kernel_rfl) (by kernel_rfl) (by kernel_rfl) (door_met os _)) ?_
  intro W base args ds gs before hval0 hW _ _ hL _
  have hval : ∀ (j : Nat) t v, Tryd.f4.params[j]? = some t → args[j]? = some v → Value.okWide Tryd.prog W .any base t v := hval0
  have hW' := hW
  obtain ⟨p, q, hA0, hV, rfl, hfz, hnd⟩ := hW
  have hA : DataW.TrodAll enc Tryd.prog W 0 (fun _ => true) true Tryd.f4.params.toList args.toList ds p := hA0
  rw [Tryd.params4] at hA hval
  obtain ⟨v0, vs0, d0, ds0, p0, q0, hargs, rfl, rfl, h0, r0⟩ := trodAll_cons hA
  obtain ⟨rfl, rfl, rfl⟩ := trodAll_nil r0
  obtain rfl : args = #[v0] := by cases args; simp_all
  obtain ⟨rfl, rfl⟩ := trodVars_none hV
  obtain ⟨a0, rfl, rfl, rfl, w0⟩ := open_string Tryd.underlying9 (hval 0 9 v0 rfl rfl) h0
  clear hA0 hval0
  refine (reads_walk a0 W (tab_of_laid hL) w0).mono fun e W' ⟨he, bel⟩ => ?_
  subst he
  exact ⟨_, rfl, _, _, _, [], _, [], hW', trodAll_mk1 (shut_bool Tryd.underlying4 _), (trodAll_cons_mk (shut_string Tryd.underlying9 w0) trodAll_mk0), rfl, bel.frame _, fun h => by cases h⟩
end codeReads

theorem codeReads_holds : Rows.CodeReadsSaid :=
  OpenClaim.holds_of_wide 4 Tryd.f4 rfl rfl rfl rfl rfl rfl rfl ⟨rfl, rfl, rfl, rfl, rfl⟩ rfl rfl rfl rfl rfl (by kernel_rfl) Tryd.func4 (by kernel_rfl)
    (of_decide_eq_true (by kernel_rfl)) (by unfold Func.isWrapper; first | (rw [if_pos (by decide +kernel)]; kernel_rfl) | (rw [if_neg (by decide +kernel)]; exact ⟨rfl, rfl⟩))
    (fun os started H enc _ => codeReads.lifted os started H enc)

theorem codeReadsCard_holds : Rows.CodeReadsCardSaid :=
  Claim7.holds_tied_plain_at .later [] [.data, .data, .data] true (true, "f9005e9bbb51a183d67557a8bddb91a2248e73d4468646ef1995ae77272fb2ba") false
    codeReads_holds (fun _ h => by cases h) (by kernel_rfl) (fun _ h => by cases h) codeReads_row_tie rfl ⟨rfl, rfl⟩ (by kernel_rfl) rfl
    (fun f fn hf hfn => by
      obtain rfl : f = 4 := Option.some.inj ((show Tryd.prog.funcNamed Rows.codeReadsRow.func = some 4 by kernel_rfl).symm.trans hf) |>.symm
      obtain rfl : fn = Tryd.f4 := (Option.some.inj (Tryd.func4.symm.trans hfn)).symm
      exact ⟨by kernel_rfl, fun j t ht => by
        rw [Tryd.params4] at ht
        have hm : t ∈ [9] := by simpa using Array.mem_of_getElem? ht
        have hall : ([9].all fun u => !Tryd.prog.wantsStandIn u) = true := by kernel_rfl
        exact (show Tryd.prog.wantsStandIn t = false by simpa using List.all_eq_true.1 hall t hm)⟩)
    (by kernel_rfl)
end Go.Proofs.YtignpgoicoojiaaDoor
