/-
  Of the bytes of a right code one of which is another one, none is read; nor of those without the last one, or with one more.
-/
import Derived.Test.YtignpgoicoojiaaDoorRows
import Derived.Test.YtignpgoicoojiaaDoorCards
import Derived.Test.YtignpgoicoojiaaDoorTie
import Derived.Test.YtignpgoicoojiaaDoorOpn
import Derived.Test.YtignpgoicoojiaaDoorSnd
import Derived.Test.YtignpgoicoojiaaDoorRdJ
import Derived.Test.YtignpgoicoojiaaDoorSam
import Derived.Test.YtignpgoicoojiaaDoorAwk
import Derived.Test.YtignpgoicoojiaaDoorRtC
namespace Go.Proofs.YtignpgoicoojiaaDoor
open Go.RowKit

theorem val_int {k : IntKind} {a b : Int} (h : a = b) : Value.int k a = .int k b := by rw [h]
/-- Block g holds these bytes at its head, and may be written there. -/
structure BytesAt (w : World) (g : Nat) (bs : List UInt8) : Prop where
  row : ∃ cur hi, w.heap[g]? = some (.cells cur 5 (cur.size, hi)) ∧ bs.length ≤ cur.size ∧ ∀ j, j < bs.length → cur[j]? = some (.int .u8 ((bs.getD j 0).toNat : Int))
theorem BytesAt.cell {w : World} {g : Nat} {bs : List UInt8} (h : BytesAt w g bs) (j : Nat) (hj : j < bs.length) : w.cell? ⟨g, j, none⟩ = some (.int .u8 ((bs.getD j 0).toNat : Int)) := by
  obtain ⟨cur, hi, hg, hl, hc⟩ := h.row
  rw [cell_of_row w g j cur 5 _ hg]
  exact hc j hj
theorem BytesAt.frozen {w : World} {g : Nat} {bs : List UInt8} (h : BytesAt w g bs) (j : Nat) (hj : j < bs.length) : w.frozen? ⟨g, j, none⟩ = false := by
  obtain ⟨cur, hi, hg, hl, hc⟩ := h.row
  have : ¬ cur.size ≤ j := by omega
  simp [World.frozen?, hg, this]
theorem BytesAt.put {w : World} {g : Nat} {bs : List UInt8} (h : BytesAt w g bs) (j : Nat) (c : UInt8) : BytesAt (w.setCell ⟨g, j, none⟩ (.int .u8 (c.toNat : Int))) g (bs.set j c) := by
  obtain ⟨cur, hi, hg, hl, hc⟩ := h.row
  refine ⟨cur.setIfInBounds j (.int .u8 (c.toNat : Int)), hi, ?_, by simpa using hl, ?_⟩
  · simp only [World.setCell, Array.getElem?_modify]
    rw [if_pos trivial, hg]
    simp
  · intro i hi'
    have hi2 : i < bs.length := by simpa using hi'
    have hc' := hc i hi2
    by_cases e : j = i
    · subst e
      rw [Array.getElem?_setIfInBounds_self_of_lt (by omega)]
      simp [List.getD, hi2]
    · rw [Array.getElem?_setIfInBounds_ne e, hc']
      have e2 : (bs.set j c).getD i 0 = bs.getD i 0 := by simp [List.getD, List.getElem?_set_ne e]
      rw [e2]
theorem BytesAt.text {w : World} {g : Nat} {bs : List UInt8} (h : BytesAt w g bs) (n cap : Nat) (hn : bs.length = n) : (convert 42 9 (.slice (some ⟨g, 0, none⟩) n cap)).run Tryd.prog w = .ok (.string ⟨bs.toArray⟩) w := by
  subst hn
  refine run_convert_bytes_back w 42 9 5 ⟨g, 0, none⟩ cap bs Tryd.underlying42 Tryd.underlying5 Tryd.underlying9 ?_
  intro j hj
  have hadd : (⟨g, 0, none⟩ : Addr).add j = ⟨g, j, none⟩ := by unfold Addr.add; split <;> simp_all
  rw [hadd, h.cell j hj]
  simp [List.getD, List.getElem?_eq_getElem hj]
theorem bytesAt_new (w : World) (s : ByteArray) (cap hi : Nat) : BytesAt (w.drew.alloc (.cells (bytesRow s cap) 5 ((bytesRow s cap).size, hi))) w.heap.size s.data.toList := by
  refine ⟨bytesRow s cap, hi, ?_, ?_, ?_⟩
  · show (w.heap.push _)[w.heap.size]? = _
    simp
  · simp [bytesRow]
  · intro j hj
    have hj' : j < s.data.size := by simpa using hj
    rw [bytesRow_at s cap j hj']
    simp [List.getD, Array.getElem?_eq_getElem hj']

/-- What is read of the turned bytes, in a box of its own. -/
structure DB (w : World) (d : Cd) (sl : Ls) (og : Nat) (W : World) : Prop where
  low : Below w.heap.size w W
  box : W.heap[og]? = some (.cells (cdCells d sl) 26 (0, 0))
  at' : CdAt W d sl
theorem DB.next {w : World} {d : Cd} {sl : Ls} {og : Nat} {W W2 : World} (h : DB w d sl og W) (hb : Below W.heap.size W W2) : DB w d sl og W2 :=
  ⟨h.low.trans (hb.mono h.low.size), by rw [hb.block _ (lt_block h.box)]; exact h.box, h.at'.below hb⟩
theorem set_same {l : List UInt8} {k : Nat} {x : UInt8} (h : l[k]? = some x) : l.set k x = l := by
  obtain ⟨h1, h2⟩ := List.getElem?_eq_some_iff.1 h
  rw [← h2, List.set_getElem_self]
theorem cut_one (t : ByteArray) (z : Nat) (h : z < t.size) : (t.extract z (z + 1)).data.toList = [t.data.toList.getD z 0] := by
  have h2 : z < t.data.toList.length := by rw [size_toList]; exact h
  rw [ByteArray.data_extract, Array.toList_extract, List.extract, Nat.add_sub_cancel_left, List.drop_eq_getElem_cons h2, List.getD, List.getElem?_eq_getElem h2]
  rfl

set_option maxRecDepth 20000 in
set_option maxHeartbeats 4000000 in
theorem turned_walk (c : Cd) (s : Ls) (at1 turn : Int) (w : World) (htab : TabOk w) (hc : CdIn w c s) (_ : (Lit.int .i64 at1).wf = true) (_ : (Lit.int .i64 turn).wf = true) :
    Calls Tryd.prog 7 #[.agg (cdCells c s), .int .i64 at1, .int .i64 turn] w fun e w' => e = .returned (.bool true) ∧ Below w.heap.size w w' := by
  have HT : Hid (TabOk w) := htab
  have HC : Hid (CdAt w c s) := hc.at'
  clear htab hc
  have HX0 : Hid (Bx w (cdCells c s) (w.alloc (.cells #[.int .i64 c.letters, .int .i64 c.planes, .int .i64 c.regs, .int .i64 c.lo, .int .i64 c.hi, .int .i64 c.most, .slice s.t.a s.t.n s.t.c, .slice s.k.a s.k.n s.k.c, .slice s.i.a s.i.n s.i.c, .slice s.r.a s.r.n s.r.c] 26))) := Bx.start w _
  rw [show cdCells c s = #[.int .i64 c.letters, .int .i64 c.planes, .int .i64 c.regs, .int .i64 c.lo, .int .i64 c.hi, .int .i64 c.most, .slice s.t.a s.t.n s.t.c, .slice s.k.a s.k.n s.k.c, .slice s.i.a s.i.n s.i.c, .slice s.r.a s.r.n s.r.c] from rfl]
  go_enter Tryd.func7, Tryd.ntmps7
  go_wp2_with fail
  refine (weighs_calls c s _ (HC.out.below HX0.out.low)).mono ?_
  rintro e w1 ⟨⟨z1, rfl, _⟩, hb⟩
  have HX1 : Hid (Bx w (cdCells c s) w1) := HX0.out.next hb
  clear hb HX0
  by_cases g1 : 2147483647 < z1
  · go_wp2
    go_ret
    exact ⟨rfl, HX1.out.low⟩
  go_wp2_with fail
  refine (awake_calls w1 (HT.out.below HX1.out.low)).mono ?_
  rintro e w2 ⟨rfl, hb⟩
  have HX2 : Hid (Bx w (cdCells c s) w2) := HX1.out.next hb
  clear hb HX1 g1
  have c0 := HX2.out.cell 0 (.int .i64 c.letters) rfl
  have c1 := HX2.out.cell 1 (.int .i64 c.planes) rfl
  have c2 := HX2.out.cell 2 (.int .i64 c.regs) rfl
  have c3 := HX2.out.cell 3 (.int .i64 c.lo) rfl
  have c4 := HX2.out.cell 4 (.int .i64 c.hi) rfl
  have c5 := HX2.out.cell 5 (.int .i64 c.most) rfl
  have c6 := HX2.out.cell 6 (.slice s.t.a s.t.n s.t.c) rfl
  have c7 := HX2.out.cell 7 (.slice s.k.a s.k.n s.k.c) rfl
  have c8 := HX2.out.cell 8 (.slice s.i.a s.i.n s.i.c) rfl
  have c9 := HX2.out.cell 9 (.slice s.r.a s.r.n s.r.c) rfl
  go_wp2_with fail
  refine (rightR_calls c s _ (HC.out.below HX2.out.low)).mono ?_
  rintro e w3 ⟨rfl, hb⟩
  have HX3 : Hid (Bx w (cdCells c s) w3) := HX2.out.next hb
  clear hb HX2
  clear c0 c1 c2 c3 c4 c5 c6 c7 c8 c9
  obtain ⟨r, hr⟩ : ∃ r, rightB c = r := ⟨_, rfl⟩
  have HR : Hid (rightB c = r) := hr
  have he : encA c = if r then (textB c, 0) else ([], 150) := by rw [encA, hr]
  have HE : Hid (encA c = if r then (textB c, 0) else ([], 150)) := he
  rw [hr]
  clear hr he
  cases r
  · go_wp2
    go_ret
    exact ⟨rfl, HX3.out.low⟩
  have c0 := HX3.out.cell 0 (.int .i64 c.letters) rfl
  have c1 := HX3.out.cell 1 (.int .i64 c.planes) rfl
  have c2 := HX3.out.cell 2 (.int .i64 c.regs) rfl
  have c3 := HX3.out.cell 3 (.int .i64 c.lo) rfl
  have c4 := HX3.out.cell 4 (.int .i64 c.hi) rfl
  have c5 := HX3.out.cell 5 (.int .i64 c.most) rfl
  have c6 := HX3.out.cell 6 (.slice s.t.a s.t.n s.t.c) rfl
  have c7 := HX3.out.cell 7 (.slice s.k.a s.k.n s.k.c) rfl
  have c8 := HX3.out.cell 8 (.slice s.i.a s.i.n s.i.c) rfl
  have c9 := HX3.out.cell 9 (.slice s.r.a s.r.n s.r.c) rfl
  go_wp2_with fail
  refine (encode_calls c s _ (HC.out.below HX3.out.low)).mono ?_
  rintro e w4 ⟨t4, rfl, ht4, hb⟩
  have HB4 : Hid (Below w.heap.size w w4) := (HX3.out.next hb).low
  rw [HE.out] at ht4 ⊢
  have htx : t4.data.toList = textB c := ht4
  have HRt : Hid (Rt c) := rt_of HR.out
  have HTx : Hid (t4.data.toList = textB c) := htx
  have hp2 : t4.size ≤ 50008 := by rw [← size_toList, htx]; exact textB_len HRt.out
  have hp1 : 4 < t4.size := by rw [← size_toList, htx]; simp [textB, checkB, ck4, markB]
  have hne : ¬ (t4.size : Int) = 0 := by omega
  have hnx : (t4.toList == []) = false := by
    rw [beq_eq_false_iff_ne, ByteArray.toList_eq]
    intro e
    have h0 : t4.size = 0 := by rw [← size_toList, e]; rfl
    omega
  clear hb HX3 HC ht4 htx
  clear c0 c1 c2 c3 c4 c5 c6 c7 c8 c9
  go_upto_if 48 with (fail)
  have hr1 : at1.tmod (t4.size : Int) < (t4.size : Int) := Int.tmod_lt_of_pos _ (by omega)
  have hr2 : -(t4.size : Int) < at1.tmod (t4.size : Int) := Int.lt_tmod_of_pos _ (by omega)
  generalize at1.tmod (t4.size : Int) = rr at *
  go_cut [12] (fun v wc => wc = w4 ∧ ∃ z : Nat, z < t4.size ∧ v = .int .i64 z)
  case first =>
    by_cases hr : rr < 0
    · have hdr : decide (rr < 0) = true := by simp [hr]
      go_wp2
      go_meet
      exact ⟨rfl, (rr + t4.size).toNat, by omega, val_int (by omega)⟩
    · have hdr : decide (rr < 0) = false := by simp [hr]
      go_wp2
      go_meet
      exact ⟨rfl, rr.toNat, by omega, val_int (by omega)⟩
  case rest =>
    obtain ⟨rfl, z, hz, rfl⟩ := hcut
    clear hr1 hr2
    have hconv := run_bytes_of_string (P := Tryd.prog) wc 9 42 5 t4 Tryd.underlying9 Tryd.underlying42 Tryd.underlying5
    generalize grownCap wc t4.size 0 5 = cp at *
    have HNew := bytesAt_new wc t4 cp ((bytesRow t4 cp).size + 1)
    have hzI : (z : Int) < (t4.size : Int) := by omega
    have HNe : Hid (BytesAt (wc.alloc (.cells (bytesRow t4 cp) 5 ((bytesRow t4 cp).size, (bytesRow t4 cp).size + 1))).drew wc.heap.size t4.data.toList) := HNew
    have hcell := HNe.out.cell z (by rw [size_toList]; exact hz)
    have hfroz := HNe.out.frozen z (by rw [size_toList]; exact hz)
    clear HNew
    obtain ⟨y, hy⟩ : ∃ y : UInt8, (y.toNat : Int) = turn % 256 := ⟨UInt8.ofNat (turn % 256).toNat, by rw [UInt8.toNat_ofNat', Nat.mod_eq_of_lt (by omega)]; omega⟩
    obtain ⟨t, ht⟩ : ∃ t : ByteArray, (⟨(t4.data.toList.set z y).toArray⟩ : ByteArray) = t := ⟨_, rfl⟩
    have HTt : Hid (t.data.toList = (textB c).set z y) := by show _ = _; rw [← ht, mk_list, HTx.out]
    have htl : t.size = t4.size := by rw [← ht, mk_size, List.length_set, size_toList]
    have hput := HNe.out.put z y
    rw [hy] at hput
    have htext := hput.text t4.size cp (by rw [List.length_set, size_toList])
    rw [ht] at htext
    have htext2 : (convert 42 9 (.slice (some ⟨wc.heap.size, 0, none⟩) t4.size cp)).run Tryd.prog ((wc.alloc (.cells (bytesRow t4 cp) 5 ((bytesRow t4 cp).size, (bytesRow t4 cp).size + 1))).setCell ⟨wc.heap.size, z, none⟩ (.int .u8 (turn % 256))).drew = .ok (.string t) ((wc.alloc (.cells (bytesRow t4 cp) 5 ((bytesRow t4 cp).size, (bytesRow t4 cp).size + 1))).setCell ⟨wc.heap.size, z, none⟩ (.int .u8 (turn % 256))).drew := htext
    have HB5 : Hid (Below w.heap.size w ((wc.alloc (.cells (bytesRow t4 cp) 5 ((bytesRow t4 cp).size, (bytesRow t4 cp).size + 1))).setCell ⟨wc.heap.size, z, none⟩ (.int .u8 (turn % 256))).drew) := ((HB4.out.alloc HB4.out.size _).setCell (p := ⟨wc.heap.size, z, none⟩) HB4.out.size _).drew
    clear htext hput HNe hy ht
    go_wp2_with fail
    obtain ⟨w5, hw5⟩ : ∃ w5, ((wc.alloc (.cells (bytesRow t4 cp) 5 ((bytesRow t4 cp).size, (bytesRow t4 cp).size + 1))).setCell ⟨wc.heap.size, z, none⟩ (.int .u8 (turn % 256))).drew = w5 := ⟨_, rfl⟩
    rw [hw5] at HB5 ⊢
    clear hconv hcell hfroz htext2 hw5
    obtain ⟨x, hx⟩ : ∃ x, (textB c)[z]? = some x := ⟨_, List.getElem?_eq_getElem (by rw [← HTx.out, size_toList]; exact hz)⟩
    have HX : Hid ((textB c)[z]? = some x) := hx
    clear hx
    have HY : Hid (t.data.toList.getD z 0 = y) := by
      show _ = _
      have hl : z < (textB c).length := (List.getElem?_eq_some_iff.1 HX.out).1
      rw [HTt.out, List.getD, List.getElem?_set_self hl]; rfl
    refine (decode_calls t w5 (by unfold maxLen; omega)).mono ?_
    rintro e w6 ⟨sl, rfl, hat, hb6, _⟩
    obtain ⟨d, hd⟩ : ∃ d, (decA t.data.toList).1 = d := ⟨_, rfl⟩
    obtain ⟨er, her⟩ : ∃ er, (decA t.data.toList).2 = er := ⟨_, rfl⟩
    rw [hd] at hat ⊢
    rw [her]
    have HDe : Hid (decA t.data.toList = (d, er)) := by show _ = _; rw [← hd, ← her]
    rw [show cdCells d sl = #[.int .i64 d.letters, .int .i64 d.planes, .int .i64 d.regs, .int .i64 d.lo, .int .i64 d.hi, .int .i64 d.most, .slice sl.t.a sl.t.n sl.t.c, .slice sl.k.a sl.k.n sl.k.c, .slice sl.i.a sl.i.n sl.i.c, .slice sl.r.a sl.r.n sl.r.c] from rfl]
    have HD6 : Hid (DB w d sl w6.heap.size (w6.alloc (.cells #[.int .i64 d.letters, .int .i64 d.planes, .int .i64 d.regs, .int .i64 d.lo, .int .i64 d.hi, .int .i64 d.most, .slice sl.t.a sl.t.n sl.t.c, .slice sl.k.a sl.k.n sl.k.c, .slice sl.i.a sl.i.n sl.i.c, .slice sl.r.a sl.r.n sl.r.c] 26))) := by
      have hl : Below w.heap.size w w6 := HB5.out.trans (hb6.mono HB5.out.size)
      exact ⟨hl.alloc hl.size _, heap_alloc_new _ _, hat.below (below_new _)⟩
    clear hat hb6 hd her HB5
    go_upto_region 18 with (fail)
    obtain ⟨og, hog⟩ : ∃ og, w6.heap.size = og := ⟨_, rfl⟩
    have HOg : Hid (w6.heap.size = og) := hog
    rw [hog] at HD6
    obtain ⟨w7, hw7⟩ : ∃ w7, w6.alloc (.cells #[.int .i64 d.letters, .int .i64 d.planes, .int .i64 d.regs, .int .i64 d.lo, .int .i64 d.hi, .int .i64 d.most, .slice sl.t.a sl.t.n sl.t.c, .slice sl.k.a sl.k.n sl.k.c, .slice sl.i.a sl.i.n sl.i.c, .slice sl.r.a sl.r.n sl.r.c] 26) = w7 := ⟨_, rfl⟩
    have HW7 : Hid (w6.alloc (.cells #[.int .i64 d.letters, .int .i64 d.planes, .int .i64 d.regs, .int .i64 d.lo, .int .i64 d.hi, .int .i64 d.most, .slice sl.t.a sl.t.n sl.t.c, .slice sl.k.a sl.k.n sl.k.c, .slice sl.i.a sl.i.n sl.i.c, .slice sl.r.a sl.r.n sl.r.c] 26) = w7) := hw7
    rw [hw7] at HD6
    clear hog hw7
    rw [HW7.out, HOg.out]
    have hsl : ∀ W, (Instr.slice 9 (.string t4) none (some (.int .i64 ((t4.size : Int) - 1))) none).run Tryd.prog W = .ok (.string (t4.extract 0 (t4.size - 1))) W := fun W => by
      rw [run_slice_string_to_if W 9 t4 .i64 _ Tryd.underlying9, if_pos (by omega), show ((t4.size : Int) - 1).toNat = t4.size - 1 by omega]
    obtain ⟨u, hu⟩ : ∃ u, t4.extract 0 (t4.size - 1) = u := ⟨_, rfl⟩
    rw [hu] at hsl
    have hul : u.data.toList = (textB c).take (t4.size - 1) := by rw [← hu, extract0, HTx.out]
    have hus : u.size ≤ maxLen := by rw [← hu]; exact Nat.le_trans (extract0_le _ _) (by unfold maxLen; omega)
    have HDu : Hid (decA u.data.toList = (noCd, 150)) := by
      show _ = _
      rw [hul]
      exact dec_short HRt.out (by rw [← HTx.out, size_toList]; omega)
    clear hu hul
    go_wp2_with fail
    refine (decode_calls u w7 hus).mono ?_
    rintro e w8 ⟨s8, rfl, _, hb8, _⟩
    rw [HDu.out]
    have HD8 : Hid (DB w d sl og w8) := HD6.out.next hb8
    clear hb8 HD6 hsl HDu hus
    rw [show cdCells (noCd, (150 : Int)).1 s8 = #[.int .i64 0, .int .i64 0, .int .i64 0, .int .i64 0, .int .i64 0, .int .i64 0, .slice s8.t.a s8.t.n s8.t.c, .slice s8.k.a s8.k.n s8.k.c, .slice s8.i.a s8.i.n s8.i.c, .slice s8.r.a s8.r.n s8.r.c] from rfl]
    go_upto_region 19 with (fail)
    obtain ⟨w9, hw9⟩ : ∃ w9, w8.alloc (.cells #[.int .i64 0, .int .i64 0, .int .i64 0, .int .i64 0, .int .i64 0, .int .i64 0, .slice s8.t.a s8.t.n s8.t.c, .slice s8.k.a s8.k.n s8.k.c, .slice s8.i.a s8.i.n s8.i.c, .slice s8.r.a s8.r.n s8.r.c] 26) = w9 := ⟨_, rfl⟩
    have HW9 : Hid (w8.alloc (.cells #[.int .i64 0, .int .i64 0, .int .i64 0, .int .i64 0, .int .i64 0, .int .i64 0, .slice s8.t.a s8.t.n s8.t.c, .slice s8.k.a s8.k.n s8.k.c, .slice s8.i.a s8.i.n s8.i.c, .slice s8.r.a s8.r.n s8.r.c] 26) = w9) := hw9
    have HD9 : Hid (DB w d sl og w9) := by rw [← hw9]; exact HD8.out.next (below_new _)
    clear hw9 HD8
    rw [HW9.out]
    have hsl : ∀ W, (Instr.slice 9 (.string t) (some (.int .i64 (z : Int))) (some (.int .i64 ((z : Int) + 1))) none).run Tryd.prog W = .ok (.string (t.extract z (z + 1))) W := fun W => by
      rw [run_slice_string W 9 _ .i64 .i64 _ _ Tryd.underlying9 (by omega) (by omega) (by omega)]
      rw [show ((z : Int)).toNat = z by omega, show ((z : Int) + 1).toNat = z + 1 by omega]
    have hv := cut_one t z (by omega)
    rw [HY.out] at hv
    generalize t.extract z (z + 1) = v at hsl hv
    have hvs : v.size = 1 := by rw [← size_toList, hv]; rfl
    obtain ⟨p, pl, ps, pr⟩ := cat_ex t4 v (by omega)
    have HDp : Hid (decA p.data.toList = (noCd, 150)) := by
      show _ = _
      rw [pl, hv, HTx.out]
      exact dec_long HRt.out y
    clear hv pl
    go_wp2_with fail
    refine (decode_calls p w9 (by unfold maxLen; omega)).mono ?_
    rintro e w10 ⟨s10, rfl, _, hb10, _⟩
    rw [HDp.out]
    have HD10 : Hid (DB w d sl og w10) := HD9.out.next hb10
    clear hb10 HD9 hsl HDp pr
    rw [show cdCells (noCd, (150 : Int)).1 s10 = #[.int .i64 0, .int .i64 0, .int .i64 0, .int .i64 0, .int .i64 0, .int .i64 0, .slice s10.t.a s10.t.n s10.t.c, .slice s10.k.a s10.k.n s10.k.c, .slice s10.i.a s10.i.n s10.i.c, .slice s10.r.a s10.r.n s10.r.c] from rfl]
    go_upto_region 20 with (fail)
    obtain ⟨w11, hw11⟩ : ∃ w11, w10.alloc (.cells #[.int .i64 0, .int .i64 0, .int .i64 0, .int .i64 0, .int .i64 0, .int .i64 0, .slice s10.t.a s10.t.n s10.t.c, .slice s10.k.a s10.k.n s10.k.c, .slice s10.i.a s10.i.n s10.i.c, .slice s10.r.a s10.r.n s10.r.c] 26) = w11 := ⟨_, rfl⟩
    have HW11 : Hid (w10.alloc (.cells #[.int .i64 0, .int .i64 0, .int .i64 0, .int .i64 0, .int .i64 0, .int .i64 0, .slice s10.t.a s10.t.n s10.t.c, .slice s10.k.a s10.k.n s10.k.c, .slice s10.i.a s10.i.n s10.i.c, .slice s10.r.a s10.r.n s10.r.c] 26) = w11) := hw11
    have HD11 : Hid (DB w d sl og w11) := by rw [← hw11]; exact HD10.out.next (below_new _)
    clear hw11 HD10
    rw [HW11.out]
    have d0 : w11.cell? ⟨og, 0, none⟩ = some (.int .i64 d.letters) := cell_block HD11.out.box 0 _ rfl
    have d1 : w11.cell? ⟨og, 1, none⟩ = some (.int .i64 d.planes) := cell_block HD11.out.box 1 _ rfl
    have d2 : w11.cell? ⟨og, 2, none⟩ = some (.int .i64 d.regs) := cell_block HD11.out.box 2 _ rfl
    have d3 : w11.cell? ⟨og, 3, none⟩ = some (.int .i64 d.lo) := cell_block HD11.out.box 3 _ rfl
    have d4 : w11.cell? ⟨og, 4, none⟩ = some (.int .i64 d.hi) := cell_block HD11.out.box 4 _ rfl
    have d5 : w11.cell? ⟨og, 5, none⟩ = some (.int .i64 d.most) := cell_block HD11.out.box 5 _ rfl
    have d6 : w11.cell? ⟨og, 6, none⟩ = some (.slice sl.t.a sl.t.n sl.t.c) := cell_block HD11.out.box 6 _ rfl
    have d7 : w11.cell? ⟨og, 7, none⟩ = some (.slice sl.k.a sl.k.n sl.k.c) := cell_block HD11.out.box 7 _ rfl
    have d8 : w11.cell? ⟨og, 8, none⟩ = some (.slice sl.i.a sl.i.n sl.i.c) := cell_block HD11.out.box 8 _ rfl
    have d9 : w11.cell? ⟨og, 9, none⟩ = some (.slice sl.r.a sl.r.n sl.r.c) := cell_block HD11.out.box 9 _ rfl
    have HSm : Hid (∀ W, CdAt W d sl → Calls Tryd.prog 19 #[.agg #[.int .i64 d.letters, .int .i64 d.planes, .int .i64 d.regs, .int .i64 d.lo, .int .i64 d.hi, .int .i64 d.most, .slice sl.t.a sl.t.n sl.t.c, .slice sl.k.a sl.k.n sl.k.c, .slice sl.i.a sl.i.n sl.i.c, .slice sl.r.a sl.r.n sl.r.c], .agg #[.int .i64 0, .int .i64 0, .int .i64 0, .int .i64 0, .int .i64 0, .int .i64 0, .slice none 0 0, .slice none 0 0, .slice none 0 0, .slice none 0 0]] W fun e w' => e = .returned (.bool (sameB d noCd)) ∧ Below W.heap.size W w') := fun W k1 => same_calls d noCd sl nilS W k1 (no_at W)
    go_wp2_with fail
    refine (HSm.out w11 HD11.out.at').mono ?_
    rintro e w12 ⟨rfl, hb12⟩
    have HD12 : Hid (DB w d sl og w12) := HD11.out.next hb12
    clear hb12 HD11 HSm d0 d1 d2 d3 d4 d5 d6 d7 d8 d9
    by_cases hyx : y = x
    · have hteq : t.data.toList = textB c := by rw [HTt.out, hyx]; exact set_same HX.out
      have HF : Hid (d = c ∧ er = 0) := by
        have h1 := HDe.out
        rw [hteq, decA_ok HR.out] at h1
        cases h1
        exact ⟨rfl, rfl⟩
      have heq : (t.toList == t4.toList) = true := by rw [ByteArray.toList_eq, ByteArray.toList_eq, hteq, HTx.out]; simp
      have he0 := HF.out.2
      clear hyx hteq HF HDe
      subst he0
      generalize sameB d noCd = q
      go_wp2
      go_ret
      exact ⟨rfl, HD12.out.low⟩
    · have HF : Hid (d = noCd ∧ er = 150) := by
        have h1 := HDe.out
        rw [HTt.out, dec_turned HX.out hyx] at h1
        cases h1
        exact ⟨rfl, rfl⟩
      have hq : sameB d noCd = true := sameB_iff.2 HF.out.1
      have he0 := HF.out.2
      have heq : (t.toList == t4.toList) = false := by
        rw [beq_eq_false_iff_ne, ByteArray.toList_eq, ByteArray.toList_eq, HTt.out, HTx.out]
        intro e
        have hl : z < (textB c).length := (List.getElem?_eq_some_iff.1 HX.out).1
        have h6 := congrArg (·[z]?) e
        simp only [List.getElem?_set_self hl] at h6
        rw [HX.out] at h6
        exact hyx (Option.some.inj h6)
      rw [hq]
      clear hyx HF HDe hq
      subst he0
      go_wp2
      go_ret
      exact ⟨rfl, HD12.out.low⟩


namespace codeTurned
open Go.ChangeShapes Go.WideShapes Go.ChangeAt Go.RowKit
open Go.ChangeMaps (open_string shut_string)

set_option maxRecDepth 100000 in
theorem lifted (os : Os) (started : os.Started) (H : Type) (enc : TypeId × Value → H) :
    ReturnsInHanded {} Tryd.checked os 7 .any (fun w args => (Rows.codeTurnedSpec.pre enc Tryd.prog Tryd.f7 [] false w args ∧ laidMetH Tryd.prog theLaid w) ∧ sizedMet enc Tryd.prog Tryd.f7 (OpenSpec.ofChange Rows.codeTurnedSpec) false w args)
      (Rows.codeTurnedSpec.post enc Tryd.prog Tryd.f7 false true false false) := by
  refine returnsInHanded_of_change_and (C := Tryd.checked) (X := fun w _ => laidMetH Tryd.prog theLaid w) (fun _ _ _ hh h => h.of_heap hh) own started (by kernel_rfl) Tryd.func7
    (ChangeSpec.witness_shaped (enc := enc) (C := Tryd.checked) (os := os) (X := fun w _ => laidMetH Tryd.prog theLaid w) false (World.doorLaid Tryd.prog 400 os) #[.agg #[.int .i64 0, .int .i64 0, .int .i64 0, .int .i64 0, .int .i64 0, .int .i64 0, .slice none 0 0, .slice none 0 0, .slice none 0 0, .slice none 0 0], .int .i64 0, .int .i64 0] 8 rfl (World.shaped_of_RefB (by kernel_rfl) (by kernel_rfl)) (by kernel_rfl) (by kernel_rfl) (by kernel_rfl) (door_met os _)) ?_
  intro W base args ds gs before hval0 hW _ _ hL _
  have hval : ∀ (j : Nat) t v, Tryd.f7.params[j]? = some t → args[j]? = some v → Value.okWide Tryd.prog W .any base t v := hval0
  have hW' := hW
  obtain ⟨p, q, hA0, hV, rfl, hfz, hnd⟩ := hW
  have hA : DataW.TrodAll enc Tryd.prog W 0 (fun _ => true) true Tryd.f7.params.toList args.toList ds p := hA0
  rw [Tryd.params7] at hA hval
  obtain ⟨v0, vs0, d0, ds0, p0, q0, hargs, rfl, rfl, h0, r0⟩ := trodAll_cons hA
  obtain ⟨v1, vs1, d1, ds1, p1, q1, rfl, rfl, rfl, h1, r1⟩ := trodAll_cons r0
  obtain ⟨v2, vs2, d2, ds2, p2, q2, rfl, rfl, rfl, h2, r2⟩ := trodAll_cons r1
  obtain ⟨rfl, rfl, rfl⟩ := trodAll_nil r2
  obtain rfl : args = #[v0, v1, v2] := by cases args; simp_all
  obtain ⟨rfl, rfl⟩ := trodVars_none hV
  obtain ⟨cs0, rfl, hcs0⟩ := okWide_struct Tryd.underlying26 (hval 0 26 v0 rfl rfl)
  have k0 := h0
  have lt0 : ∀ x ∈ p0, x.block < W.heap.size := by obtain ⟨m, hm⟩ := k0; exact DataW.trod_lt m _ _ _ hm
  obtain ⟨z0, s0, e0, w0⟩ := cd_in hcs0 h0
  subst e0
  obtain ⟨a1, rfl, rfl, rfl, w1⟩ := open_int Tryd.underlying3 (hval 1 3 v1 rfl rfl) h1
  obtain ⟨a2, rfl, rfl, rfl, w2⟩ := open_int Tryd.underlying3 (hval 2 3 v2 rfl rfl) h2
  clear hA0 hval0
  refine (turned_walk z0 s0 a1 a2 W (tab_of_laid hL) w0 w1 w2).mono fun e W' ⟨he, bel⟩ => ?_
  subst he
  exact ⟨_, rfl, _, _, _, [], _, [], hW', trodAll_mk1 (shut_bool Tryd.underlying4 _), (trodAll_cons_mk (Below.trod laidOut (by kernel_rfl) (of_decide_eq_true (by kernel_rfl)) k0 bel lt0) (trodAll_cons_mk (shut_int Tryd.underlying3 w1) (trodAll_cons_mk (shut_int Tryd.underlying3 w2) trodAll_mk0))), rfl, bel.frame _, fun h => by cases h⟩
end codeTurned

theorem codeTurned_holds : Rows.CodeTurnedSaid :=
  OpenClaim.holds_of_wide 7 Tryd.f7 rfl rfl rfl rfl rfl rfl rfl ⟨rfl, rfl, rfl, rfl, rfl⟩ rfl rfl rfl rfl rfl (by kernel_rfl) Tryd.func7 (by kernel_rfl)
    (of_decide_eq_true (by kernel_rfl)) (by unfold Func.isWrapper; first | (rw [if_pos (by decide +kernel)]; kernel_rfl) | (rw [if_neg (by decide +kernel)]; exact ⟨rfl, rfl⟩))
    (fun os started H enc _ => codeTurned.lifted os started H enc)

theorem codeTurnedCard_holds : Rows.CodeTurnedCardSaid :=
  Claim7.holds_tied_plain_at .later [] [.data, .data, .data] true (true, "f9005e9bbb51a183d67557a8bddb91a2248e73d4468646ef1995ae77272fb2ba") false
    codeTurned_holds (fun _ h => by cases h) (by kernel_rfl) (fun _ h => by cases h) codeTurned_row_tie rfl ⟨rfl, rfl⟩ (by kernel_rfl) rfl
    (fun f fn hf hfn => by
      obtain rfl : f = 7 := Option.some.inj ((show Tryd.prog.funcNamed Rows.codeTurnedRow.func = some 7 by kernel_rfl).symm.trans hf) |>.symm
      obtain rfl : fn = Tryd.f7 := (Option.some.inj (Tryd.func7.symm.trans hfn)).symm
      exact ⟨by kernel_rfl, fun j t ht => by
        rw [Tryd.params7] at ht
        have hm : t ∈ [26, 3, 3] := by simpa using Array.mem_of_getElem? ht
        have hall : ([26, 3, 3].all fun u => !Tryd.prog.wantsStandIn u) = true := by kernel_rfl
        exact (show Tryd.prog.wantsStandIn t = false by simpa using List.all_eq_true.1 hall t hm)⟩)
    (by kernel_rfl)
end Go.Proofs.YtignpgoicoojiaaDoor
