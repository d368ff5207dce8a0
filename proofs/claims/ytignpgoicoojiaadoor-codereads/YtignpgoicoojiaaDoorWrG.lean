/-
  The walks of Encode and the document's Encode.
-/
import Derived.Test.YtignpgoicoojiaaDoorWrE
namespace Go.Proofs.YtignpgoicoojiaaDoor
open Go.RowKit

/-- A text and an error, and new memory at most. -/
def TextPost (r : List UInt8 × Int) (w : World) (e : Ending) (w' : World) : Prop := ∃ t : ByteArray, e = .returned (.tuple #[.string t, .int .i64 r.2]) ∧ t.data.toList = r.1 ∧ Below w.heap.size w w'
theorem text_post {r : List UInt8 × Int} {l : List UInt8} {er : Int} {w w' : World} {t : ByteArray} (he : r = (l, er)) (ht : t.data.toList = l) (hb : Below w.heap.size w w') : TextPost r w (.returned (.tuple #[.string t, .int .i64 er])) w' :=
  ⟨t, by rw [he], by rw [he]; exact ht, hb⟩
theorem ba_append (a b : ByteArray) : (a ++ b).data.toList = a.data.toList ++ b.data.toList := by simp
theorem textB_len {c : Cd} (h : Rt c) : (textB c).length ≤ 50008 := by
  have := h.lens
  simp [textB, markB, checkB, ck4]; omega

set_option maxHeartbeats 2000000 in
theorem encode_calls (c : Cd) (s : Ls) (w : World) (h : CdAt w c s) :
    Calls Tryd.prog 14 #[.agg (cdCells c s)] w fun e w' => TextPost (encA c) w e w' := by
  have HC : Hid (CdAt w c s) := h
  clear h
  obtain ⟨r, hr⟩ : ∃ r, rightB c = r := ⟨_, rfl⟩
  have HR : Hid (rightB c = r) := hr
  clear hr
  rw [show cdCells c s = #[.int .i64 c.letters, .int .i64 c.planes, .int .i64 c.regs, .int .i64 c.lo, .int .i64 c.hi, .int .i64 c.most, .slice s.t.a s.t.n s.t.c, .slice s.k.a s.k.n s.k.c, .slice s.i.a s.i.n s.i.c, .slice s.r.a s.r.n s.r.c] from rfl]
  go_enter Tryd.func14, Tryd.ntmps14
  go_wp2_with fail
  refine (right_calls c s _ (HC.out.below (below_new _))).mono ?_
  rintro e w1 ⟨rfl, hb⟩
  rw [HR.out]
  have HX : Hid (Bx w (cdCells c s) w1) := (Bx.start w _).next hb
  clear hb
  cases r
  · have HE : Hid (encA c = ([], 150)) := by show _ = _; rw [encA, if_neg (by rw [HR.out]; decide)]
    go_wp2
    go_ret2
    exact text_post HE.out rfl HX.out.low
  have HE : Hid (encA c = (textB c, 0)) := by show _ = _; rw [encA, if_pos HR.out]
  have HRt : Hid (Rt c) := rt_of HR.out
  have c0 := HX.out.cell 0 (.int .i64 c.letters) rfl
  have c1 := HX.out.cell 1 (.int .i64 c.planes) rfl
  have c2 := HX.out.cell 2 (.int .i64 c.regs) rfl
  have c3 := HX.out.cell 3 (.int .i64 c.lo) rfl
  have c4 := HX.out.cell 4 (.int .i64 c.hi) rfl
  have c5 := HX.out.cell 5 (.int .i64 c.most) rfl
  have c6 := HX.out.cell 6 (.slice s.t.a s.t.n s.t.c) rfl
  have c7 := HX.out.cell 7 (.slice s.k.a s.k.n s.k.c) rfl
  have c8 := HX.out.cell 8 (.slice s.i.a s.i.n s.i.c) rfl
  have c9 := HX.out.cell 9 (.slice s.r.a s.r.n s.r.c) rfl
  go_wp2_with fail
  refine (written_calls c s _ (HC.out.below HX.out.low) HRt.out).mono ?_
  rintro e w2 ⟨v, rfl, hown, hb⟩
  obtain ⟨ao, cap, rfl⟩ := owned_shape hown
  have hconv := owned_text hown
  have HL2 : Hid (Below w.heap.size w w2) := HX.out.low.trans (hb.mono HX.out.low.size)
  clear hb hown c0 c1 c2 c3 c4 c5 c6 c7 c8 c9 HX HC
  have hbl : (bodyB c).length ≤ 50000 := by have := HRt.out.lens; omega
  obtain ⟨t, ht⟩ : ∃ t : ByteArray, (⟨(bodyB c).toArray⟩ : ByteArray) = t := ⟨_, rfl⟩
  rw [ht] at hconv
  have htl : t.data.toList = bodyB c := by rw [← ht]
  have hts : t.size ≤ 50000 := by rw [← size_toList, htl]; exact hbl
  have HT : Hid (t.data.toList = bodyB c) := htl
  generalize (bodyB c).length = n at hconv ⊢
  clear ht htl hbl
  have hcat : ∀ W, (Op.stringOp .add (⟨#[72, 76, 88, 49]⟩ : ByteArray) t).run Tryd.prog W = .ok (.string ((⟨#[72, 76, 88, 49]⟩ : ByteArray) ++ t)) W := fun W => run_string_add_sum W _ _ (by rw [show (⟨#[72, 76, 88, 49]⟩ : ByteArray).size = 4 from rfl]; omega)
  obtain ⟨u, hu⟩ : ∃ u : ByteArray, (⟨#[72, 76, 88, 49]⟩ : ByteArray) ++ t = u := ⟨_, rfl⟩
  rw [hu] at hcat
  have hul : u.data.toList = markB ++ bodyB c := by rw [← hu, ba_append, HT.out]; rfl
  have hus : u.size ≤ 50004 := by rw [← size_toList, hul]; have := HRt.out.lens; simp [markB]; omega
  have HU : Hid (u.data.toList = markB ++ bodyB c) := hul
  clear hu hul
  go_wp2_with fail
  refine (check_calls u _ (by unfold maxLen; omega)).mono ?_
  rintro e w3 ⟨k, rfl, hkl, hb⟩
  have HL3 : Hid (Below w.heap.size w w3) := HL2.out.trans (hb.mono HL2.out.size)
  have hks : k.size = 4 := by rw [← size_toList, hkl]; rfl
  have HK : Hid (k.data.toList = checkB u.data.toList) := hkl
  have hcat2 : ∀ W, (Op.stringOp .add u k).run Tryd.prog W = .ok (.string (u ++ k)) W := fun W => run_string_add_sum W _ _ (by omega)
  clear hb hkl hks
  go_wp2
  go_ret2
  exact text_post HE.out (by rw [ba_append, HK.out, HU.out]; rfl) HL3.out

end Go.Proofs.YtignpgoicoojiaaDoor
