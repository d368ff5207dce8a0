/-
  The walks of listed and List.
-/
import Derived.Test.YtignpgoicoojiaaDoorLst
import Derived.Test.YtignpgoicoojiaaDoorWrF
namespace Go.Proofs.YtignpgoicoojiaaDoor
open Go.RowKit

theorem builder_below {B b : Nat} {bs : List Value} {w w' : World} (h : Lib.IsBuilder 72 5 B b bs w) (hb : Below w.heap.size w w') : Lib.IsBuilder 72 5 B b bs w' := by
  rcases h with ⟨h1, v, h2, h3, h4⟩ | ⟨h1, v, h2, h3, h4⟩
  · exact .inl ⟨h1, v, by rw [hb.block b (lt_block h2)]; exact h2, owned_below h3 hb, h4⟩
  · exact .inr ⟨h1, v, by rw [hb.block b (lt_block h2)]; exact h2, owned_below h3 hb, h4⟩
def okQ (q : Qd) : Prop := fitI q.1 ∧ fitI q.2.1 ∧ fitI q.2.2.1 ∧ fitI q.2.2.2
theorem lineB_len {q : Qd} (h : okQ q) : (lineB q).length ≤ 80 := by
  have h1 := itoa_len h.2.1
  have h2 := itoa_len h.2.2.1
  have h3 := itoa_len h.2.2.2
  have h4 := whereB_len h.2.2.2
  have h5 := stepB_len h.2.2.2
  simp only [lineB]
  repeat' split
  all_goals (simp only [List.length_append, List.length_cons, List.length_nil]; omega)
theorem listB_take {l : List Qd} {k : Nat} {q : Qd} (h : l[k]? = some q) : listB (l.take (k + 1)) = listB (l.take k) ++ (lineB q ++ [10]) := by
  rw [List.take_add_one, h]
  simp [listB]
theorem listB_len : ∀ {l : List Qd}, (∀ q ∈ l, okQ q) → (listB l).length ≤ 81 * l.length
  | [], _ => by simp [listB]
  | q :: l, h => by
    have h1 := lineB_len (h q (by simp))
    have h2 := listB_len (l := l) (fun y hy => h y (by simp [hy]))
    simp [listB] at h2 ⊢; omega
theorem Rt.okQ {c : Cd} (h : Rt c) : ∀ q ∈ c.cell, okQ q := fun q hq => by
  have h1 := (h.cs q hq).2
  have a := h1 q.1 (by simp [q4])
  have b := h1 q.2.1 (by simp [q4])
  have d := h1 q.2.2.1 (by simp [q4])
  have e := h1 q.2.2.2 (by simp [q4])
  exact ⟨⟨by omega, by omega⟩, ⟨by omega, by omega⟩, ⟨by omega, by omega⟩, ⟨by omega, by omega⟩⟩

set_option maxHeartbeats 4000000 in
theorem listed_calls (ao : Option Addr) (len cap : Nat) (l : List Qd) (w : World) (h : QdsAt w ao len l) (hl : len ≤ 1000) (hq : ∀ q ∈ l, okQ q) (ht : TabOk w) : StrC 39 #[.slice ao len cap] (listB l) w := by
  unfold StrC
  have HZL : Hid (l.length = len) := h.length
  have HZ : Hid (QdsAt w ao len l) := h
  have HT : Hid (TabOk w) := ht
  have HO : Hid (∀ q ∈ l, okQ q) := hq
  clear h ht hq
  go_enter Tryd.func39, Tryd.ntmps39
  go_wp2
  have HF : Hid (Lib.IsBuilder 72 5 w.heap.size w.heap.size (byteVals []) (w.alloc (.cells #[.pointer none, .slice none 0 0] 72))) := Lib.fresh_isBuilder 72 5 w
  have HFb : Hid (Below w.heap.size w (w.alloc (.cells #[.pointer none, .slice none 0 0] 72))) := below_new _
  have hFs : w.heap.size ≤ (w.alloc (.cells #[.pointer none, .slice none 0 0] 72)).heap.size := by simp
  obtain ⟨b2, hb2⟩ : ∃ b2, w.heap.size = b2 := ⟨_, rfl⟩
  have HB2 : Hid (w.heap.size = b2) := hb2
  rw [hb2] at HF hFs HFb
  obtain ⟨wa, hwa⟩ : ∃ wa, w.alloc (.cells #[.pointer none, .slice none 0 0] 72) = wa := ⟨_, rfl⟩
  have HWA : Hid (w.alloc (.cells #[.pointer none, .slice none 0 0] 72) = wa) := hwa
  rw [hwa] at HF HFb hFs
  clear hb2 hwa
  rw [HWA.out, HB2.out]
  go_loopw [5, 8] (fun _ i wq => ∃ j : Nat, j ≤ len ∧ i = .int .i64 j ∧ Lib.IsBuilder 72 5 b2 b2 (byteVals (listB (l.take j))) wq ∧ Below b2 w wq ∧ b2 ≤ wq.heap.size) (fun _ i _ => len - (intOf i).toNat)
  case atStart => exact ⟨0, Nat.zero_le _, rfl, HF.out, HFb.out, hFs⟩
  case round =>
    obtain ⟨j, hj, rfl, hbu, hbel, hsz⟩ := hrel
    have HBu : Hid (Lib.IsBuilder 72 5 b2 b2 (byteVals (listB (l.take j))) wr) := hbu
    have HBe : Hid (Below b2 w wr) := hbel
    clear hbu hbel HF HFb hFs
    by_cases hlt : j < len
    · have hdk : decide ((j : Int) < (len : Int)) = true := by simp; omega
      obtain ⟨q, hq⟩ := get_lt (l := l) (k := j) (by rw [HZL.out]; exact hlt)
      obtain ⟨b, off, rfl, hcs⟩ := (HZ.out.below (by rw [HB2.out]; exact HBe.out)).cells (by omega)
      obtain ⟨c1, c2, c3, c4⟩ := hcs j q hq
      have hok := HO.out q (List.mem_of_getElem? hq)
      have hll := lineB_len hok
      have hlb : (listB (l.take j)).length ≤ 81 * j := by
        have := listB_len (l := l.take j) (fun q hq => HO.out q (List.mem_of_mem_take hq))
        simp at this; omega
      have HNx : Hid (listB (l.take (j + 1)) = listB (l.take j) ++ (lineB q ++ [10])) := listB_take hq
      obtain ⟨acc, hac⟩ : ∃ acc, listB (l.take j) = acc := ⟨_, rfl⟩
      rw [hac] at HNx hlb HBu
      obtain ⟨o, x, y, z⟩ := q
      simp only at c1 c2 c3 c4
      have HX : Hid (Lib.IsBuilder 72 5 b2 b2 (byteVals acc) (wr.alloc (.cells #[.int .i64 o, .int .i64 x, .int .i64 y, .int .i64 z] 38)) ∧ Below b2 w (wr.alloc (.cells #[.int .i64 o, .int .i64 x, .int .i64 y, .int .i64 z] 38)) ∧ b2 ≤ (wr.alloc (.cells #[.int .i64 o, .int .i64 x, .int .i64 y, .int .i64 z] 38)).heap.size) :=
        ⟨builder_below HBu.out (below_new _), HBe.out.alloc hsz _, by simp; omega⟩
      have HLn : Hid (StrC 48 #[.agg #[.int .i64 o, .int .i64 x, .int .i64 y, .int .i64 z]] (lineB (o, x, y, z)) (wr.alloc (.cells #[.int .i64 o, .int .i64 x, .int .i64 y, .int .i64 z] 38))) :=
        line_calls o x y z hok.2.1 hok.2.2.1 hok.2.2.2 _ (HT.out.below (by rw [HB2.out]; exact HX.out.2.1))
      clear hcs hq hac hok HBu HBe
      go_wp2_with fail
      refine HLn.out.mono ?_
      rintro e w3 ⟨t, rfl, htl, hb3⟩
      have hts : t.size ≤ 80 := by rw [← size_toList, htl]; exact hll
      have HB3 : Hid (Lib.IsBuilder 72 5 b2 b2 (byteVals acc) w3 ∧ Below b2 w w3 ∧ b2 ≤ w3.heap.size) :=
        ⟨builder_below HX.out.1 hb3, HX.out.2.1.trans (hb3.mono HX.out.2.2), Nat.le_trans HX.out.2.2 hb3.size⟩
      have hz10 : (⟨#[10]⟩ : ByteArray).size = 1 := rfl
      obtain ⟨u, hul, hus, hur⟩ := cat_ex t ⟨#[10]⟩ (by omega)
      have HU : Hid (u.data.toList = lineB (o, x, y, z) ++ [10]) := by show _ = _; rw [hul, htl]
      clear hul htl hb3 HX HLn
      go_wp2_with fail
      refine (writeString_calls b2 b2 (byteVals acc) u w3 HB3.out.1 (by rw [byteVals_length]; omega) HB3.out.2.2).mono ?_
      rintro e w4 ⟨rfl, hbu4, hb4, _⟩
      have HB4 : Hid (Lib.IsBuilder 72 5 b2 b2 (byteVals (listB (l.take (j + 1)))) w4 ∧ Below b2 w w4 ∧ b2 ≤ w4.heap.size) := by
        refine ⟨?_, HB3.out.2.1.trans hb4, Nat.le_trans HB3.out.2.2 hb4.size⟩
        rw [HNx.out, byteVals_append, ← HU.out]
        exact hbu4
      clear hbu4 hb4 HB3
      go_wp2
      go_roundw
      case rel => exact ⟨j + 1, by omega, by go_num, HB4.out.1, HB4.out.2.1, HB4.out.2.2⟩
      case measure => simp [intOf]; omega
    · have hdk : decide ((j : Int) < (len : Int)) = false := by simp; omega
      have HTk : Hid (l.take j = l) := List.take_of_length_le (by rw [HZL.out]; omega)
      have HS : Hid (Calls Tryd.prog 49 #[.pointer (some ⟨b2, 0, none⟩)] wr fun e w' => e = .returned (.string ⟨(listB (l.take j)).toArray⟩) ∧ Below b2 wr w') := Tryd.Builder_String_any b2 b2 (listB (l.take j)) wr HBu.out hsz
      go_wp2_with (go_at_call 49; refine HS.out.mono ?_; rintro e w3 ⟨rfl, hb3⟩)
      go_ret
      exact ⟨_, rfl, by rw [mk_list, HTk.out], by rw [HB2.out]; exact HBe.out.trans hb3⟩

def listA (c : Cd) : List UInt8 × Int := if rightB c then (listB c.cell, 0) else ([], 150)
set_option maxHeartbeats 2000000 in
theorem list_calls (c : Cd) (s : Ls) (w : World) (h : CdAt w c s) (ht : TabOk w) :
    Calls Tryd.prog 20 #[.agg (cdCells c s)] w fun e w' => TextPost (listA c) w e w' := by
  have HC : Hid (CdAt w c s) := h
  have HT : Hid (TabOk w) := ht
  clear h ht
  obtain ⟨r, hr⟩ : ∃ r, rightB c = r := ⟨_, rfl⟩
  have HR : Hid (rightB c = r) := hr
  clear hr
  rw [show cdCells c s = #[.int .i64 c.letters, .int .i64 c.planes, .int .i64 c.regs, .int .i64 c.lo, .int .i64 c.hi, .int .i64 c.most, .slice s.t.a s.t.n s.t.c, .slice s.k.a s.k.n s.k.c, .slice s.i.a s.i.n s.i.c, .slice s.r.a s.r.n s.r.c] from rfl]
  go_enter Tryd.func20, Tryd.ntmps20
  go_wp2_with fail
  refine (right_calls c s _ (HC.out.below (below_new _))).mono ?_
  rintro e w1 ⟨rfl, hb⟩
  rw [HR.out]
  have HX : Hid (Bx w (cdCells c s) w1) := (Bx.start w _).next hb
  clear hb
  cases r
  · have HE : Hid (listA c = ([], 150)) := by show _ = _; rw [listA, if_neg (by rw [HR.out]; decide)]
    go_wp2
    go_ret2
    exact text_post HE.out rfl HX.out.low
  have HE : Hid (listA c = (listB c.cell, 0)) := by show _ = _; rw [listA, if_pos HR.out]
  have HRt : Hid (Rt c) := rt_of HR.out
  have c8 := HX.out.cell 8 (.slice s.i.a s.i.n s.i.c) rfl
  go_wp2_with fail
  refine (show StrC 39 #[.slice s.i.a s.i.n s.i.c] (listB c.cell) w1 from listed_calls _ _ _ c.cell w1 (HC.out.below HX.out.low).cell (by rw [← HC.out.cell.length]; exact HRt.out.cl) HRt.out.okQ (HT.out.below HX.out.low)).mono ?_
  rintro e w2 ⟨t, rfl, htl, hb⟩
  have HL : Hid (t.data.toList = listB c.cell ∧ Below w.heap.size w w2) := ⟨htl, HX.out.low.trans (hb.mono HX.out.low.size)⟩
  clear htl hb HX
  go_wp2
  go_ret2
  exact text_post HE.out HL.out.1 HL.out.2
end Go.Proofs.YtignpgoicoojiaaDoor
