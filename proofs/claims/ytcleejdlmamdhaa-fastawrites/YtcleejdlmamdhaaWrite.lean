/-
  The walks of fasta.write and of what it calls.
-/
import Derived.Test.YtcleejdlmamdhaaBuild
import Derived.Test.YtcleejdlmamdhaaPrintPlain
import Derived.Test.YtcleejdlmamdhaaRefParse
namespace Go.Proofs.Ytcleejdlmamdhaa
open Go.RowKit

theorem join_calls (a c : ByteArray) (w : World) (ha : a.size ≤ 1048576) (hc : c.size ≤ 1048576) :
    Calls Try.prog 43 #[.string a, .string c] w fun e w' => ∃ t, e = .returned (.string t) ∧ t.data.toList = joinB a.data.toList c.data.toList ∧ w' = w := by
  by_cases h0 : c.toList = []
  · have HE : Hid (joinB a.data.toList c.data.toList = a.data.toList) := by
      show joinB _ _ = _
      unfold joinB; rw [if_pos (toList_nil.1 h0)]
    go_enter Try.func43, Try.ntmps43
    go_wp2
    go_ret
    exact ⟨a, rfl, HE.out.symm, rfl⟩
  · have e1 : c.toList.isEmpty = false := by
      cases hr : c.toList with
      | nil => exact absurd hr h0
      | cons _ _ => rfl
    have hsp : (⟨#[32]⟩ : ByteArray).size = 1 := rfl
    have hcat1 : ∀ W, (Op.stringOp .add a ⟨#[32]⟩).run Try.prog W = .ok (.string (a ++ ⟨#[32]⟩)) W := fun W => run_string_add_sum W _ _ (by rw [hsp]; omega)
    have hcat2 : ∀ W, (Op.stringOp .add (a ++ ⟨#[32]⟩) c).run Try.prog W = .ok (.string (a ++ ⟨#[32]⟩ ++ c)) W := fun W => run_string_add_sum W _ _ (by rw [ByteArray.size_append, hsp]; omega)
    have HE : Hid (joinB a.data.toList c.data.toList = a.data.toList ++ 32 :: c.data.toList) := by
      show joinB _ _ = _
      unfold joinB; rw [if_neg (fun e => h0 (toList_nil.2 e))]
    clear h0
    go_enter Try.func43, Try.ntmps43
    go_wp2
    go_ret
    refine ⟨a ++ ⟨#[32]⟩ ++ c, rfl, ?_, rfl⟩
    rw [HE.out, ba_append, ba_append]; simp

theorem byteVals_str (s : ByteArray) : Lib.strCells s = byteVals s.data.toList := rfl
theorem min_of (k wd n : Nat) : min ((k : Int) + (wd : Int)) (n : Int) = ((min (k + wd) n : Nat) : Int) := by omega

theorem builder_below {B b : Nat} {bs : List Value} {w w' : World} (h : Lib.IsBuilder 57 5 B b bs w) (hb : Below w.heap.size w w') : Lib.IsBuilder 57 5 B b bs w' := by
  rcases h with ⟨h1, v, h2, h3, h4⟩ | ⟨h1, v, h2, h3, h4⟩
  · exact .inl ⟨h1, v, by rw [hb.block b (lt_block h2)]; exact h2, owned_below h3 hb, h4⟩
  · exact .inr ⟨h1, v, by rw [hb.block b (lt_block h2)]; exact h2, owned_below h3 hb, h4⟩

set_option maxHeartbeats 4000000 in
theorem write_calls (B b : Nat) (acc : List UInt8) (wd : Nat) (q : Sq) (w : World) (h : Lib.IsBuilder 57 5 B b (byteVals acc) w) (hB : B ≤ w.heap.size) (hacc : acc.length ≤ 100000000) (hw0 : 1 ≤ wd) (hw1 : wd ≤ 200)
    (hn : q.1.size ≤ 64) (ht : q.2.1.size ≤ 64) (hb : q.2.2.size ≤ 65536) :
    Calls Try.prog 27 #[.pointer (some ⟨b, 0, none⟩), .int .i64 wd, .agg #[.string q.1, .string q.2.1, .string q.2.2]] w fun e w' => e = .returned (.tuple #[]) ∧ Lib.IsBuilder 57 5 B b (byteVals (acc ++ seqB wd q.P)) w' ∧ Below B w w' := by
  have HJ : Hid (∀ w, Calls Try.prog 43 #[.string q.1, .string q.2.1] w fun e w' => ∃ t, e = .returned (.string t) ∧ t.data.toList = joinB q.1.data.toList q.2.1.data.toList ∧ w' = w) := fun w => join_calls q.1 q.2.1 w (by omega) (by omega)
  have HBu : Hid (Lib.IsBuilder 57 5 B b (byteVals acc) w) := h
  clear h
  go_enter Try.func27, Try.ntmps27
  go_wp2_with fail
  refine (HJ.out _).mono ?_
  rintro e w1 ⟨t, rfl, htl, rfl⟩
  have hts : t.size ≤ 129 := by
    have := join_length q.1.data.toList q.2.1.data.toList
    rw [← htl, size_toList, size_toList, size_toList] at this; omega
  have hsa : (⟨#[62]⟩ : ByteArray).size = 1 := rfl
  have hsb : (⟨#[10]⟩ : ByteArray).size = 1 := rfl
  have hcat1 : ∀ W, (Op.stringOp .add ⟨#[62]⟩ t).run Try.prog W = .ok (.string (⟨#[62]⟩ ++ t)) W := fun W => run_string_add_sum W _ _ (by rw [hsa]; omega)
  have hcat2 : ∀ W, (Op.stringOp .add (⟨#[62]⟩ ++ t) ⟨#[10]⟩).run Try.prog W = .ok (.string (⟨#[62]⟩ ++ t ++ ⟨#[10]⟩)) W := fun W => run_string_add_sum W _ _ (by rw [ByteArray.size_append, hsa, hsb]; omega)
  have HTL : Hid ((⟨#[62]⟩ ++ t ++ ⟨#[10]⟩ : ByteArray).data.toList = titleLine q.P ∧ (⟨#[62]⟩ ++ t ++ ⟨#[10]⟩ : ByteArray).size ≤ 131) := by
    refine ⟨?_, by rw [ByteArray.size_append, ByteArray.size_append, hsa, hsb]; omega⟩
    rw [ba_append, ba_append, htl]; simp [titleLine, Sq.P]
  have HBx : Hid (Lib.IsBuilder 57 5 B b (byteVals acc) (w.alloc (.cells #[.string q.1, .string q.2.1, .string q.2.2] 29))) := builder_below HBu.out ((Below.refl _ _).alloc (Nat.le_refl _) _)
  have HXb : Hid (Below B w (w.alloc (.cells #[.string q.1, .string q.2.1, .string q.2.2] 29))) := (Below.refl B w).alloc hB _
  have HXc : Hid ((w.alloc (.cells #[.string q.1, .string q.2.1, .string q.2.2] 29)).heap[w.heap.size]? = some (.cells #[.string q.1, .string q.2.1, .string q.2.2] 29 (0, 0))) := heap_alloc_new w _
  have hXs : B ≤ (w.alloc (.cells #[.string q.1, .string q.2.1, .string q.2.2] 29)).heap.size := by simp; omega
  clear hsa hsb htl HJ HBu
  go_wp2_with fail
  generalize (⟨#[62]⟩ ++ t ++ ⟨#[10]⟩ : ByteArray) = tl at *
  generalize w.alloc (.cells #[.string q.1, .string q.2.1, .string q.2.2] 29) = wx at *
  generalize hg : w.heap.size = g at *
  clear hcat1 hcat2 hg hB
  refine (writeString_calls B b (byteVals acc) tl wx HBx.out (by rw [byteVals_length]; have := HTL.out.2; omega) hXs).mono ?_
  rintro e w2 ⟨rfl, hbu2, hb2, hk2⟩
  have HB2 : Hid (Lib.IsBuilder 57 5 B b (byteVals (acc ++ titleLine q.P)) w2) := by
    have := hbu2; rw [byteVals_str, HTL.out.1, ← byteVals_append] at this; exact this
  have HBe2 : Hid (Below B w w2) := HXb.out.trans hb2
  have HC2 : Hid (w2.heap[g]? = some (.cells #[.string q.1, .string q.2.1, .string q.2.2] 29 (0, 0))) := hk2 _ _ _ HXc.out
  have HS2 : Hid (B ≤ w2.heap.size) := Nat.le_trans hXs hb2.size
  have HTt : Hid ((titleLine q.P).length ≤ 131) := by
    have := HTL.out.2; rw [← size_toList, HTL.out.1] at this; exact this
  clear hbu2 hb2 hk2 HBx HXb HXc hXs HTL
  go_wp2_with fail
  generalize hnn : q.2.2.size = n at *
  have HN : Hid (q.2.2.size = n) := hnn
  go_loopw [6] (fun i wr => ∃ (k : Nat) (out : List UInt8), i = .int .i64 k ∧ k ≤ n + wd ∧ Lib.IsBuilder 57 5 B b (byteVals out) wr ∧ out ++ chunkGo wd 0 (q.2.2.data.toList.drop k) = acc ++ seqB wd q.P ∧ Below B w wr ∧ wr.heap[g]? = some (.cells #[.string q.1, .string q.2.1, .string q.2.2] 29 (0, 0)) ∧ B ≤ wr.heap.size ∧ out.length ≤ 100000200 + 2 * k) (fun i _ => n - (intOf i).toNat)
  case atStart => exact ⟨0, acc ++ titleLine q.P, rfl, by omega, HB2.out, by simp [seqB, Sq.P], HBe2.out, HC2.out, HS2.out, by have := HTt.out; simp; omega⟩
  case round =>
    obtain ⟨k, out, rfl, hk, hbu, hout, hbel, hbox, hsz, hol⟩ := hrel
    have hcell : wr.cell? ⟨g, 2, none⟩ = some (.string q.2.2) := by rw [Lib.cell_of_heap hbox]; rfl
    have HBu : Hid (Lib.IsBuilder 57 5 B b (byteVals out) wr) := hbu
    have HO : Hid (out ++ chunkGo wd 0 (q.2.2.data.toList.drop k) = acc ++ seqB wd q.P) := hout
    have HBe : Hid (Below B w wr) := hbel
    have HBox : Hid (wr.heap[g]? = some (.cells #[.string q.1, .string q.2.1, .string q.2.2] 29 (0, 0))) := hbox
    clear hbu hout hbel hbox HB2 HBe2 HC2 HS2 HTt
    by_cases hlt : k < n
    · have hd : decide ((k : Int) < (n : Int)) = true := by simp; omega
      obtain ⟨ee, hee⟩ : ∃ ee, min (k + wd) n = ee := ⟨_, rfl⟩
      have hmin : min ((k : Int) + (wd : Int)) (n : Int) = (ee : Int) := by rw [min_of, hee]
      have hke : k ≤ ee := by omega
      have hen : ee ≤ n := by omega
      have hslice : ∀ W, (Instr.slice 9 (.string q.2.2) (some (.int .i64 (k : Int))) (some (.int .i64 (ee : Int))) none).run Try.prog W = .ok (.string (q.2.2.extract k ee)) W := fun W => by
        rw [run_slice_string W 9 q.2.2 .i64 .i64 k ee Try.underlying9 (by omega) (by omega) (by rw [HN.out]; omega)]; rfl
      have hpl : (q.2.2.extract k ee).data.toList = (q.2.2.data.toList.drop k).take wd := by
        rw [extract_list, List.drop_take]
        by_cases hc : k + wd ≤ n
        · rw [show ee - k = wd by omega]
        · rw [List.take_of_length_le (by simp; omega), List.take_of_length_le (by simp; omega)]
      have hps : (q.2.2.extract k ee).size ≤ 200 := by
        rw [← size_toList, hpl]; simp; omega
      have HPL : Hid ((q.2.2.extract k ee).data.toList = (q.2.2.data.toList.drop k).take wd) := hpl
      have HNext : Hid ((out ++ (q.2.2.data.toList.drop k).take wd ++ [10]) ++ chunkGo wd 0 (q.2.2.data.toList.drop (k + wd)) = acc ++ seqB wd q.P) := by
        have h1 := HO.out
        rw [chunk_step wd (by omega) _ (by intro e; have := congrArg List.length e; simp at this; omega)] at h1
        show _ = _
        rw [← h1, List.drop_drop]; simp
      have HLen : Hid ((out ++ (q.2.2.data.toList.drop k).take wd ++ [10]).length ≤ 100000200 + 2 * (k + wd)) := by
        show _ ≤ _
        simp; omega
      clear hpl hee HO
      go_wp2_with fail
      generalize q.2.2.extract k ee = p at *
      clear hslice
      refine (writeString_calls B b (byteVals out) p wr HBu.out (by rw [byteVals_length]; omega) hsz).mono ?_
      rintro e w3 ⟨rfl, hbu3, hb3, hk3⟩
      have HB3 : Hid (Lib.IsBuilder 57 5 B b (byteVals (out ++ (q.2.2.data.toList.drop k).take wd)) w3) := by
        have := hbu3; rw [byteVals_str, HPL.out, ← byteVals_append] at this; exact this
      have HBe3 : Hid (Below B w w3) := HBe.out.trans hb3
      have HBox3 : Hid (w3.heap[g]? = some (.cells #[.string q.1, .string q.2.1, .string q.2.2] 29 (0, 0))) := hk3 _ _ _ HBox.out
      have hsz3 : B ≤ w3.heap.size := Nat.le_trans hsz hb3.size
      clear hbu3 hb3 hk3 HBu HBe HBox hcell hsz
      go_wp2_with fail
      refine (writeByte_calls B b _ 10 w3 HB3.out (by rw [byteVals_length]; simp; omega) hsz3).mono ?_
      rintro e w4 ⟨rfl, hbu4, hb4, hk4⟩
      have HB4 : Hid (Lib.IsBuilder 57 5 B b (byteVals (out ++ (q.2.2.data.toList.drop k).take wd ++ [10])) w4) := by
        have := hbu4
        have e : ([.int .u8 10] : List Value) = byteVals [10] := rfl
        rw [e, ← byteVals_append] at this; exact this
      have HBe4 : Hid (Below B w w4) := HBe3.out.trans hb4
      have HBox4 : Hid (w4.heap[g]? = some (.cells #[.string q.1, .string q.2.1, .string q.2.2] 29 (0, 0))) := hk4 _ _ _ HBox3.out
      have HS4 : Hid (B ≤ w4.heap.size) := Nat.le_trans hsz3 hb4.size
      clear hbu4 hb4 hk4 HB3 HBe3 HBox3 hsz3
      go_wp2
      go_roundw
      case rel => exact ⟨k + wd, _, by go_num, by omega, HB4.out, HNext.out, HBe4.out, HBox4.out, HS4.out, HLen.out⟩
      case measure => simp [intOf]; omega
    · have hd : decide ((k : Int) < (n : Int)) = false := by simp; omega
      have HE : Hid (Lib.IsBuilder 57 5 B b (byteVals (acc ++ seqB wd q.P)) wr) := by
        have h1 := HO.out
        rw [List.drop_of_length_le (by rw [size_toList, HN.out]; omega)] at h1
        simp only [chunkGo, List.append_nil] at h1
        rw [← h1]; exact HBu.out
      go_wp2
      go_end0
      exact ⟨rfl, HE.out, HBe.out⟩
end Go.Proofs.Ytcleejdlmamdhaa
