/-
  The walk of the document's own written.
-/
import Derived.Test.YtcleejdlmamdhaaWritten
namespace Go.Proofs.Ytcleejdlmamdhaa
open Go.RowKit

theorem chunk_end (wd k : Nat) (c : UInt8) (r : List UInt8) (hw : 1 ≤ wd) (h : k % wd + 1 = wd ∨ r = []) : chunkGo wd (k % wd) (c :: r) = c :: 10 :: chunkGo wd ((k + 1) % wd) r := by
  show c :: (if k % wd + 1 = wd ∨ r = [] then 10 :: chunkGo wd 0 r else chunkGo wd (k % wd + 1) r) = _
  rw [if_pos h]
  rcases h with h | h
  · have e : (k + 1) % wd = 0 := by
      rw [Nat.add_mod]
      by_cases h1 : wd = 1
      · subst h1; simp [Nat.mod_one]
      · rw [Nat.mod_eq_of_lt (show 1 < wd by omega), h, Nat.mod_self]
    rw [e]
  · subst h; simp [chunkGo]
theorem chunk_more (wd k : Nat) (c : UInt8) (r : List UInt8) (hw : 1 ≤ wd) (h1 : ¬ k % wd + 1 = wd) (h2 : r ≠ []) : chunkGo wd (k % wd) (c :: r) = c :: chunkGo wd ((k + 1) % wd) r := by
  show c :: (if k % wd + 1 = wd ∨ r = [] then 10 :: chunkGo wd 0 r else chunkGo wd (k % wd + 1) r) = _
  rw [if_neg (fun h => h.elim h1 h2)]
  have hlt := Nat.mod_lt k (show wd > 0 by omega)
  have e : (k + 1) % wd = k % wd + 1 := by
    rw [Nat.add_mod, Nat.mod_eq_of_lt (show 1 < wd by omega), Nat.mod_eq_of_lt (by omega)]
  rw [e]

theorem alloc_size (w : World) (o : Obj) : (w.alloc o).heap.size = w.heap.size + 1 := by simp
theorem ByRow.base {w : World} {B B' : Nat} {v : Value} {l : List UInt8} (h : ByRow w B v l) (hB : B' ≤ B) : ByRow w B' v l := by
  obtain ⟨g, cap, cur, lo, hi, h1, h2, h3⟩ := h
  exact ⟨g, cap, cur, lo, hi, h1, Nat.le_trans hB h2, h3⟩
theorem ByRow.shape {w : World} {B : Nat} {v : Value} {l : List UInt8} (h : ByRow w B v l) : ∃ ao cap, v = .slice ao l.length cap := by
  obtain ⟨g, cap, cur, lo, hi, h1, _⟩ := h
  exact ⟨_, cap, h1⟩
theorem ByRow.alloc {w : World} {B : Nat} {v : Value} {l : List UInt8} (h : ByRow w B v l) (o : Obj) : ByRow (w.alloc o) B v l := h.below ((Below.refl _ _).alloc (Nat.le_refl _) o)

set_option maxHeartbeats 8000000 in
theorem written_calls (wd : Nat) (q : Sq) (w : World) (hw0 : 1 ≤ wd) (hw1 : wd ≤ 200) (hn : q.1.size ≤ 64) (ht : q.2.1.size ≤ 64) (hb : q.2.2.size ≤ 65536) :
    Calls Try.prog 32 #[.int .i64 wd, .agg #[.string q.1, .string q.2.1, .string q.2.2]] w fun e w' => ∃ v, e = .returned v ∧ ByRow w' w.heap.size v (seqB wd q.P) ∧ Below w.heap.size w w' := by
  have HJ : Hid (∀ w, Calls Try.prog 47 #[.string q.1, .string q.2.1] w fun e w' => ∃ t, e = .returned (.string t) ∧ t.data.toList = joinB q.1.data.toList q.2.1.data.toList ∧ w' = w) := fun w => titled_calls q.1 q.2.1 w (by omega) (by omega)
  go_enter Try.func32, Try.ntmps32
  go_wp2_with fail
  refine (HJ.out _).mono ?_
  rintro e w1 ⟨t, rfl, htl, rfl⟩
  have hts : t.size ≤ 129 := by
    have := join_length q.1.data.toList q.2.1.data.toList
    rw [← htl, size_toList, size_toList, size_toList] at this; omega
  have hsa : (⟨#[62]⟩ : ByteArray).size = 1 := rfl
  have hsb : (⟨#[10]⟩ : ByteArray).size = 1 := rfl
  have hcat1 : ∀ W, (Op.stringOp .add ⟨#[62]⟩ t).run Try.prog W = .ok (.string (⟨#[62]⟩ ++ t)) W := fun W => run_string_add_sum W _ _ (by rw [hsa]; omega)
  have hcat2 : ∀ W, (Op.stringOp .add (⟨#[62]⟩ ++ t) ⟨#[10]⟩).run Try.prog W = .ok (.string (⟨#[62]⟩ ++ t ++ ⟨#[10]⟩)) W := fun W => run_string_add_sum W _ _ (by rw [ByteArray.size_append, hsa, hsb]; omega)
  have HTL : Hid ((⟨#[62]⟩ ++ t ++ ⟨#[10]⟩ : ByteArray).data.toList = titleLine q.P ∧ (⟨#[62]⟩ ++ t ++ ⟨#[10]⟩ : ByteArray).size ≤ 131) := by
    refine ⟨?_, by rw [ByteArray.size_append, ByteArray.size_append, hsa, hsb]; omega⟩
    rw [ba_append, ba_append, htl]; simp [titleLine, Sq.P]
  have HXb : Hid (Below w.heap.size w (w.alloc (.cells #[.string q.1, .string q.2.1, .string q.2.2] 29))) := (Below.refl _ w).alloc (Nat.le_refl _) _
  have HXc : Hid ((w.alloc (.cells #[.string q.1, .string q.2.1, .string q.2.2] 29)).heap[w.heap.size]? = some (.cells #[.string q.1, .string q.2.1, .string q.2.2] 29 (0, 0))) := heap_alloc_new w _
  have hXs : w.heap.size ≤ (w.alloc (.cells #[.string q.1, .string q.2.1, .string q.2.2] 29)).heap.size := by simp
  have hcv : ∀ tl, (convert 9 43 (.string tl)).run Try.prog (w.alloc (.cells #[.string q.1, .string q.2.1, .string q.2.2] 29)) = _ := fun tl => run_bytes_of_string (P := Try.prog) (w.alloc (.cells #[.string q.1, .string q.2.1, .string q.2.2] 29)) 9 43 5 tl Try.underlying9 Try.underlying43 Try.underlying5
  have hconv := hcv (⟨#[62]⟩ ++ t ++ ⟨#[10]⟩)
  clear hsa hsb htl HJ hcv
  generalize (⟨#[62]⟩ ++ t ++ ⟨#[10]⟩ : ByteArray) = tl at *
  generalize hcp : grownCap (w.alloc (.cells #[.string q.1, .string q.2.1, .string q.2.2] 29)) tl.size 0 5 = cp at *
  clear hcp
  have HRow := by_new (w.alloc (.cells #[.string q.1, .string q.2.1, .string q.2.2] 29)) tl cp ((bytesRow tl cp).size + 1)
  have HRow2 : Hid (ByRow ((w.alloc (.cells #[.string q.1, .string q.2.1, .string q.2.2] 29)).alloc (.cells (bytesRow tl cp) 5 ((bytesRow tl cp).size, (bytesRow tl cp).size + 1))).drew (w.alloc (.cells #[.string q.1, .string q.2.1, .string q.2.2] 29)).heap.size (.slice (some ⟨(w.alloc (.cells #[.string q.1, .string q.2.1, .string q.2.2] 29)).heap.size, 0, none⟩) tl.size cp) (titleLine q.P)) := by
    rw [HTL.out.1] at HRow; exact HRow
  clear HRow
  go_wp2_with fail
  have HR0 : Hid (ByRow ((w.alloc (.cells #[.string q.1, .string q.2.1, .string q.2.2] 29)).alloc (.cells (bytesRow tl cp) 5 ((bytesRow tl cp).size, (bytesRow tl cp).size + 1))).drew w.heap.size (.slice (some ⟨w.heap.size + 1, 0, none⟩) tl.size cp) (titleLine q.P)) := by
    have := HRow2.out.base hXs
    rw [alloc_size] at this
    exact this
  have HB0 : Hid (Below w.heap.size w ((w.alloc (.cells #[.string q.1, .string q.2.1, .string q.2.2] 29)).alloc (.cells (bytesRow tl cp) 5 ((bytesRow tl cp).size, (bytesRow tl cp).size + 1))).drew) := (HXb.out.alloc hXs _).drew
  have HC0 : Hid (((w.alloc (.cells #[.string q.1, .string q.2.1, .string q.2.2] 29)).alloc (.cells (bytesRow tl cp) 5 ((bytesRow tl cp).size, (bytesRow tl cp).size + 1))).drew.heap[w.heap.size]? = some (.cells #[.string q.1, .string q.2.1, .string q.2.2] 29 (0, 0))) := ((Keep.refl _).alloc _).drew _ _ _ HXc.out
  have HTt : Hid ((titleLine q.P).length ≤ 131) := by
    have := HTL.out.2; rw [← size_toList, HTL.out.1] at this; exact this
  generalize ((w.alloc (.cells #[.string q.1, .string q.2.1, .string q.2.2] 29)).alloc (.cells (bytesRow tl cp) 5 ((bytesRow tl cp).size, (bytesRow tl cp).size + 1))).drew = w2 at *
  clear hconv hcat1 hcat2 HRow2 HXb HXc hXs HTL
  generalize hnn : q.2.2.size = n at *
  have HN : Hid (q.2.2.size = n) := hnn
  go_loopw [6, 7] (fun v i wr => ∃ (k : Nat) (out : List UInt8), i = .int .i64 k ∧ k ≤ n ∧ ByRow wr w.heap.size v out ∧ out ++ chunkGo wd (k % wd) (q.2.2.data.toList.drop k) = seqB wd q.P ∧ Below w.heap.size w wr ∧ wr.heap[w.heap.size]? = some (.cells #[.string q.1, .string q.2.1, .string q.2.2] 29 (0, 0)) ∧ out.length ≤ 131 + 2 * k) (fun _ i _ => n - (intOf i).toNat)
  case atStart => exact ⟨0, titleLine q.P, rfl, Nat.zero_le _, HR0.out, by rw [Nat.zero_mod]; rfl, HB0.out, HC0.out, by have := HTt.out; omega⟩
  case round =>
    obtain ⟨k, out, rfl, hk, hrow, hout, hbel, hbox, hol⟩ := hrel
    obtain ⟨ao0, cap0, rfl⟩ := hrow.shape
    have hcell : wr.cell? ⟨w.heap.size, 2, none⟩ = some (.string q.2.2) := by rw [Lib.cell_of_heap hbox]; rfl
    have hcella : ∀ o, (wr.alloc o).cell? ⟨w.heap.size, 2, none⟩ = some (.string q.2.2) := fun o => by
      rw [((Below.refl wr.heap.size wr).alloc (Nat.le_refl _) o).cell (World.block_lt_of_cell? wr _ hcell)]; exact hcell
    have HO0 : Hid (ByRow wr w.heap.size (.slice ao0 out.length cap0) out) := hrow
    have HE : Hid (out ++ chunkGo wd (k % wd) (q.2.2.data.toList.drop k) = seqB wd q.P) := hout
    have HB0 : Hid (Below w.heap.size w wr) := hbel
    have HX0 : Hid (wr.heap[w.heap.size]? = some (.cells #[.string q.1, .string q.2.1, .string q.2.2] 29 (0, 0))) := hbox
    have hsz0 : w.heap.size ≤ wr.heap.size := hbel.size
    clear hrow hout hbel hbox HR0 HC0 HTt
    by_cases hlt : k < n
    · have hks : k < q.2.2.size := by omega
      have hd : decide ((k : Int) < (n : Int)) = true := by simp; omega
      have HDc : Hid (q.2.2.data.toList.drop k = q.2.2[k] :: q.2.2.data.toList.drop (k + 1)) := drop_cons q.2.2 k hks
      have HDn : Hid (q.2.2.data.toList.drop (k + 1) = [] ↔ k = n - 1) := by
        show _ ↔ _
        constructor
        · intro e; have := congrArg List.length e; simp at this; omega
        · intro e; exact List.drop_of_length_le (by simp; omega)
      go_wp2_with (at_builtin; go_loud (refine wpList_append_by _ rfl _ _ rfl w.heap.size _ out rfl (HO0.out.alloc _) ⟨_, 0, none⟩ q.2.2[k] rfl ?c1 ?c2 ?c3 ?_))
      case c1 => simp [Addr.add]
      case c2 => omega
      case c3 => simp; omega
      intro v1 w1x hr1 hb1 hk1
      obtain ⟨ao1, cap1, rfl⟩ := hr1.shape
      have HO1 : Hid (ByRow w1x w.heap.size (.slice ao1 (out.length + 1) cap1) (out ++ [q.2.2[k]])) := by
        have := hr1; simp only [List.length_append, List.length_singleton] at this; exact this
      have HB1 : Hid (Below w.heap.size w w1x) := (HB0.out.alloc hsz0 _).trans hb1
      have HX1 : Hid (w1x.heap[w.heap.size]? = some (.cells #[.string q.1, .string q.2.1, .string q.2.2] 29 (0, 0))) := hk1 _ _ _ (((Keep.refl _).alloc _) _ _ _ HX0.out)
      have hcell1 : w1x.cell? ⟨w.heap.size, 2, none⟩ = some (.string q.2.2) := by rw [Lib.cell_of_heap HX1.out]; rfl
      have hsz1 : w.heap.size ≤ w1x.heap.size := HB1.out.size
      clear hr1 hb1 hk1 HO0 HB0 HX0 hcell hcella
      simp only [List.length_append, List.length_singleton]
      by_cases hm : k % wd + 1 = wd
      · have hmi : ((k % wd : Nat) : Int) = (wd : Int) - 1 := by omega
        have hdm : ((k : Int) % (wd : Int) == (wd : Int) - 1) = true := by
          rw [beq_iff_eq, ← hmi]; simp
        clear hmi
        have HN2 : Hid ((out ++ [q.2.2[k], 10]) ++ chunkGo wd ((k + 1) % wd) (q.2.2.data.toList.drop (k + 1)) = seqB wd q.P) := by
          have h1 := HE.out
          rw [HDc.out, chunk_end wd k _ _ hw0 (Or.inl hm)] at h1
          show _ = _
          rw [← h1]; simp
        go_wp2_with (at_builtin; go_loud (refine wpList_append_by _ rfl _ _ rfl w.heap.size _ (out ++ [q.2.2[k]]) rfl (HO1.out.alloc _) ⟨_, 0, none⟩ 10 rfl ?c1 ?c2 ?c3 ?_))
        case c1 => simp [Addr.add]
        case c2 => simp; omega
        case c3 => simp; omega
        intro v2 w2x hr2 hb2 hk2
        obtain ⟨ao2, cap2, rfl⟩ := hr2.shape
        have HO2 : Hid (ByRow w2x w.heap.size (.slice ao2 (out ++ [q.2.2[k], 10]).length cap2) (out ++ [q.2.2[k], 10])) := by
          show ByRow _ _ _ _
          simpa using hr2
        have HB2 : Hid (Below w.heap.size w w2x) := (HB1.out.alloc hsz1 _).trans hb2
        have HX2 : Hid (w2x.heap[w.heap.size]? = some (.cells #[.string q.1, .string q.2.1, .string q.2.2] 29 (0, 0))) := hk2 _ _ _ (((Keep.refl _).alloc _) _ _ _ HX1.out)
        have HL2 : Hid ((out ++ [q.2.2[k], 10]).length ≤ 131 + 2 * (k + 1)) := by
          show _ ≤ _
          simp; omega
        clear hr2 hb2 hk2 HO1 HB1 HX1 hcell1
        generalize out ++ [q.2.2[k], 10] = out2 at *
        go_wp2
        go_roundw
        case rel => exact ⟨k + 1, out2, by go_num, by omega, HO2.out, HN2.out, HB2.out, HX2.out, HL2.out⟩
        case measure => simp [intOf]; omega
      · have hdm : ((k : Int) % (wd : Int) == (wd : Int) - 1) = false := by
          rw [beq_eq_false_iff_ne]
          intro e
          have e2 : ((k % wd : Nat) : Int) = (wd : Int) - 1 := by rw [← e]; simp
          omega
        by_cases hl : k = n - 1
        · have hdl : ((k : Int) == (n : Int) - 1) = true := by rw [beq_iff_eq]; omega
          have hlx := HDn.out.2 hl
          have HLx : Hid (q.2.2.data.toList.drop (k + 1) = []) := hlx
          clear hlx hl
          have HN2 : Hid ((out ++ [q.2.2[k], 10]) ++ chunkGo wd ((k + 1) % wd) (q.2.2.data.toList.drop (k + 1)) = seqB wd q.P) := by
            have h1 := HE.out
            rw [HDc.out, chunk_end wd k _ _ hw0 (Or.inr HLx.out)] at h1
            show _ = _
            rw [← h1]; simp
          go_wp2_with (at_builtin; go_loud (refine wpList_append_by _ rfl _ _ rfl w.heap.size _ (out ++ [q.2.2[k]]) rfl (HO1.out.alloc _) ⟨_, 0, none⟩ 10 rfl ?c1 ?c2 ?c3 ?_))
          case c1 => simp [Addr.add]
          case c2 => simp; omega
          case c3 => simp; omega
          intro v2 w2x hr2 hb2 hk2
          obtain ⟨ao2, cap2, rfl⟩ := hr2.shape
          have HO2 : Hid (ByRow w2x w.heap.size (.slice ao2 (out ++ [q.2.2[k], 10]).length cap2) (out ++ [q.2.2[k], 10])) := by
            show ByRow _ _ _ _
            simpa using hr2
          have HB2 : Hid (Below w.heap.size w w2x) := (HB1.out.alloc hsz1 _).trans hb2
          have HX2 : Hid (w2x.heap[w.heap.size]? = some (.cells #[.string q.1, .string q.2.1, .string q.2.2] 29 (0, 0))) := hk2 _ _ _ (((Keep.refl _).alloc _) _ _ _ HX1.out)
          have HL2 : Hid ((out ++ [q.2.2[k], 10]).length ≤ 131 + 2 * (k + 1)) := by
            show _ ≤ _
            simp; omega
          clear hr2 hb2 hk2 HO1 HB1 HX1 hcell1
          generalize out ++ [q.2.2[k], 10] = out2 at *
          go_wp2
          go_roundw
          case rel => exact ⟨k + 1, out2, by go_num, by omega, HO2.out, HN2.out, HB2.out, HX2.out, HL2.out⟩
          case measure => simp [intOf]; omega
        · have hdl : ((k : Int) == (n : Int) - 1) = false := by rw [beq_eq_false_iff_ne]; omega
          have HN2 : Hid ((out ++ [q.2.2[k]]) ++ chunkGo wd ((k + 1) % wd) (q.2.2.data.toList.drop (k + 1)) = seqB wd q.P) := by
            have h1 := HE.out
            rw [HDc.out, chunk_more wd k _ _ hw0 hm (fun e => hl (HDn.out.1 e))] at h1
            show _ = _
            rw [← h1]; simp
          have HO2 : Hid (ByRow w1x w.heap.size (.slice ao1 (out.length + 1) cap1) (out ++ [q.2.2[k]])) := HO1.out
          have HL2 : Hid ((out ++ [q.2.2[k]]).length ≤ 131 + 2 * (k + 1)) := by
            show _ ≤ _
            simp; omega
          clear HO1
          go_wp2
          go_roundw
          case rel => exact ⟨k + 1, out ++ [q.2.2[k]], by go_num, by omega, HO2.out, HN2.out, HB1.out, HX1.out, HL2.out⟩
          case measure => simp [intOf]; omega
    · have hd : decide ((k : Int) < (n : Int)) = false := by simp; omega
      have HF : Hid (out = seqB wd q.P) := by
        have h1 := HE.out
        rw [List.drop_of_length_le (by rw [size_toList, HN.out]; omega)] at h1
        show _ = _
        simpa [chunkGo] using h1
      go_wp2
      go_ret
      exact ⟨_, rfl, by rw [← HF.out]; exact HO0.out, HB0.out⟩
end Go.Proofs.Ytcleejdlmamdhaa
