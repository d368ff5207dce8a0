/-
  The walk of fasta.Print.
-/
import Derived.Test.YtcleejdlmamdhaaWrite
import Derived.Deep.RegionHeld
namespace Go.Proofs.Ytcleejdlmamdhaa
open Go.RowKit

theorem areBases_calls (s : ByteArray) (w : World) (hs : s.size ≤ maxLen) :
    Calls Try.prog 41 #[.string s] w fun e w' => e = .returned (.bool (basesB s.data.toList)) ∧ w' = w := by
  have HB : Hid (∀ w, Calls Try.prog 52 #[.string s] w fun e w' => e = .returned (.bool (letsB s.data.toList)) ∧ w' = w) := fun w => areLetters_calls s w hs
  unfold maxLen at hs
  by_cases h0 : s.toList = []
  · have HE : Hid (basesB s.data.toList = false) := by
      show basesB _ = _
      unfold basesB; rw [toList_nil.1 h0]; rfl
    go_enter Try.func41, Try.ntmps41
    go_wp2
    go_ret
    exact ⟨ret_bool HE.out.symm, rfl⟩
  · have HN : Hid (basesB s.data.toList = (decide (s.size ≤ 65536) && letsB s.data.toList)) := by
      have h0' : s.data.toList ≠ [] := fun e => h0 (toList_nil.2 e)
      show basesB _ = _
      unfold basesB
      rw [size_toList]
      simp [h0']
    generalize basesB s.data.toList = N at *
    generalize letsB s.data.toList = A at *
    go_enter Try.func41, Try.ntmps41
    go_wp2_with (go_at_call 52; refine (HB.out _).mono ?_; rintro e w' ⟨rfl, rfl⟩)
    all_goals (go_ret; refine ⟨ret_bool ?_, rfl⟩; rw [HN.out, Bool.eq_iff_iff]; clear HN HB; simp_all <;> (intros; omega))

/-- The strings of a sequence have lengths that an int can tell. -/
def Sq.short (q : Sq) : Prop := q.1.size ≤ maxLen ∧ q.2.1.size ≤ maxLen ∧ q.2.2.size ≤ maxLen

theorem may_calls (q : Sq) (w : World) (hq : q.short) :
    Calls Try.prog 25 #[.agg #[.string q.1, .string q.2.1, .string q.2.2]] w fun e w' => e = .returned (.bool (okB q.P)) ∧ Below w.heap.size w w' := by
  have HA : Hid (∀ w, Calls Try.prog 39 #[.string q.1] w fun e w' => e = .returned (.bool (nameB q.1.data.toList)) ∧ w' = w) := fun w => isName_calls _ w hq.1
  have HB : Hid (∀ w, Calls Try.prog 40 #[.string q.2.1] w fun e w' => e = .returned (.bool (noteB q.2.1.data.toList)) ∧ w' = w) := fun w => isNote_calls _ w hq.2.1
  have HC : Hid (∀ w, Calls Try.prog 41 #[.string q.2.2] w fun e w' => e = .returned (.bool (basesB q.2.2.data.toList)) ∧ w' = w) := fun w => areBases_calls _ w hq.2.2
  have HN : Hid (okB q.P = (nameB q.1.data.toList && (noteB q.2.1.data.toList && basesB q.2.2.data.toList))) := rfl
  clear hq
  generalize okB q.P = O at *
  generalize nameB q.1.data.toList = X at *
  generalize noteB q.2.1.data.toList = Y at *
  generalize basesB q.2.2.data.toList = Z at *
  have HBe : Hid (∀ o, Below w.heap.size w (w.alloc o)) := fun o => (Below.refl _ _).alloc (Nat.le_refl _) o
  go_enter Try.func25, Try.ntmps25
  go_wp2_with (first
    | (go_at_call 39; refine (HA.out _).mono ?_; rintro e w' ⟨rfl, rfl⟩)
    | (go_at_call 40; refine (HB.out _).mono ?_; rintro e w' ⟨rfl, rfl⟩)
    | (go_at_call 41; refine (HC.out _).mono ?_; rintro e w' ⟨rfl, rfl⟩))
  all_goals (go_ret; refine ⟨ret_bool ?_, HBe.out _⟩; rw [HN.out]; clear HN HA HB HC; simp_all)

def PrintPost (wd : Int) (qs : List Sq) (w : World) (e : Ending) (w' : World) : Prop :=
  ∃ t, e = .returned (.tuple #[.string t, .int .i64 ((printB wd (qs.map Sq.P)).2 : Int)]) ∧ t.data.toList = (printB wd (qs.map Sq.P)).1 ∧ Below w.heap.size w w'
theorem print_post {wd : Int} {qs : List Sq} {w w' : World} {l : List UInt8} {n : Nat} {t : ByteArray} {z : Int} (h : printB wd (qs.map Sq.P) = (l, n)) (ht : t.data.toList = l) (hz : z = n) (hb : Below w.heap.size w w') :
    PrintPost wd qs w (.returned (.tuple #[.string t, .int .i64 z])) w' := by
  subst hz
  exact ⟨t, by rw [h], by rw [h]; exact ht, hb⟩

theorem SqsAt.take {w : World} {ao : Option Addr} {len : Nat} {qs : List Sq} (h : SqsAt w ao len qs) (k : Nat) (hk : k ≤ len) : SqsAt w ao k (qs.take k) := by
  refine ⟨by rw [List.length_take, h.length]; omega, Nat.le_trans hk h.short, fun h0 => ?_⟩
  obtain ⟨b, off, e, hc⟩ := h.cells (by omega)
  refine ⟨b, off, e, fun i q hi => hc i q ?_⟩
  rw [List.getElem?_take] at hi
  split at hi
  · exact hi
  · cases hi

theorem okGo_at (qs : List Sq) (k : Nat) (q : Sq) (hq : qs[k]? = some q) : okGo ((qs.take k).map Sq.P) ((qs.drop k).map Sq.P) = (okB q.P && (!namedB ((qs.take k).map Sq.P) q.P.1 && okGo ((qs.take (k + 1)).map Sq.P) ((qs.drop (k + 1)).map Sq.P))) := by
  obtain ⟨hlt, he⟩ := List.getElem?_eq_some_iff.1 hq
  rw [List.drop_eq_getElem_cons hlt, he, List.take_succ_eq_append_getElem hlt, he]
  simp [okGo]
theorem allB_at (wd : Nat) (qs : List Sq) (k : Nat) (q : Sq) (hq : qs[k]? = some q) : allB wd ((qs.take (k + 1)).map Sq.P) = allB wd ((qs.take k).map Sq.P) ++ seqB wd q.P := by
  obtain ⟨hlt, he⟩ := List.getElem?_eq_some_iff.1 hq
  rw [List.take_succ_eq_append_getElem hlt, he]
  simp [allB]

set_option maxRecDepth 100000 in
set_option maxHeartbeats 8000000 in
theorem print_calls (wd : Int) (ao : Option Addr) (len cap : Nat) (qs : List Sq) (w : World) (hz : SqsAt w ao len qs) (hcap : len ≤ cap) (hsh : ∀ q ∈ qs, q.short) (hw1 : -9223372036854775808 ≤ wd) (hw2 : wd ≤ 9223372036854775807) :
    Calls Try.prog 13 #[.int .i64 wd, .slice ao len cap] w fun e w' => PrintPost wd qs w e w' := by
  by_cases hlo : wd < 1
  · have HE : Hid (PrintPost wd qs w (.returned (.tuple #[.string ⟨#[]⟩, .int .i64 1])) w) := print_post (l := []) (n := 1) (by unfold printB; rw [if_pos (.inl hlo)]) rfl rfl (Below.refl _ _)
    have hd : decide (wd < 1) = true := by simp; omega
    go_enter Try.func13, Try.ntmps13
    go_wp2
    go_ret2
    exact HE.out
  by_cases hhi : 200 < wd
  · have HE : Hid (PrintPost wd qs w (.returned (.tuple #[.string ⟨#[]⟩, .int .i64 1])) w) := print_post (l := []) (n := 1) (by unfold printB; rw [if_pos (.inr hhi)]) rfl rfl (Below.refl _ _)
    have hd : decide (wd < 1) = false := by simp; omega
    have hd2 : decide (200 < wd) = true := by simp; omega
    go_enter Try.func13, Try.ntmps13
    go_wp2
    go_ret2
    exact HE.out
  have hd : decide (wd < 1) = false := by simp; omega
  have hd2 : decide (200 < wd) = false := by simp; omega
  by_cases hlen : 64 < len
  · have HE : Hid (PrintPost wd qs w (.returned (.tuple #[.string ⟨#[]⟩, .int .i64 2])) w) := print_post (l := []) (n := 2) (by unfold printB; rw [if_neg (by omega), if_pos (by rw [List.length_map, hz.length]; exact hlen)]) rfl rfl (Below.refl _ _)
    have hd3 : decide ((64 : Int) < len) = true := by simp; omega
    go_enter Try.func13, Try.ntmps13
    go_wp2
    go_ret2
    exact HE.out
  have hd3 : decide ((64 : Int) < len) = false := by simp; omega
  have hl64 : len ≤ 64 := by omega
  have HP : Hid (printB wd (qs.map Sq.P) = if okGo [] (qs.map Sq.P) = false then ([], 20) else if 1048576 < (allB wd.toNat (qs.map Sq.P)).length then ([], 2) else (allB wd.toNat (qs.map Sq.P), 0)) := by
    show printB _ _ = _
    unfold printB; rw [if_neg (by omega), if_neg (by rw [List.length_map, hz.length]; exact hlen)]
  have HZL : Hid (qs.length = len) := hz.length
  have HZ : Hid (SqsAt w ao len qs) := hz
  have HSh : Hid (∀ q ∈ qs, q.short) := hsh
  clear hz hsh hlen
  go_enter Try.func13, Try.ntmps13
  go_wp2
  go_loopw [22] (fun i wr => ∃ k : Nat, k ≤ len ∧ i = .int .i64 k ∧ okGo [] (qs.map Sq.P) = okGo ((qs.take k).map Sq.P) ((qs.drop k).map Sq.P) ∧ Below w.heap.size w wr) (fun i _ => len - (intOf i).toNat)
  case atStart => exact ⟨0, Nat.zero_le _, rfl, by simp, Below.refl _ _⟩
  case round =>
    obtain ⟨k, hk, rfl, hok, hbel⟩ := hrel
    have HOk : Hid (okGo [] (qs.map Sq.P) = okGo ((qs.take k).map Sq.P) ((qs.drop k).map Sq.P)) := hok
    have HB : Hid (Below w.heap.size w wr) := hbel
    clear hok hbel
    by_cases hlt : k < len
    · obtain ⟨b, off, rfl, hcs⟩ := (HZ.out.below HB.out).cells (by omega)
      obtain ⟨q, hq⟩ : ∃ q, qs[k]? = some q := ⟨_, List.getElem?_eq_getElem (by rw [HZL.out]; exact hlt)⟩
      obtain ⟨hc1, hc2, hc3⟩ := hcs k q hq
      have HQ : Hid (qs[k]? = some q) := hq
      have hqs := HSh.out q (List.mem_of_getElem? hq)
      have HM : Hid (∀ w, Calls Try.prog 25 #[.agg #[.string q.1, .string q.2.1, .string q.2.2]] w fun e w' => e = .returned (.bool (okB q.P)) ∧ Below w.heap.size w w') := fun w => may_calls q w hqs
      have HNm : Hid (∀ W, Hid (Below w.heap.size w W ∧ W.heap[wr.heap.size]? = some (.cells #[.string q.1, .string q.2.1, .string q.2.2] 29 (0, 0))) → Calls Try.prog 26 #[.slice (some ⟨b, off, none⟩) k cap, .string q.1] W fun e w' => e = .returned (.bool (namedB ((qs.take k).map Sq.P) q.1.data.toList)) ∧ Below W.heap.size W w') := fun W hW => named_calls _ k cap (qs.take k) q.1 W ((HZ.out.below hW.out.1).take k hk)
      have HJB : Hid (∀ W W1, Hid (Below w.heap.size w W ∧ W.heap[wr.heap.size]? = some (.cells #[.string q.1, .string q.2.1, .string q.2.2] 29 (0, 0))) → Below W.heap.size W W1 → Hid (Below w.heap.size w W1 ∧ W1.heap[wr.heap.size]? = some (.cells #[.string q.1, .string q.2.1, .string q.2.2] 29 (0, 0))) ∧ W1.cell? ⟨wr.heap.size, 0, none⟩ = some (.string q.1)) := by
        intro W W1 hW hb
        have h1 : W1.heap[wr.heap.size]? = some (.cells #[.string q.1, .string q.2.1, .string q.2.2] 29 (0, 0)) := by rw [hb.block _ (lt_block hW.out.2)]; exact hW.out.2
        exact ⟨⟨hW.out.1.trans (hb.mono hW.out.1.size), h1⟩, by rw [Lib.cell_of_heap h1]; rfl⟩
      have HJ0 : Hid (Below w.heap.size w (wr.alloc (.cells #[.string q.1, .string q.2.1, .string q.2.2] 29)).drew ∧ (wr.alloc (.cells #[.string q.1, .string q.2.1, .string q.2.2] 29)).drew.heap[wr.heap.size]? = some (.cells #[.string q.1, .string q.2.1, .string q.2.2] 29 (0, 0))) := ⟨(HB.out.alloc HB.out.size _).drew, heap_alloc_new wr _⟩
      have hkc : (k : Int) ≤ (cap : Int) := by omega
      have HStep := okGo_at qs k q hq
      have HJF : Hid (∀ W, Hid (Below w.heap.size w W ∧ W.heap[wr.heap.size]? = some (.cells #[.string q.1, .string q.2.1, .string q.2.2] 29 (0, 0))) → Below w.heap.size w W) := fun W hW => hW.out.1
      have HJK : Hid (∀ W, Hid (Below w.heap.size w W ∧ W.heap[wr.heap.size]? = some (.cells #[.string q.1, .string q.2.1, .string q.2.2] 29 (0, 0))) → Hid (Below w.heap.size w W ∧ W.heap[wr.heap.size]? = some (.cells #[.string q.1, .string q.2.1, .string q.2.2] 29 (0, 0))) ∧ W.cell? ⟨wr.heap.size, 0, none⟩ = some (.string q.1) ∧ W.cell? ⟨wr.heap.size, 1, none⟩ = some (.string q.2.1) ∧ W.cell? ⟨wr.heap.size, 2, none⟩ = some (.string q.2.2)) := by
        intro W hW
        exact ⟨hW, by rw [Lib.cell_of_heap hW.out.2]; rfl, by rw [Lib.cell_of_heap hW.out.2]; rfl, by rw [Lib.cell_of_heap hW.out.2]; rfl⟩
      clear hcs hq hqs
      cases hokq : okB q.P with
      | false =>
        have HE : Hid (∀ w', Below w.heap.size w w' → PrintPost wd qs w (.returned (.tuple #[.string ⟨#[]⟩, .int .i64 20])) w') := by
          intro w' hb
          refine print_post (l := []) (n := 20) ?_ rfl rfl hb
          rw [HP.out, if_pos (by rw [HOk.out, HStep, hokq]; rfl)]
        rw [hokq] at HM
        clear HStep hokq HP HOk
        go_wp2_with fail
        (first
          | go_region_with (first | (go_at_call 25; refine (HM.out _).mono ?_; rintro e W1 ⟨rfl, hb⟩; obtain ⟨HJ', hc'⟩ := HJB.out _ _ (by assumption) hb; clear hb))
          | fail)
        all_goals (go_wp2; go_ret2; exact HE.out _ (HJF.out _ (by assumption)))
      | true =>
        have HOkq : Hid (okB q.P = true) := hokq
        rw [hokq] at HM
        clear hokq
        cases hnm : namedB ((qs.take k).map Sq.P) q.1.data.toList with
        | true =>
          have HE : Hid (∀ w', Below w.heap.size w w' → PrintPost wd qs w (.returned (.tuple #[.string ⟨#[]⟩, .int .i64 20])) w') := by
            intro w' hb
            refine print_post (l := []) (n := 20) ?_ rfl rfl hb
            rw [HP.out, if_pos (by rw [HOk.out, HStep]; show (_ && (!namedB _ q.1.data.toList && _)) = false; rw [hnm]; simp)]
          rw [hnm] at HNm
          clear HStep hnm HP HOk HOkq
          go_wp2_with fail
          (first
            | go_region_held (fun W => Hid (Below w.heap.size w W ∧ W.heap[wr.heap.size]? = some (.cells #[.string q.1, .string q.2.1, .string q.2.2] 29 (0, 0))) ∧ W.cell? ⟨wr.heap.size, 0, none⟩ = some (.string q.1) ∧ W.cell? ⟨wr.heap.size, 1, none⟩ = some (.string q.2.1) ∧ W.cell? ⟨wr.heap.size, 2, none⟩ = some (.string q.2.2)) (exact HJK.out _ (by assumption)) (first
              | (go_at_call 25; refine (HM.out _).mono ?_; rintro e W1 ⟨rfl, hb⟩; obtain ⟨HJ', hc'⟩ := HJB.out _ _ (by assumption) hb; clear hb)
              | (go_at_call 26; refine (HNm.out _ (by assumption)).mono ?_; rintro e W1 ⟨rfl, hb⟩; obtain ⟨HJ', hc'⟩ := HJB.out _ _ (by assumption) hb; clear hb))
            | fail)
          all_goals (go_wp2; go_ret2; exact HE.out _ (HJF.out _ (by assumption)))
        | false =>
          have HNext : Hid (okGo [] (qs.map Sq.P) = okGo ((qs.take (k + 1)).map Sq.P) ((qs.drop (k + 1)).map Sq.P)) := by
            show _ = _
            rw [HOk.out, HStep, HOkq.out]; show (true && (!namedB _ q.1.data.toList && _)) = _; rw [hnm]; simp
          rw [hnm] at HNm
          clear HStep hnm HOk HOkq
          go_wp2_with fail
          (first
            | go_region_held (fun W => Hid (Below w.heap.size w W ∧ W.heap[wr.heap.size]? = some (.cells #[.string q.1, .string q.2.1, .string q.2.2] 29 (0, 0))) ∧ W.cell? ⟨wr.heap.size, 0, none⟩ = some (.string q.1) ∧ W.cell? ⟨wr.heap.size, 1, none⟩ = some (.string q.2.1) ∧ W.cell? ⟨wr.heap.size, 2, none⟩ = some (.string q.2.2)) (exact HJK.out _ (by assumption)) (first
              | (go_at_call 25; refine (HM.out _).mono ?_; rintro e W1 ⟨rfl, hb⟩; obtain ⟨HJ', hc'⟩ := HJB.out _ _ (by assumption) hb; clear hb)
              | (go_at_call 26; refine (HNm.out _ (by assumption)).mono ?_; rintro e W1 ⟨rfl, hb⟩; obtain ⟨HJ', hc'⟩ := HJB.out _ _ (by assumption) hb; clear hb))
            | fail)
          all_goals go_wp2
          all_goals go_roundw
          case rel => exact ⟨k + 1, by omega, by go_num, HNext.out, HJF.out _ (by assumption)⟩
          case measure => simp [intOf]; omega
    · have hall : okGo [] (qs.map Sq.P) = true := by
        rw [HOk.out, List.drop_of_length_le (by rw [HZL.out]; omega)]; rfl
      have HEach : Hid (∀ (j : Nat) (q : Sq), qs[j]? = some q → okB q.P = true) := fun j q hj => okGo_split _ [] j q.P (by rw [List.getElem?_map, hj]; rfl) hall
      have HP2 : Hid (printB wd (qs.map Sq.P) = if 1048576 < (allB wd.toNat (qs.map Sq.P)).length then ([], 2) else (allB wd.toNat (qs.map Sq.P), 0)) := by
        show printB _ _ = _
        rw [HP.out, if_neg (by rw [hall]; decide)]
      have HF : Hid (Lib.IsBuilder 57 5 wr.heap.size wr.heap.size (byteVals []) (wr.alloc (.cells #[.pointer none, .slice none 0 0] 57))) := Lib.fresh_isBuilder 57 5 wr
      have HFb : Hid (Below w.heap.size w (wr.alloc (.cells #[.pointer none, .slice none 0 0] 57))) := HB.out.alloc HB.out.size _
      have hFs : wr.heap.size ≤ (wr.alloc (.cells #[.pointer none, .slice none 0 0] 57)).heap.size := by simp
      have hws := HB.out.size
      have hwn : wd = ((wd.toNat : Nat) : Int) := by omega
      have hw1n : 1 ≤ wd.toNat := by omega
      have hw2n : wd.toNat ≤ 200 := by omega
      clear hall HP HOk HB
      generalize hwq : wd.toNat = wn at *
      subst hwn
      clear hwq
      have hdl : decide ((k : Int) < (len : Int)) = false := by simp; omega
      go_wp2_with fail
      generalize wr.alloc (.cells #[.pointer none, .slice none 0 0] 57) = w2 at *
      generalize wr.heap.size = b2 at *
      go_loopw [41] (fun i wq => ∃ j : Nat, j ≤ len ∧ i = .int .i64 j ∧ Lib.IsBuilder 57 5 b2 b2 (byteVals (allB wn ((qs.take j).map Sq.P))) wq ∧ Below w.heap.size w wq ∧ b2 ≤ wq.heap.size ∧ (allB wn ((qs.take j).map Sq.P)).length ≤ j * 131300) (fun i _ => len - (intOf i).toNat)
      case atStart => exact ⟨0, Nat.zero_le _, rfl, HF.out, HFb.out, hFs, by simp [allB]⟩
      case round =>
        obtain ⟨j, hj, rfl, hbu, hbel, hsz, hal⟩ := hrel
        have HBu : Hid (Lib.IsBuilder 57 5 b2 b2 (byteVals (allB wn ((qs.take j).map Sq.P))) wr) := hbu
        have HBe : Hid (Below w.heap.size w wr) := hbel
        have hsw : w.heap.size ≤ wr.heap.size := hbel.size
        clear hbu hbel HF HFb hFs
        by_cases hlt2 : j < len
        · obtain ⟨b, off, rfl, hcs⟩ := (HZ.out.below HBe.out).cells (by omega)
          obtain ⟨q, hq⟩ : ∃ q, qs[j]? = some q := ⟨_, List.getElem?_eq_getElem (by rw [HZL.out]; exact hlt2)⟩
          obtain ⟨hc1, hc2, hc3⟩ := hcs j q hq
          have hokq := HEach.out j q hq
          have hsl := seqB_length wn q.P hokq
          simp only [okB, nameB, noteB, basesB, Bool.and_eq_true, decide_eq_true_eq, Sq.P, size_toList] at hokq
          have HNx := allB_at wn qs j q hq
          generalize hac : allB wn ((qs.take j).map Sq.P) = acc at *
          have HW : Hid (Calls Try.prog 27 #[.pointer (some ⟨b2, 0, none⟩), .int .i64 wn, .agg #[.string q.1, .string q.2.1, .string q.2.2]] (wr.alloc (.cells #[.string q.1, .string q.2.1, .string q.2.2] 29)) fun e w' => e = .returned (.tuple #[]) ∧ Lib.IsBuilder 57 5 b2 b2 (byteVals (acc ++ seqB wn q.P)) w' ∧ Below b2 (wr.alloc (.cells #[.string q.1, .string q.2.1, .string q.2.2] 29)) w') :=
            write_calls b2 b2 acc wn q _ (builder_below HBu.out ((Below.refl _ _).alloc (Nat.le_refl _) _)) (by simp; omega) (by omega) hw1n hw2n hokq.1.2.1 hokq.2.1.1 hokq.2.2.2.1
          have HNx2 : Hid (allB wn ((qs.take (j + 1)).map Sq.P) = acc ++ seqB wn q.P) := HNx
          have HBa : Hid (∀ w', Below b2 (wr.alloc (.cells #[.string q.1, .string q.2.1, .string q.2.2] 29)) w' → Below w.heap.size w w' ∧ b2 ≤ w'.heap.size) := by
            intro w' hb
            exact ⟨(HBe.out.alloc hsw _).trans (hb.mono hws), Nat.le_trans (by simp; omega) hb.size⟩
          clear hcs hq hokq HNx hac HBu HBe
          go_wp2_with fail
          refine HW.out.mono ?_
          rintro e w3 ⟨rfl, hbu3, hb3⟩
          obtain ⟨hb4, hs4⟩ := HBa.out w3 hb3
          have HB3 : Hid (Lib.IsBuilder 57 5 b2 b2 (byteVals (allB wn ((qs.take (j + 1)).map Sq.P))) w3) := by
            show Lib.IsBuilder _ _ _ _ _ _
            rw [HNx2.out]; exact hbu3
          have HBe3 : Hid (Below w.heap.size w w3 ∧ b2 ≤ w3.heap.size) := ⟨hb4, hs4⟩
          have HL3 : Hid ((allB wn ((qs.take (j + 1)).map Sq.P)).length ≤ (j + 1) * 131300) := by
            show _ ≤ _
            rw [HNx2.out, List.length_append]; omega
          clear hbu3 hb3 hb4 hs4 HNx2 HBa HW
          go_wp2
          go_roundw
          case rel => exact ⟨j + 1, by omega, by go_num, HB3.out, HBe3.out.1, HBe3.out.2, HL3.out⟩
          case measure => simp [intOf]; omega
        · have hdl2 : decide ((j : Int) < (len : Int)) = false := by simp; omega
          have htk : qs.take j = qs := List.take_of_length_le (by rw [HZL.out]; omega)
          rw [htk] at HBu hal
          generalize hac : allB wn (qs.map Sq.P) = acc at *
          have HLe : Hid (Calls Try.prog 28 #[.pointer (some ⟨b2, 0, none⟩)] wr fun e w' => e = .returned (.int .i64 acc.length) ∧ w' = wr) := by
            have := Try.Builder_Len b2 b2 (byteVals acc) wr HBu.out
            rw [byteVals_length] at this; exact this
          have HSt : Hid (Calls Try.prog 29 #[.pointer (some ⟨b2, 0, none⟩)] wr fun e w' => e = .returned (.string ⟨acc.toArray⟩) ∧ Below b2 wr w') := Try.Builder_String_any b2 b2 acc wr HBu.out hsz
          clear htk hac
          by_cases hbg : 1048576 < acc.length
          · have hdg : decide ((1048576 : Int) < (acc.length : Int)) = true := by simp; omega
            have HE : Hid (PrintPost (wn : Int) qs w (.returned (.tuple #[.string ⟨#[]⟩, .int .i64 2])) wr) := print_post (l := []) (n := 2) (by rw [HP2.out, if_pos hbg]) rfl rfl HBe.out
            generalize acc.length = al at *
            clear HSt HBu HP2 HBe
            go_wp2_with (go_at_call 28; refine HLe.out.mono ?_; rintro e w' ⟨rfl, rfl⟩)
            go_ret2
            exact HE.out
          · have hdg : decide ((1048576 : Int) < (acc.length : Int)) = false := by simp; omega
            have HE : Hid (∀ w', Below b2 wr w' → PrintPost (wn : Int) qs w (.returned (.tuple #[.string ⟨acc.toArray⟩, .int .i64 0])) w') := fun w' hb => print_post (l := acc) (n := 0) (by rw [HP2.out, if_neg hbg]) (mk_list _) rfl (HBe.out.trans (hb.mono hws))
            generalize acc.length = al at *
            clear HBu HP2 HBe
            go_wp2_with (first
              | (go_at_call 28; refine HLe.out.mono ?_; rintro e w' ⟨rfl, rfl⟩)
              | (go_at_call 29; refine HSt.out.mono ?_; rintro e w' ⟨rfl, hb5⟩))
            go_ret2
            exact HE.out _ hb5
end Go.Proofs.Ytcleejdlmamdhaa
