/-
  The walk of fastq.Print and of what it calls.
-/
import Derived.Test.YtcpoiaclicmmmaaWrite
import Derived.Test.YtcpoiaclicmmmaaWrong
namespace Go.Proofs.Ytcpoiaclicmmmaa
open Go.RowKit

/-- The strings of a read have lengths that an int can tell. -/
def Rd.short (q : Rd) : Prop := q.1.size ≤ maxLen ∧ q.2.1.size ≤ maxLen ∧ q.2.2.1.size ≤ maxLen ∧ q.2.2.2.size ≤ maxLen

set_option maxHeartbeats 1000000 in
theorem may_calls (q : Rd) (w : World) (hq : q.short) :
    Calls Try.prog 22 #[.agg #[.string q.1, .string q.2.1, .string q.2.2.1, .string q.2.2.2]] w fun e w' => e = .returned (.bool (okQ q.P)) ∧ Below w.heap.size w w' := by
  have HA : Hid (∀ w, Calls Try.prog 37 #[.string q.1] w fun e w' => e = .returned (.bool (nameB q.1.data.toList)) ∧ w' = w) := fun w => isName_calls _ w hq.1
  have HB : Hid (∀ w, Calls Try.prog 38 #[.string q.2.1] w fun e w' => e = .returned (.bool (noteB q.2.1.data.toList)) ∧ w' = w) := fun w => isNote_calls _ w hq.2.1
  have HC : Hid (∀ w, Calls Try.prog 32 #[.string q.2.2.1] w fun e w' => e = .returned (.bool (basesB q.2.2.1.data.toList)) ∧ w' = w) := fun w => areBases_calls _ w hq.2.2.1
  have HD : Hid (∀ w, Calls Try.prog 39 #[.agg #[.string q.1, .string q.2.1, .string q.2.2.1, .string q.2.2.2]] w fun e w' => e = .returned (.bool (lastB q.2.2.1.data.toList q.2.2.2.data.toList)) ∧ Below w.heap.size w w') := fun w => hasSigns_calls q w hq.2.2.2
  have HN : Hid (okQ q.P = (nameB q.1.data.toList && (noteB q.2.1.data.toList && (basesB q.2.2.1.data.toList && lastB q.2.2.1.data.toList q.2.2.2.data.toList)))) := rfl
  clear hq
  generalize okQ q.P = O at *
  generalize nameB q.1.data.toList = X at *
  generalize noteB q.2.1.data.toList = Y at *
  generalize basesB q.2.2.1.data.toList = Z at *
  generalize lastB q.2.2.1.data.toList q.2.2.2.data.toList = V at *
  have HBe : Hid (∀ o, Below w.heap.size w (w.alloc o)) := fun o => (Below.refl _ _).alloc (Nat.le_refl _) o
  have HBf : Hid (∀ o W, Below (w.alloc o).heap.size (w.alloc o) W → Below w.heap.size w W) := fun o W h => (HBe.out o).trans (h.mono (by simp))
  cases X
  · have HN2 : Hid (O = false) := by show O = _; rw [HN.out]; rfl
    clear HN
    go_enter Try.func22, Try.ntmps22
    go_wp2_with (go_at_call 37; refine (HA.out _).mono ?_; rintro e w' ⟨rfl, rfl⟩)
    go_ret
    exact ⟨ret_bool HN2.out.symm, HBe.out _⟩
  cases Y
  · have HN2 : Hid (O = false) := by show O = _; rw [HN.out]; rfl
    clear HN
    go_enter Try.func22, Try.ntmps22
    go_wp2_with (first
      | (go_at_call 37; refine (HA.out _).mono ?_; rintro e w' ⟨rfl, rfl⟩)
      | (go_at_call 38; refine (HB.out _).mono ?_; rintro e w' ⟨rfl, rfl⟩))
    go_ret
    exact ⟨ret_bool HN2.out.symm, HBe.out _⟩
  cases Z
  · have HN2 : Hid (O = false) := by show O = _; rw [HN.out]; rfl
    clear HN
    go_enter Try.func22, Try.ntmps22
    go_wp2_with (first
      | (go_at_call 37; refine (HA.out _).mono ?_; rintro e w' ⟨rfl, rfl⟩)
      | (go_at_call 38; refine (HB.out _).mono ?_; rintro e w' ⟨rfl, rfl⟩)
      | (go_at_call 32; refine (HC.out _).mono ?_; rintro e w' ⟨rfl, rfl⟩))
    go_ret
    exact ⟨ret_bool HN2.out.symm, HBe.out _⟩
  have HN2 : Hid (O = V) := by show O = _; rw [HN.out]; rfl
  clear HN
  go_enter Try.func22, Try.ntmps22
  go_wp2_with (first
    | (go_at_call 37; refine (HA.out _).mono ?_; rintro e w' ⟨rfl, rfl⟩)
    | (go_at_call 38; refine (HB.out _).mono ?_; rintro e w' ⟨rfl, rfl⟩)
    | (go_at_call 32; refine (HC.out _).mono ?_; rintro e w' ⟨rfl, rfl⟩)
    | (go_at_call 39; refine (HD.out _).mono ?_; rintro e w' ⟨rfl, hb⟩))
  go_ret
  exact ⟨ret_bool HN2.out.symm, HBf.out _ _ hb⟩

def PrintPost (qs : List Rd) (w : World) (e : Ending) (w' : World) : Prop :=
  ∃ t, e = .returned (.tuple #[.string t, .int .i64 ((printQ (qs.map Rd.P)).2 : Int)]) ∧ t.data.toList = (printQ (qs.map Rd.P)).1 ∧ Below w.heap.size w w'
theorem print_post {qs : List Rd} {w w' : World} {l : List UInt8} {n : Nat} {t : ByteArray} {z : Int} (h : printQ (qs.map Rd.P) = (l, n)) (ht : t.data.toList = l) (hz : z = n) (hb : Below w.heap.size w w') :
    PrintPost qs w (.returned (.tuple #[.string t, .int .i64 z])) w' := by
  subst hz
  exact ⟨t, by rw [h], by rw [h]; exact ht, hb⟩
theorem ok_at {qs : List Rd} {k : Nat} {q : Rd} (hq : qs[k]? = some q) (h : okQ q.P = false) : (qs.map Rd.P).all okQ = false := by
  rw [List.all_eq_false]
  exact ⟨q.P, List.mem_map_of_mem (List.mem_of_getElem? hq), by simp [h]⟩
theorem ok_next {qs : List Rd} {k : Nat} {q : Rd} (hq : qs[k]? = some q) (h : okQ q.P = true) (ha : ∀ p ∈ qs.take k, okQ p.P = true) : ∀ p ∈ qs.take (k + 1), okQ p.P = true := by
  intro p hp
  obtain ⟨hlt, he⟩ := List.getElem?_eq_some_iff.1 hq
  rw [List.take_succ_eq_append_getElem hlt, he] at hp
  rcases List.mem_append.1 hp with h1 | h1
  · exact ha p h1
  · rw [List.mem_singleton.1 h1]; exact h
theorem allQ_at (qs : List Rd) (k : Nat) (q : Rd) (hq : qs[k]? = some q) : allQ ((qs.take (k + 1)).map Rd.P) = allQ ((qs.take k).map Rd.P) ++ recB q.P := by
  obtain ⟨hlt, he⟩ := List.getElem?_eq_some_iff.1 hq
  rw [List.take_succ_eq_append_getElem hlt, he]
  simp [allQ]

set_option maxRecDepth 100000 in
set_option maxHeartbeats 8000000 in
theorem print_calls (ao : Option Addr) (len cap : Nat) (qs : List Rd) (w : World) (hz : RdsAt w ao len qs) (hsh : ∀ q ∈ qs, q.short) :
    Calls Try.prog 12 #[.slice ao len cap] w fun e w' => PrintPost qs w e w' := by
  by_cases hlen : 256 < len
  · have HE : Hid (PrintPost qs w (.returned (.tuple #[.string ⟨#[]⟩, .int .i64 2])) w) := print_post (l := []) (n := 2) (by unfold printQ; rw [if_pos (by rw [List.length_map, hz.length]; exact hlen)]) rfl rfl (Below.refl _ _)
    have hd3 : decide ((256 : Int) < len) = true := by simp; omega
    go_enter Try.func12, Try.ntmps12
    go_wp2
    go_ret2
    exact HE.out
  have hd3 : decide ((256 : Int) < len) = false := by simp; omega
  have hl64 : len ≤ 256 := by omega
  have HP : Hid (printQ (qs.map Rd.P) = if (qs.map Rd.P).all okQ = false then ([], 30) else if 1048576 < (allQ (qs.map Rd.P)).length then ([], 2) else (allQ (qs.map Rd.P), 0)) := by
    show printQ _ = _
    unfold printQ; rw [if_neg (by rw [List.length_map, hz.length]; exact hlen)]
  have HZL : Hid (qs.length = len) := hz.length
  have HZ : Hid (RdsAt w ao len qs) := hz
  have HSh : Hid (∀ q ∈ qs, q.short) := hsh
  clear hz hsh hlen
  go_enter Try.func12, Try.ntmps12
  go_wp2
  go_loopw [14] (fun i wr => ∃ k : Nat, k ≤ len ∧ i = .int .i64 k ∧ (∀ p ∈ qs.take k, okQ p.P = true) ∧ Below w.heap.size w wr) (fun i _ => len - (intOf i).toNat)
  case atStart => exact ⟨0, Nat.zero_le _, rfl, by simp, Below.refl _ _⟩
  case round =>
    obtain ⟨k, hk, rfl, hok, hbel⟩ := hrel
    have HOk : Hid (∀ p ∈ qs.take k, okQ p.P = true) := hok
    have HB : Hid (Below w.heap.size w wr) := hbel
    clear hok hbel
    by_cases hlt : k < len
    · obtain ⟨b, off, rfl, hcs⟩ := (HZ.out.below HB.out).cells (by omega)
      obtain ⟨q, hq⟩ : ∃ q, qs[k]? = some q := ⟨_, List.getElem?_eq_getElem (by rw [HZL.out]; exact hlt)⟩
      obtain ⟨hc1, hc2, hc3, hc4⟩ := hcs k q hq
      have HQ : Hid (qs[k]? = some q) := hq
      have hqs := HSh.out q (List.mem_of_getElem? hq)
      have HM : Hid (∀ w, Calls Try.prog 22 #[.agg #[.string q.1, .string q.2.1, .string q.2.2.1, .string q.2.2.2]] w fun e w' => e = .returned (.bool (okQ q.P)) ∧ Below w.heap.size w w') := fun w => may_calls q w hqs
      have HBe : Hid (∀ o W, Below (wr.alloc o).heap.size (wr.alloc o) W → Below w.heap.size w W) := fun o W h => (HB.out.alloc HB.out.size o).trans (h.mono (Nat.le_trans HB.out.size (by simp)))
      clear hcs hq hqs
      cases hokq : okQ q.P with
      | false =>
        have HE : Hid (∀ w', Below w.heap.size w w' → PrintPost qs w (.returned (.tuple #[.string ⟨#[]⟩, .int .i64 30])) w') := by
          intro w' hb
          refine print_post (l := []) (n := 30) ?_ rfl rfl hb
          rw [HP.out, if_pos (ok_at HQ.out hokq)]
        rw [hokq] at HM
        clear hokq HP HOk HQ HSh
        go_wp2_with (go_at_call 22; refine (HM.out _).mono ?_; rintro e W1 ⟨rfl, hb⟩)
        go_ret2
        exact HE.out _ (HBe.out _ _ hb)
      | true =>
        have HNext : Hid (∀ p ∈ qs.take (k + 1), okQ p.P = true) := ok_next HQ.out hokq HOk.out
        rw [hokq] at HM
        clear hokq HOk HQ
        go_wp2_with (go_at_call 22; refine (HM.out _).mono ?_; rintro e W1 ⟨rfl, hb⟩)
        have HB4 : Hid (Below w.heap.size w W1) := HBe.out _ _ hb
        clear hb
        go_roundw
        case rel => exact ⟨k + 1, by omega, by go_num, HNext.out, HB4.out⟩
        case measure => simp [intOf]; omega
    · have HEach : Hid (∀ (j : Nat) (q : Rd), qs[j]? = some q → okQ q.P = true) := fun j q hj => HOk.out q (by rw [List.take_of_length_le (by rw [HZL.out]; omega)]; exact List.mem_of_getElem? hj)
      have HP2 : Hid (printQ (qs.map Rd.P) = if 1048576 < (allQ (qs.map Rd.P)).length then ([], 2) else (allQ (qs.map Rd.P), 0)) := by
        show printQ _ = _
        rw [HP.out, if_neg]
        intro h
        rw [List.all_eq_false] at h
        obtain ⟨p, hp, hp2⟩ := h
        obtain ⟨q, hq, rfl⟩ := List.mem_map.1 hp
        obtain ⟨j, hj⟩ := List.getElem?_of_mem hq
        exact hp2 (HEach.out j q hj)
      have HF : Hid (Lib.IsBuilder 54 5 wr.heap.size wr.heap.size (byteVals []) (wr.alloc (.cells #[.pointer none, .slice none 0 0] 54))) := Lib.fresh_isBuilder 54 5 wr
      have HFb : Hid (Below w.heap.size w (wr.alloc (.cells #[.pointer none, .slice none 0 0] 54))) := HB.out.alloc HB.out.size _
      have hFs : wr.heap.size ≤ (wr.alloc (.cells #[.pointer none, .slice none 0 0] 54)).heap.size := by simp
      have hws := HB.out.size
      clear HP HOk HB HSh
      have hdl : decide ((k : Int) < (len : Int)) = false := by simp; omega
      go_wp2_with fail
      generalize wr.alloc (.cells #[.pointer none, .slice none 0 0] 54) = w2 at *
      generalize wr.heap.size = b2 at *
      go_loopw [24] (fun i wq => ∃ j : Nat, j ≤ len ∧ i = .int .i64 j ∧ Lib.IsBuilder 54 5 b2 b2 (byteVals (allQ ((qs.take j).map Rd.P))) wq ∧ Below w.heap.size w wq ∧ b2 ≤ wq.heap.size ∧ (allQ ((qs.take j).map Rd.P)).length ≤ 1048576) (fun i _ => len - (intOf i).toNat)
      case atStart => exact ⟨0, Nat.zero_le _, rfl, HF.out, HFb.out, hFs, by simp [allQ]⟩
      case round =>
        obtain ⟨j, hj, rfl, hbu, hbel, hsz, hal⟩ := hrel
        have HBu : Hid (Lib.IsBuilder 54 5 b2 b2 (byteVals (allQ ((qs.take j).map Rd.P))) wr) := hbu
        have HBe : Hid (Below w.heap.size w wr) := hbel
        have hsw : w.heap.size ≤ wr.heap.size := hbel.size
        clear hbu hbel HF HFb hFs
        by_cases hlt2 : j < len
        · obtain ⟨b, off, rfl, hcs⟩ := (HZ.out.below HBe.out).cells (by omega)
          obtain ⟨q, hq⟩ : ∃ q, qs[j]? = some q := ⟨_, List.getElem?_eq_getElem (by rw [HZL.out]; exact hlt2)⟩
          obtain ⟨hc1, hc2, hc3, hc4⟩ := hcs j q hq
          have hokq := HEach.out j q hq
          have hsl := recB_length q.P hokq
          simp only [okQ, nameB, noteB, basesB, lastB, Bool.and_eq_true, decide_eq_true_eq, Rd.P, size_toList] at hokq
          have hq1 : q.1.size ≤ 64 := hokq.1.2.1
          have hq2 : q.2.1.size ≤ 64 := hokq.2.1.1
          have hq3 : q.2.2.1.size ≤ 65536 := hokq.2.2.1.2.1
          have hq4 : q.2.2.2.size = q.2.2.1.size := hokq.2.2.2.1
          have HNx : Hid (allQ ((qs.take (j + 1)).map Rd.P) = allQ ((qs.take j).map Rd.P) ++ recB q.P) := allQ_at qs j q hq
          have HBig : Hid (1048576 < (allQ ((qs.take (j + 1)).map Rd.P)).length → printQ (qs.map Rd.P) = ([], 2)) := by
            intro hb
            rw [HP2.out, if_pos]
            have := allQ_take_le (qs.map Rd.P) (j + 1)
            rw [← List.map_take] at this
            omega
          generalize hac : allQ ((qs.take j).map Rd.P) = acc at *
          obtain ⟨jt, hjt⟩ : ∃ jt : ByteArray, jt.data.toList = joinB q.1.data.toList q.2.1.data.toList := ⟨⟨(joinB q.1.data.toList q.2.1.data.toList).toArray⟩, mk_list _⟩
          have HJn : Hid (∀ w, Calls Try.prog 24 #[.string q.1, .string q.2.1] w fun e w' => e = .returned (.string jt) ∧ w' = w) := fun w => by
            refine (join_calls q.1 q.2.1 w (by omega) (by omega)).mono ?_
            rintro e w' ⟨t, rfl, ht, rfl⟩
            exact ⟨by rw [byte_ext (ht.trans hjt.symm)], rfl⟩
          have hjs : jt.size ≤ 129 := by
            have := join_length q.1.data.toList q.2.1.data.toList
            rw [← hjt, size_toList, size_toList, size_toList] at this; omega
          have hsa : (⟨#[64]⟩ : ByteArray).size = 1 := rfl
          have hcat : ∀ W, (Op.stringOp .add ⟨#[64]⟩ jt).run Try.prog W = .ok (.string (⟨#[64]⟩ ++ jt)) W := fun W => run_string_add_sum W _ _ (by rw [hsa]; omega)
          have hat : (⟨#[64]⟩ ++ jt : ByteArray).data.toList = 64 :: joinB q.1.data.toList q.2.1.data.toList := by rw [ba_append, hjt]; simp
          have hats : (⟨#[64]⟩ ++ jt : ByteArray).size ≤ 130 := by rw [ByteArray.size_append, hsa]; omega
          generalize (⟨#[64]⟩ ++ jt : ByteArray) = at1 at *
          have HWr : Hid (∀ W, Hid (Below w.heap.size w W ∧ W.heap[wr.heap.size]? = some (.cells #[.string q.1, .string q.2.1, .string q.2.2.1, .string q.2.2.2] 29 (0, 0)) ∧ Lib.IsBuilder 54 5 b2 b2 (byteVals acc) W ∧ b2 ≤ W.heap.size) → Calls Try.prog 23 #[.pointer (some ⟨b2, 0, none⟩), .slice (some ⟨W.heap.size, 0, none⟩) 4 4] (W.alloc (.cells #[.string at1, .string q.2.2.1, .string ⟨#[43]⟩, .string q.2.2.2] 9)).drew fun e w' => e = .returned (.tuple #[]) ∧ Hid (Lib.IsBuilder 54 5 b2 b2 (byteVals (acc ++ recB q.P)) w' ∧ Below w.heap.size w w' ∧ b2 ≤ w'.heap.size) ∧ (w'.cell? ⟨wr.heap.size, 0, none⟩ = some (.string q.1) ∧ w'.cell? ⟨wr.heap.size, 1, none⟩ = some (.string q.2.1) ∧ w'.cell? ⟨wr.heap.size, 2, none⟩ = some (.string q.2.2.1) ∧ w'.cell? ⟨wr.heap.size, 3, none⟩ = some (.string q.2.2.2))) := by
            intro W hJ
            obtain ⟨j1, j2, j3, j4⟩ := hJ.out
            have hba : Below W.heap.size W (W.alloc (.cells #[.string at1, .string q.2.2.1, .string ⟨#[43]⟩, .string q.2.2.2] 9)).drew := ((Below.refl _ _).alloc (Nat.le_refl _) _).drew
            refine (write_calls b2 b2 acc W.heap.size 4 [at1, q.2.2.1, ⟨#[43]⟩, q.2.2.2] _ (builder_below j3 hba) (Nat.le_trans j4 hba.size) rfl (by omega) (by omega) ?_ (heap_alloc_new W _)).mono ?_
            · intro s hs
              simp at hs
              rcases hs with rfl | rfl | rfl | rfl
              · omega
              · omega
              · decide
              · omega
            · rintro e w' ⟨rfl, k1, k2, k3⟩
              have hblk : w'.heap[wr.heap.size]? = some (.cells #[.string q.1, .string q.2.1, .string q.2.2.1, .string q.2.2.2] 29 (0, 0)) := k3 _ _ _ _ (.inl rfl) (by rw [hba.block _ (lt_block j2)]; exact j2)
              refine ⟨rfl, ⟨?_, (j1.trans (hba.mono j1.size)).trans (k2.mono hws), Nat.le_trans (Nat.le_trans j4 hba.size) k2.size⟩, by rw [Lib.cell_of_heap hblk]; rfl, by rw [Lib.cell_of_heap hblk]; rfl, by rw [Lib.cell_of_heap hblk]; rfl, by rw [Lib.cell_of_heap hblk]; rfl⟩
              have : linesOut [at1, q.2.2.1, ⟨#[43]⟩, q.2.2.2] = recB q.P := by
                simp [linesOut, recB, hat, Rd.P]
              rw [← this]; exact k1
          have HKJ : Hid (∀ W, Hid (Below w.heap.size w W ∧ W.heap[wr.heap.size]? = some (.cells #[.string q.1, .string q.2.1, .string q.2.2.1, .string q.2.2.2] 29 (0, 0)) ∧ Lib.IsBuilder 54 5 b2 b2 (byteVals acc) W ∧ b2 ≤ W.heap.size) → W.drew.cell? ⟨wr.heap.size, 0, none⟩ = some (.string q.1) ∧ W.drew.cell? ⟨wr.heap.size, 1, none⟩ = some (.string q.2.1) ∧ W.drew.cell? ⟨wr.heap.size, 2, none⟩ = some (.string q.2.2.1) ∧ W.drew.cell? ⟨wr.heap.size, 3, none⟩ = some (.string q.2.2.2)) := by
            intro W hJ
            obtain ⟨j1, j2, j3, j4⟩ := hJ.out
            have j5 : W.drew.heap[wr.heap.size]? = some (.cells #[.string q.1, .string q.2.1, .string q.2.2.1, .string q.2.2.2] 29 (0, 0)) := j2
            exact ⟨by rw [Lib.cell_of_heap j5]; rfl, by rw [Lib.cell_of_heap j5]; rfl, by rw [Lib.cell_of_heap j5]; rfl, by rw [Lib.cell_of_heap j5]; rfl⟩
          have HKA : Hid (∀ W o, Hid (Below w.heap.size w W ∧ W.heap[wr.heap.size]? = some (.cells #[.string q.1, .string q.2.1, .string q.2.2.1, .string q.2.2.2] 29 (0, 0)) ∧ Lib.IsBuilder 54 5 b2 b2 (byteVals acc) W ∧ b2 ≤ W.heap.size) → (W.alloc o).drew.cell? ⟨wr.heap.size, 0, none⟩ = some (.string q.1) ∧ (W.alloc o).drew.cell? ⟨wr.heap.size, 1, none⟩ = some (.string q.2.1) ∧ (W.alloc o).drew.cell? ⟨wr.heap.size, 2, none⟩ = some (.string q.2.2.1) ∧ (W.alloc o).drew.cell? ⟨wr.heap.size, 3, none⟩ = some (.string q.2.2.2)) := by
            intro W o hJ
            obtain ⟨j1, j2, j3, j4⟩ := hJ.out
            have j5 : (W.alloc o).drew.heap[wr.heap.size]? = some (.cells #[.string q.1, .string q.2.1, .string q.2.2.1, .string q.2.2.2] 29 (0, 0)) := by
              rw [((Below.refl W.heap.size W).alloc (Nat.le_refl _) o).drew.block _ (lt_block j2)]; exact j2
            exact ⟨by rw [Lib.cell_of_heap j5]; rfl, by rw [Lib.cell_of_heap j5]; rfl, by rw [Lib.cell_of_heap j5]; rfl, by rw [Lib.cell_of_heap j5]; rfl⟩
          have HJ0 : Hid (Below w.heap.size w (wr.alloc (.cells #[.string q.1, .string q.2.1, .string q.2.2.1, .string q.2.2.2] 29)) ∧ (wr.alloc (.cells #[.string q.1, .string q.2.1, .string q.2.2.1, .string q.2.2.2] 29)).heap[wr.heap.size]? = some (.cells #[.string q.1, .string q.2.1, .string q.2.2.1, .string q.2.2.2] 29 (0, 0)) ∧ Lib.IsBuilder 54 5 b2 b2 (byteVals acc) (wr.alloc (.cells #[.string q.1, .string q.2.1, .string q.2.2.1, .string q.2.2.2] 29)) ∧ b2 ≤ (wr.alloc (.cells #[.string q.1, .string q.2.1, .string q.2.2.1, .string q.2.2.2] 29)).heap.size) := by
            have hba : Below wr.heap.size wr (wr.alloc (.cells #[.string q.1, .string q.2.1, .string q.2.2.1, .string q.2.2.2] 29)) := (Below.refl _ _).alloc (Nat.le_refl _) _
            exact ⟨HBe.out.alloc hsw _, heap_alloc_new wr _, builder_below HBu.out hba, Nat.le_trans hsz hba.size⟩
          clear hcs hq hokq hac HBu HBe hjt hat hsa HP2 HEach
          go_wp2_with fail
          generalize wr.alloc (.cells #[.string q.1, .string q.2.1, .string q.2.2.1, .string q.2.2.2] 29) = wx at *
          generalize wr.heap.size = gx at *
          go_region_held3 (fun W => W.cell? ⟨gx, 0, none⟩ = some (.string q.1) ∧ W.cell? ⟨gx, 1, none⟩ = some (.string q.2.1) ∧ W.cell? ⟨gx, 2, none⟩ = some (.string q.2.2.1) ∧ W.cell? ⟨gx, 3, none⟩ = some (.string q.2.2.2))
            (first | exact HKJ.out _ (by assumption) | exact HKA.out _ _ (by assumption) | assumption)
            (first
              | (go_at_call 24; refine (HJn.out _).mono ?_; rintro e w' ⟨rfl, rfl⟩)
              | (go_at_call 23; refine (HWr.out _ (by assumption)).mono ?_; rintro e w3 ⟨rfl, hK3, hS3⟩))
          clear HWr HKJ HKA HJ0 HJn
          have HLe : Hid (Calls Try.prog 25 #[.pointer (some ⟨b2, 0, none⟩)] w3 fun e w' => e = .returned (.int .i64 (acc ++ recB q.P).length) ∧ w' = w3) := by
            have := Try.Builder_Len b2 b2 (byteVals (acc ++ recB q.P)) w3 hK3.out.1
            rw [byteVals_length] at this; exact this
          by_cases hbg : 1048576 < (acc ++ recB q.P).length
          · have hdg : decide ((1048576 : Int) < ((acc ++ recB q.P).length : Int)) = true := decide_eq_true (by omega)
            have HE : Hid (PrintPost qs w (.returned (.tuple #[.string ⟨#[]⟩, .int .i64 2])) w3) := print_post (l := []) (n := 2) (HBig.out (by rw [HNx.out]; exact hbg)) rfl rfl hK3.out.2.1
            generalize (acc ++ recB q.P).length = al at *
            clear HBig HNx
            go_wp2_with (go_at_call 25; refine HLe.out.mono ?_; rintro e w' ⟨rfl, rfl⟩)
            go_ret2
            exact HE.out
          · have hdg : decide ((1048576 : Int) < ((acc ++ recB q.P).length : Int)) = false := decide_eq_false (by omega)
            have HB3 : Hid (Lib.IsBuilder 54 5 b2 b2 (byteVals (allQ ((qs.take (j + 1)).map Rd.P))) w3 ∧ (allQ ((qs.take (j + 1)).map Rd.P)).length ≤ 1048576) := by
              show _ ∧ _
              rw [HNx.out]; exact ⟨hK3.out.1, by omega⟩
            generalize (acc ++ recB q.P).length = al at *
            clear HBig HNx
            go_wp2_with (go_at_call 25; refine HLe.out.mono ?_; rintro e w' ⟨rfl, rfl⟩)
            go_roundw
            case rel => exact ⟨j + 1, by omega, by go_num, HB3.out.1, hK3.out.2.1, hK3.out.2.2, HB3.out.2⟩
            case measure => simp [intOf]; omega
        · have hdl2 : decide ((j : Int) < (len : Int)) = false := by simp; omega
          have htk : qs.take j = qs := List.take_of_length_le (by rw [HZL.out]; omega)
          rw [htk] at HBu hal
          generalize hac : allQ (qs.map Rd.P) = acc at *
          have HSt : Hid (Calls Try.prog 26 #[.pointer (some ⟨b2, 0, none⟩)] wr fun e w' => e = .returned (.string ⟨acc.toArray⟩) ∧ Below b2 wr w') := Try.Builder_String_any b2 b2 acc wr HBu.out hsz
          have HE : Hid (∀ w', Below b2 wr w' → PrintPost qs w (.returned (.tuple #[.string ⟨acc.toArray⟩, .int .i64 0])) w') := fun w' hb => print_post (l := acc) (n := 0) (by rw [HP2.out, if_neg (by omega)]) (mk_list _) rfl (HBe.out.trans (hb.mono hws))
          clear htk hac HBu HP2 HBe hal
          go_wp2_with (go_at_call 26; refine HSt.out.mono ?_; rintro e w' ⟨rfl, hb5⟩)
          go_ret2
          exact HE.out _ hb5
end Go.Proofs.Ytcpoiaclicmmmaa
