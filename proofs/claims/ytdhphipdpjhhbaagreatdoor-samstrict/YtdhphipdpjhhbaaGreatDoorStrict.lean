/-
  SamStrict: of a file one byte of which is another one either nothing is read, or what is written as just that text.
-/
import Derived.Test.YtdhphipdpjhhbaaGreatDoorRows
import Derived.Test.YtdhphipdpjhhbaaGreatDoorCards
import Derived.Test.YtdhphipdpjhhbaaGreatDoorTie
import Derived.Test.YtdhphipdpjhhbaaGreatDoorParseW
import Derived.Test.YtdhphipdpjhhbaaGreatDoorRefFile
import Derived.Test.YtdhphipdpjhhbaaGreatDoorWeighs
import Derived.Test.YtdhphipdpjhhbaaGreatDoorStrictP
import Derived.Test.YtdhphipdpjhhbaaGreatDoorOver
import Derived.WalkKit
namespace Go.Proofs.YtdhphipdpjhhbaaGreatDoor
open Go.RowKit

/-- Block g holds these bytes at its head, and may be written there. -/
structure BytesAt (w : World) (g : Nat) (bs : List UInt8) : Prop where
  row : ∃ cur hi, w.heap[g]? = some (.cells cur 5 (cur.size, hi)) ∧ bs.length ≤ cur.size ∧ ∀ j, j < bs.length → cur[j]? = some (.int .u8 ((bs.getD j 0).toNat : Int))
theorem BytesAt.cell {w : World} {g : Nat} {bs : List UInt8} (h : BytesAt w g bs) (j : Nat) (hj : j < bs.length) : w.cell? ⟨g, j, none⟩ = some (.int .u8 ((bs.getD j 0).toNat : Int)) := by
  obtain ⟨cur, hi, hg, hl, hc⟩ := h.row
  rw [cell_of_row w g j cur 5 _ hg]
  exact hc j hj
theorem BytesAt.frozen {w : World} {g : Nat} {bs : List UInt8} (h : BytesAt w g bs) (j : Nat) (hj : j < bs.length) : w.frozen? ⟨g, j, none⟩ = false := by
  obtain ⟨cur, hi, hg, hl, hc⟩ := h.row
  have : ¬ cur.size ≤ j := by omega
  simp [World.frozen?, hg, this]
theorem BytesAt.put {w : World} {g : Nat} {bs : List UInt8} (h : BytesAt w g bs) (j : Nat) (c : UInt8) : BytesAt (w.setCell ⟨g, j, none⟩ (.int .u8 (c.toNat : Int))) g (bs.set j c) := by
  obtain ⟨cur, hi, hg, hl, hc⟩ := h.row
  refine ⟨cur.setIfInBounds j (.int .u8 (c.toNat : Int)), hi, ?_, by simpa using hl, ?_⟩
  · simp only [World.setCell, Array.getElem?_modify]
    rw [if_pos trivial, hg]
    simp
  · intro i hi'
    have hi2 : i < bs.length := by simpa using hi'
    have hc' := hc i hi2
    by_cases e : j = i
    · subst e
      rw [Array.getElem?_setIfInBounds_self_of_lt (by omega)]
      simp [List.getD, hi2]
    · rw [Array.getElem?_setIfInBounds_ne e, hc']
      have e2 : (bs.set j c).getD i 0 = bs.getD i 0 := by simp [List.getD, List.getElem?_set_ne e]
      rw [e2]
theorem BytesAt.text {w : World} {g : Nat} {bs : List UInt8} (h : BytesAt w g bs) (n cap : Nat) (hn : bs.length = n) : (convert 53 9 (.slice (some ⟨g, 0, none⟩) n cap)).run Tryz.prog w = .ok (.string ⟨bs.toArray⟩) w := by
  subst hn
  refine run_convert_bytes_back w 53 9 5 ⟨g, 0, none⟩ cap bs Tryz.underlying53 Tryz.underlying5 Tryz.underlying9 ?_
  intro j hj
  have hadd : (⟨g, 0, none⟩ : Addr).add j = ⟨g, j, none⟩ := by unfold Addr.add; split <;> simp_all
  rw [hadd, h.cell j hj]
  simp [List.getD, List.getElem?_eq_getElem hj]
theorem bytesAt_new (w : World) (s : ByteArray) (cap hi : Nat) : BytesAt (w.drew.alloc (.cells (bytesRow s cap) 5 ((bytesRow s cap).size, hi))) w.heap.size s.data.toList := by
  refine ⟨bytesRow s cap, hi, ?_, ?_, ?_⟩
  · show (w.heap.push _)[w.heap.size]? = _
    simp
  · simp [bytesRow]
  · intro j hj
    have hj' : j < s.data.size := by simpa using hj
    rw [bytesRow_at s cap j hj']
    simp [List.getD, Array.getElem?_eq_getElem hj']
theorem file_pos {refs : List Sqp} {l : List Rec} {t : List UInt8} (h : printF refs l = (t, 0)) : 0 < t.length ∧ t.length ≤ 1048576 := by
  unfold printF at h
  split at h
  · simp at h
  · split at h
    · simp at h
    · split at h
      · simp at h
      · split at h
        · simp at h
        · rename_i h3
          simp only [Prod.mk.injEq, and_true] at h
          subst h
          exact ⟨by rw [fileB, List.length_append]; exact Nat.lt_of_lt_of_le (by decide : 0 < headT.length) (Nat.le_add_right _ _), by omega⟩

theorem goF_ge : ∀ (ps : List (List UInt8)) (f : Fl) (k j : Nat), goF f k ps = .inr j → k ≤ j
  | [], f, k, j, h => by simp only [goF, Sum.inr.injEq] at h; omega
  | [p], f, k, j, h => by
    simp only [goF] at h
    split at h
    · cases h
    · cases h; exact Nat.le_refl _
  | p :: q :: r, f, k, j, h => by
    simp only [goF] at h
    split at h
    · cases h; exact Nat.le_refl _
    · have := goF_ge (q :: r) _ (k + 1) j h
      omega
theorem parseF_ge {t : List UInt8} {k : Nat} (h : parseF t = .inr k) : 1 ≤ k := goF_ge _ _ _ _ h
/-- The sequence of a reference, its letters all alike. -/
def sqOf (f : Rv) : Sq := (f.1, ⟨#[]⟩, ⟨(List.replicate f.2.toNat 65).toArray⟩)
theorem sqOf_P (f : Rv) : (sqOf f).P = seqOf f.P := by simp [sqOf, Sq.P, seqOf, Rv.P]
theorem sqs_row {W : World} {B n cap : Nat} {ao : Option Addr} {qs : List Sq} (h : W.ownsRow B 42 3 (.slice ao n cap) n (qs.flatMap sqRow)) (hf : ∀ q ∈ qs, q.short) (hn : n ≤ 64) : SqsAt W ao n qs := by
  have hl : qs.length = n := by have := h.1; rw [flat_length sq_len] at this; omega
  refine ⟨hl, by unfold maxLen; omega, hf, fun h0 => ?_⟩
  obtain ⟨g, cap', he, _⟩ := owned_some h h0
  cases he
  refine ⟨g, 0, rfl, fun i q hi => ?_⟩
  simp only [Nat.zero_add]
  exact sqs_cells h hi
theorem GotAt.grown {w : World} {fs : List Rv} {xs : List Rl} {vn vi vl : Value} {W W' : World} (h : GotAt w fs xs vn vi vl W) {n : Nat} {v : Value} {ys : List Value} (ho : W.ownsRow w.heap.size 42 3 v n ys) (hg : W.grownBy W' v.ownBlock) : GotAt w fs xs vn vi vl W' :=
  ⟨h.low.grown hg h.low.size (fun k hk => (ho.lt k hk).1), owned_grown h.names ho (by decide) hg, owned_grown h.lens ho (by decide) hg, owned_grown h.recs ho (by decide) hg, fun x hx => owned_grown (h.runs x hx) ho (by decide) hg, h.apart, h.few, h.many, h.fine, h.good⟩
theorem byteVals_set (l : List UInt8) (j : Nat) (c : UInt8) : (byteVals l).set j (.int .u8 (c.toNat : Int)) = byteVals (l.set j c) := by simp [byteVals, List.map_set]
theorem made_bytes (n : Nat) : (madeCells #[.int .u8 0] n).toList = byteVals (List.replicate n 0) := by
  have h := made_flat (f := fun b : UInt8 => [Value.int .u8 (b.toNat : Int)]) (s := 1) (fun _ => rfl) 0 #[.int .u8 0] rfl (by decide) n
  rw [Nat.mul_one] at h
  rw [h]
  simp [byteVals, List.flatMap_replicate, List.map_replicate]
/-- The letters laid down so far. -/
def lettersB (n j : Nat) : List UInt8 := List.replicate j 65 ++ List.replicate (n - j) 0
theorem letters_next {n j : Nat} (h : j < n) : (lettersB n j).set j 65 = lettersB n (j + 1) := by
  unfold lettersB
  rw [List.set_append_right _ _ (by simp), List.length_replicate, Nat.sub_self, show n - j = (n - (j + 1)) + 1 by omega, List.replicate_succ, List.set_cons_zero, List.replicate_succ', List.append_assoc]
  rfl
theorem letters_len {n j : Nat} (h : j ≤ n) : (lettersB n j).length = n := by simp [lettersB]; omega
theorem cell_sq_new (W : World) (q : Sq) : ∀ (i : Nat) (u : Value), (sqRow q)[i]? = some u → (W.alloc (.cells #[.string q.1, .string q.2.1, .string q.2.2] 42)).cell? ((⟨W.heap.size, 0, none⟩ : Addr).add i) = some u := by
  intro i u hu
  have hadd : (⟨W.heap.size, 0, none⟩ : Addr).add i = ⟨W.heap.size, i, none⟩ := by unfold Addr.add; split <;> simp_all
  rw [hadd, cell_of_row _ W.heap.size i _ 42 (0, 0) (heap_alloc_new W _)]
  have h2 : (#[.string q.1, .string q.2.1, .string q.2.2] : Array Value).toList = sqRow q := rfl
  rw [← Array.getElem?_toList, h2]; exact hu

set_option maxRecDepth 20000 in
set_option maxHeartbeats 8000000 in
theorem strict_walk (ao : Option Addr) (len cap : Nat) (qs : List Sq) (bo : Option Addr) (n cap2 : Nat) (xs : List Rl) (turn : Int) (w : World) (hstd : Std w) (hq : SqsIn w ao len cap qs) (hx : RecsIn w bo n cap2 xs) (hturn : (Lit.int .i64 turn).wf = true) :
    Calls Tryz.prog 8 #[.slice ao len cap, .slice bo n cap2, .int .i64 turn] w fun e w' => e = .returned (.bool true) ∧ Below w.heap.size w w' := by
  have hfit := int_wf hturn
  unfold fitI at hfit
  have HStd : Hid (∀ W, Below w.heap.size w W → Std W) := fun W hW => hstd.below hW
  have HQ : Hid (∀ W, Below w.heap.size w W → SqsAt W ao len qs) := fun W hW => hq.at_.below hW
  have HX : Hid (∀ W, Below w.heap.size w W → RecsAt W bo n xs) := fun W hW => hx.at_.below hW
  clear hstd hq hx hturn
  go_enter Tryz.func8, Tryz.ntmps8
  go_wp2_with fail
  refine (weighs_calls bo n cap2 xs w (HX.out _ (Below.refl _ _))).mono ?_
  rintro e w1 ⟨N, rfl, _, hb1⟩
  have HB1 : Hid (Below w.heap.size w w1) := hb1
  clear hb1
  go_wp2_with fail
  refine (bulk_calls ao len cap qs w1 (HQ.out _ HB1.out)).mono ?_
  rintro e w2 ⟨M, rfl, _, hb2⟩
  have HB2 : Hid (Below w.heap.size w w2) := HB1.out.trans (hb2.mono HB1.out.size)
  clear hb2 HB1
  by_cases hbn : N ≤ 536870911
  case neg =>
    have hd : decide (N > 536870911) = true := by simp; omega
    go_wp2
    go_ret
    exact ⟨rfl, HB2.out⟩
  have hd : decide (N > 536870911) = false := by simp; omega
  by_cases hbm : M ≤ 536870911
  case neg =>
    have hd2 : decide (M > 536870911) = true := by simp; omega
    go_wp2
    go_ret
    exact ⟨rfl, HB2.out⟩
  have hd2 : decide (M > 536870911) = false := by simp; omega
  go_wp2_with fail
  refine (awake_calls w2 (HStd.out _ HB2.out)).mono ?_
  rintro e w3 ⟨rfl, hb3⟩
  have HB3 : Hid (Below w.heap.size w w3) := HB2.out.trans (hb3.mono HB2.out.size)
  clear hb3 HB2 hbn hbm hd hd2
  have HRf : Hid (Calls Tryz.prog 20 #[.slice ao len cap, .slice bo n cap2] w3 fun e w' => TextPost (printF (qs.map Sq.P) (xs.map Rl.R)) w3 e w') := refPrintFile_calls ao len cap qs bo n cap2 xs w3 (HQ.out _ HB3.out) (HX.out _ HB3.out)
  have HPos : Hid (∀ t, printF (qs.map Sq.P) (xs.map Rl.R) = (t, 0) → 0 < t.length ∧ t.length ≤ 1048576) := fun t h => file_pos h
  generalize printF (qs.map Sq.P) (xs.map Rl.R) = T at *
  go_wp2_with fail
  refine HRf.out.mono ?_
  rintro e w4 ⟨s, rfl, hs, hb4⟩
  have HB4 : Hid (Below w.heap.size w w4) := HB3.out.trans (hb4.mono HB3.out.size)
  have HS : Hid (s.data.toList = T.1) := hs
  clear hb4 hs HRf HB3
  obtain ⟨T1, T2⟩ := T
  simp only at HS
  by_cases hT : T2 = 0
  case neg =>
    have e2 : (T2 != 0) = true := by simp [hT]
    clear hT
    go_wp2
    go_ret
    exact ⟨rfl, HB4.out⟩
  subst hT
  obtain ⟨hp1, hp2⟩ := HPos.out T1 rfl
  rw [← HS.out, size_toList] at hp1 hp2
  clear HPos HS HQ HX
  have hne : ¬ (s.size : Int) = 0 := by omega
  go_upto_if 52 with (fail)
  have hr1 : (turn.tdiv 256).tmod (s.size : Int) < (s.size : Int) := Int.tmod_lt_of_pos _ (by omega)
  have hr2 : -(s.size : Int) < (turn.tdiv 256).tmod (s.size : Int) := Int.lt_tmod_of_pos _ (by omega)
  generalize (turn.tdiv 256).tmod (s.size : Int) = r at *
  go_cut [12] (fun v wc => wc = w4 ∧ ∃ z : Nat, z < s.size ∧ v = .int .i64 z)
  case first =>
    by_cases hr : r < 0
    · have hdr : decide (r < 0) = true := by simp [hr]
      go_wp2
      go_meet
      exact ⟨rfl, (r + s.size).toNat, by omega, val_int (by omega)⟩
    · have hdr : decide (r < 0) = false := by simp [hr]
      go_wp2
      go_meet
      exact ⟨rfl, r.toNat, by omega, val_int (by omega)⟩
  case rest =>
    obtain ⟨rfl, z, hz, rfl⟩ := hcut
    clear hr1 hr2
    have hconv := run_bytes_of_string (P := Tryz.prog) wc 9 53 5 s Tryz.underlying9 Tryz.underlying53 Tryz.underlying5
    generalize grownCap wc s.size 0 5 = cp at *
    have HNew := bytesAt_new wc s cp ((bytesRow s cp).size + 1)
    have hzI : (z : Int) < (s.size : Int) := by omega
    have HNe : Hid (BytesAt (wc.alloc (.cells (bytesRow s cp) 5 ((bytesRow s cp).size, (bytesRow s cp).size + 1))).drew wc.heap.size s.data.toList) := HNew
    have hcell := HNe.out.cell z (by rw [size_toList]; exact hz)
    have hfroz := HNe.out.frozen z (by rw [size_toList]; exact hz)
    clear HNew
    obtain ⟨c, hc⟩ : ∃ c : UInt8, (c.toNat : Int) = turn % 256 := ⟨UInt8.ofNat (turn % 256).toNat, by rw [UInt8.toNat_ofNat', Nat.mod_eq_of_lt (by omega)]; omega⟩
    obtain ⟨t, ht⟩ : ∃ t : ByteArray, (⟨(s.data.toList.set z c).toArray⟩ : ByteArray) = t := ⟨_, rfl⟩
    have htl : t.size = s.size := by rw [← ht, mk_size, List.length_set, size_toList]
    have hput := HNe.out.put z c
    rw [hc] at hput
    have htext := hput.text s.size cp (by rw [List.length_set, size_toList])
    rw [ht] at htext
    have htext2 : (convert 53 9 (.slice (some ⟨wc.heap.size, 0, none⟩) s.size cp)).run Tryz.prog ((wc.alloc (.cells (bytesRow s cp) 5 ((bytesRow s cp).size, (bytesRow s cp).size + 1))).setCell ⟨wc.heap.size, z, none⟩ (.int .u8 (turn % 256))).drew = .ok (.string t) ((wc.alloc (.cells (bytesRow s cp) 5 ((bytesRow s cp).size, (bytesRow s cp).size + 1))).setCell ⟨wc.heap.size, z, none⟩ (.int .u8 (turn % 256))).drew := htext
    have HB5 : Hid (Below w.heap.size w ((wc.alloc (.cells (bytesRow s cp) 5 ((bytesRow s cp).size, (bytesRow s cp).size + 1))).setCell ⟨wc.heap.size, z, none⟩ (.int .u8 (turn % 256))).drew) := ((HB4.out.alloc HB4.out.size _).setCell (p := ⟨wc.heap.size, z, none⟩) HB4.out.size _).drew
    clear htext hput HNe hc ht
    go_wp2_with fail
    generalize ((wc.alloc (.cells (bytesRow s cp) 5 ((bytesRow s cp).size, (bytesRow s cp).size + 1))).setCell ⟨wc.heap.size, z, none⟩ (.int .u8 (turn % 256))).drew = w5 at *
    clear hconv hcell hfroz htext2
    have hts : t.size ≤ 1048576 := by omega
    have HPa : Hid (Calls Tryz.prog 21 #[.string t] w5 fun e w' => ParsePost (parseF t.data.toList) w5 e w') := parse21_calls t w5 hts (HStd.out _ HB5.out)
    refine HPa.out.mono ?_
    rintro e w6 ⟨hb6, ⟨k, hk, rfl⟩ | ⟨fs, ys, vn, vi, vl, hF, rfl, hg⟩⟩
    · have hk1 := parseF_ge hk
      have HB6 : Hid (Below w.heap.size w w6) := HB5.out.trans (hb6.mono HB5.out.size)
      have hdk : decide ((k : Int) ≥ 1) = true := by simp; omega
      clear hk hb6 HPa
      go_wp2
      go_ret
      exact ⟨rfl, HB6.out⟩
    have HPP : Hid (printF ((fs.map Rv.P).map seqOf) (ys.map Rl.R) = (t.data.toList, 0)) := parse_print hF (by rw [size_toList]; exact hts)
    obtain ⟨no, nc, hvn⟩ := owned_shape hg.names
    obtain ⟨io, ic, hvi⟩ := owned_shape hg.lens
    obtain ⟨lo, lc, hvl⟩ := owned_shape hg.recs
    obtain ⟨nf, hnf⟩ : ∃ n, fs.length = n := ⟨_, rfl⟩
    obtain ⟨m, hm⟩ : ∃ n, ys.length = n := ⟨_, rfl⟩
    rw [hnf] at hvn hvi
    rw [hm] at hvl
    subst hvn hvi hvl
    have h64 : nf ≤ 64 := by rw [← hnf]; exact hg.few
    have h256 : m ≤ 256 := by rw [← hm]; exact hg.many
    have HN : Hid (fs.length = nf) := hnf
    have HM : Hid (ys.length = m) := hm
    have HG6 : Hid (GotAt w5 fs ys (.slice no nf nc) (.slice io nf ic) (.slice lo m lc) w6) := hg
    have HFi : Hid (∀ f ∈ fs, rvOk f) := hg.fine
    clear hb6 hF hg hnf hm HPa
    obtain ⟨i4, hi4, hz40, hz41, hz42⟩ := info_parts info42
    obtain ⟨i5, hi5, hz50, hz51, hz52⟩ := info5'
    go_wp2_with fail
    go_loopw [20, 21] (fun vo iv wr => ∃ i : Nat, i ≤ nf ∧ iv = .int .i64 i ∧ GotAt w5 fs ys (.slice no nf nc) (.slice io nf ic) (.slice lo m lc) wr ∧ wr.ownsRow w5.heap.size 42 3 vo i (((fs.take i).map sqOf).flatMap sqRow)) (fun _ iv _ => nf - (intOf iv).toNat)
    case atStart => exact ⟨0, Nat.zero_le _, rfl, HG6.out, World.ownsRow_nil _ _ _ _⟩
    case round =>
      obtain ⟨i, hi1, rfl, hgi, hoi⟩ := hrel
      obtain ⟨oo, oc, rfl⟩ := owned_shape hoi
      have HGi : Hid (GotAt w5 fs ys (.slice no nf nc) (.slice io nf ic) (.slice lo m lc) wr) := hgi
      have HOi : Hid (wr.ownsRow w5.heap.size 42 3 (.slice oo i oc) i (((fs.take i).map sqOf).flatMap sqRow)) := hoi
      clear hgi hoi HG6
      by_cases hlt : i < nf
      · have hdi : decide ((i : Int) < (nf : Int)) = true := by simp; omega
        have hiI : (i : Int) < (nf : Int) := by omega
        obtain ⟨⟨f1, f2⟩, hf⟩ : ∃ f, fs[i]? = some f := ⟨_, List.getElem?_eq_getElem (by rw [HN.out]; exact hlt)⟩
        have hrv := HFi.out _ (List.mem_of_getElem? hf)
        obtain ⟨hr1, hr2, hr3⟩ := hrv
        simp only at hr1 hr2 hr3
        obtain ⟨N2, rfl⟩ : ∃ N2 : Nat, f2 = (N2 : Int) := ⟨f2.toNat, by omega⟩
        have hnm := HGi.out.names
        have hln := HGi.out.lens
        rw [HN.out] at hnm hln
        obtain ⟨gn, c1, hen, _⟩ := owned_some hnm (by omega)
        cases hen
        obtain ⟨gi, c2, hei, _⟩ := owned_some hln (by omega)
        cases hei
        have HNc : Hid (∀ W, GotAt w5 fs ys (.slice (some ⟨gn, 0, none⟩) nf nc) (.slice (some ⟨gi, 0, none⟩) nf ic) (.slice lo m lc) W → W.cell? ⟨gn, i, none⟩ = some (.string f1) ∧ W.cell? ⟨gi, i, none⟩ = some (.int .i64 (N2 : Int))) := by
          intro W hW
          have h1 := hW.names
          have h2 := hW.lens
          rw [HN.out] at h1 h2
          exact ⟨(owned_cells h1 i (.string f1) (by simp [strVals, hf])).1, (owned_cells h2 i (.int .i64 (N2 : Int)) (by simp [intVals, hf])).1⟩
        have htk : (fs.take (i + 1)).map sqOf = (fs.take i).map sqOf ++ [sqOf (f1, (N2 : Int))] := by
          obtain ⟨h1, h2⟩ := List.getElem?_eq_some_iff.1 hf
          rw [List.take_succ_eq_append_getElem h1, h2, List.map_append]; rfl
        have HTk : Hid (((fs.take (i + 1)).map sqOf).flatMap sqRow = ((fs.take i).map sqOf).flatMap sqRow ++ sqRow (sqOf (f1, (N2 : Int)))) := by
          show _ = _
          rw [htk, List.flatMap_append]; simp
        have z0 := (HNc.out _ HGi.out).2
        have hsz : w5.heap.size ≤ wr.heap.size := HGi.out.low.size
        clear hnm hln hf htk
        go_wp2_with (at_make; refine wpList_make_full _ rfl _ _ 53 rfl wr.heap.size 5 i5 (.int .u8 0) 1 Tryz.underlying53 hi5 hz50 hz51 .i64 .i64 _ _ N2 rfl rfl rfl rfl (by rw [hz52]; omega) (by unfold maxLen; omega) (Nat.le_refl _) ?_)
        intro w7 hown7 hgrow7
        rw [made_bytes] at hown7
        have HD7 : Hid (Below wr.heap.size wr w7) := (Below.refl _ wr).grown hgrow7 (Nat.le_refl _) (by intro k hk; cases hk)
        have HO7 : Hid (w7.ownsRow wr.heap.size 5 1 (.slice (some ⟨wr.heap.size, 0, none⟩) N2 N2) N2 (byteVals (lettersB N2 0))) := by
          have e : lettersB N2 0 = List.replicate N2 0 := by simp [lettersB]
          rw [e]; exact hown7
        clear hown7 hgrow7 z0
        go_wp2_with fail
        generalize hwo : wr = wo at *
        clear hwo
        go_loopw [23] (fun jv wq => ∃ j : Nat, j ≤ N2 ∧ jv = .int .i64 j ∧ Below wo.heap.size wo wq ∧ wq.ownsRow wo.heap.size 5 1 (.slice (some ⟨wo.heap.size, 0, none⟩) N2 N2) N2 (byteVals (lettersB N2 j))) (fun jv _ => N2 - (intOf jv).toNat)
        case atStart => exact ⟨0, Nat.zero_le _, rfl, HD7.out, HO7.out⟩
        case round =>
          obtain ⟨j, hj1, rfl, hdq, hoq⟩ := hrel
          have HDq : Hid (Below wo.heap.size wo wr) := hdq
          have HOq : Hid (wr.ownsRow wo.heap.size 5 1 (.slice (some ⟨wo.heap.size, 0, none⟩) N2 N2) N2 (byteVals (lettersB N2 j))) := hoq
          clear hdq hoq HD7 HO7
          by_cases hlj : j < N2
          · have hdj : decide ((j : Int) < (N2 : Int)) = true := by simp; omega
            obtain ⟨cc, hcc⟩ : ∃ cc, (lettersB N2 j)[j]? = some cc := ⟨_, List.getElem?_eq_getElem (by rw [letters_len (by omega)]; exact hlj)⟩
            have y0 := (owned_cells HOq.out j (.int .u8 (cc.toNat : Int)) (by simp [byteVals, hcc])).1
            have yf := owned_free HOq.out j
            have HD8 : Hid (Below wo.heap.size wo (wr.setCell ⟨wo.heap.size, j, none⟩ (.int .u8 65))) := HDq.out.setCell (p := ⟨wo.heap.size, j, none⟩) (Nat.le_refl _) _
            have HO8 : Hid ((wr.setCell ⟨wo.heap.size, j, none⟩ (.int .u8 65)).ownsRow wo.heap.size 5 1 (.slice (some ⟨wo.heap.size, 0, none⟩) N2 N2) N2 (byteVals (lettersB N2 (j + 1)))) := by
              have h := owned_set HOq.out j (.int .u8 65)
              rw [show (Value.int .u8 65) = .int .u8 (((65 : UInt8).toNat : Nat) : Int) from rfl, byteVals_set, letters_next hlj] at h
              exact h
            clear hcc HDq HOq
            go_wp2
            go_roundw
            case rel => exact ⟨j + 1, by omega, by go_num, HD8.out, HO8.out⟩
            case measure => simp [intOf]; omega
          · have hdj : decide ((j : Int) < (N2 : Int)) = false := by simp; omega
            obtain rfl : j = N2 := by omega
            have hL : lettersB j j = List.replicate j 65 := by simp [lettersB]
            have HJd : Hid (GotAt w5 fs ys (.slice (some ⟨gn, 0, none⟩) nf nc) (.slice (some ⟨gi, 0, none⟩) nf ic) (.slice lo m lc) wr.drew ∧ wr.drew.ownsRow w5.heap.size 42 3 (.slice oo i oc) i (((fs.take i).map sqOf).flatMap sqRow)) := by
              have hb : Below wo.heap.size wo wr.drew := HDq.out.drew
              exact ⟨HGi.out.next hb, owned_below HOi.out hb⟩
            have n0 := (HNc.out _ HJd.out.1).1
            have n0o : ∀ o, (wr.alloc o).drew.cell? ⟨gn, i, none⟩ = some (.string f1) := fun o => (HNc.out _ (HJd.out.1.next (below_new wr.drew o))).1
            have hcv : (convert 53 9 (.slice (some ⟨wo.heap.size, 0, none⟩) j j)).run Tryz.prog wr.drew = .ok (.string (sqOf (f1, (j : Int))).2.2) wr.drew := by
              have ho : wr.drew.ownsRow wo.heap.size 5 1 (.slice (some ⟨wo.heap.size, 0, none⟩) j j) j (byteVals (List.replicate j 65)) := by
                have := owned_below HOq.out (Below.refl _ wr).drew
                rw [hL] at this; exact this
              have ho2 : wr.drew.ownsRow wo.heap.size 5 1 (.slice (some ⟨wo.heap.size, 0, none⟩) (List.replicate j (65 : UInt8)).length j) (List.replicate j (65 : UInt8)).length (byteVals (List.replicate j 65)) := by rw [List.length_replicate]; exact ho
              have h := owned_text ho2
              rw [List.length_replicate] at h
              exact h
            obtain ⟨lt, hlt2⟩ : ∃ lt : ByteArray, (sqOf (f1, (j : Int))).2.2 = lt := ⟨_, rfl⟩
            have hsq : sqOf (f1, (j : Int)) = (f1, ⟨#[]⟩, lt) := by rw [← hlt2]; rfl
            rw [hlt2] at hcv
            rw [hsq] at HTk
            have HJE : Hid (∀ o v' w9, w9.ownsRow w5.heap.size 42 3 v' (i + 1) (((fs.take i).map sqOf).flatMap sqRow ++ sqRow (f1, ⟨#[]⟩, lt)) → (wr.drew.alloc o).grownBy w9 (Value.slice oo i oc).ownBlock → Hid (GotAt w5 fs ys (.slice (some ⟨gn, 0, none⟩) nf nc) (.slice (some ⟨gi, 0, none⟩) nf ic) (.slice lo m lc) w9 ∧ w9.ownsRow w5.heap.size 42 3 v' (i + 1) (((fs.take (i + 1)).map sqOf).flatMap sqRow))) := by
              intro o v' w9 ho hg
              have hb := below_new wr.drew o
              refine ⟨(HJd.out.1.next hb).grown (owned_below HJd.out.2 hb) hg, ?_⟩
              rw [HTk.out]; exact ho
            have HJO : Hid (∀ o, (wr.drew.alloc o).ownsRow w5.heap.size 42 3 (.slice oo i oc) i (((fs.take i).map sqOf).flatMap sqRow)) := fun o => owned_below HJd.out.2 (below_new wr.drew o)
            have HJS : Hid (∀ o, w5.heap.size ≤ (wr.drew.alloc o).heap.size) := fun o => (HJd.out.1.next (below_new wr.drew o)).low.size
            clear hL hlt2 hsq HOq HDq HOi HGi HTk
            go_wp2_with fail
            go_region_law (first
              | (refine step_append_own rfl (.tmp 120) (.tmp 128) 39 rfl w5.heap.size 42 i4 _ 3 48 Tryz.underlying39 hi4 hz40 hz41 hz42 rfl (by decide) _ _ _ (by simp [Act.eval]) (HJO.out _) ⟨_, 0, none⟩ 1 1 (sqRow (f1, ⟨#[]⟩, lt)) (by simp [Act.eval]) rfl (cell_sq_new _ (f1, ⟨#[]⟩, lt)) (sq_one (f1, ⟨#[]⟩, lt)) (by unfold maxLen; omega) (by omega) (HJS.out _) ?_
                 intro v' w9 ho hg
                 have HE9 := HJE.out _ _ _ ho hg
                 obtain ⟨ao9, cap9, rfl⟩ := owned_shape ho
                 clear ho hg))
            all_goals (go_wp2; go_roundw; (case rel => exact ⟨i + 1, by omega, by go_num, HE9.out.1, HE9.out.2⟩); (case measure => simp [intOf]; omega))
      · have hdi : decide ((i : Int) < (nf : Int)) = false := by simp; omega
        obtain rfl : i = nf := by omega
        have HAll : Hid ((fs.take i).map sqOf = fs.map sqOf) := by
          show _ = _
          rw [List.take_of_length_le (by rw [HN.out]; exact Nat.le_refl _)]
        have HOa : Hid (wr.ownsRow w5.heap.size 42 3 (.slice oo i oc) i ((fs.map sqOf).flatMap sqRow)) := by
          have := HOi.out
          rw [HAll.out] at this; exact this
        have hbw : Below w.heap.size w wr := HB5.out.trans (HGi.out.low.mono HB5.out.size)
        have HPr : Hid (Calls Tryz.prog 19 #[.slice oo i oc, .slice lo m lc] wr fun e w' => TextPost (t.data.toList, 0) wr e w') := by
          have h3 := HGi.out.recs
          rw [HM.out] at h3
          have hc := printFile_calls oo i oc (fs.map sqOf) lo m lc ys wr (sqs_row HOa.out (fun q hq => by
            obtain ⟨f, hf, rfl⟩ := List.mem_map.1 hq
            obtain ⟨a1, a2, a3⟩ := HFi.out f hf
            refine ⟨by unfold maxLen; show f.1.size ≤ _; omega, by show 0 ≤ _; exact Nat.zero_le _, ?_⟩
            show (⟨(List.replicate f.2.toNat 65).toArray⟩ : ByteArray).size ≤ _
            rw [mk_size, List.length_replicate]; unfold maxLen; omega) h64) (recs_row h3 HGi.out.runs HGi.out.good HM.out h256) (HStd.out _ hbw)
          have e : (fs.map sqOf).map Sq.P = (fs.map Rv.P).map seqOf := by
            rw [List.map_map, List.map_map]
            exact List.map_congr_left (fun f _ => sqOf_P f)
          rw [e, HPP.out] at hc
          exact hc
        have HBw : Hid (Below w.heap.size w wr) := hbw
        clear hbw HOa HAll HOi HGi
        go_wp2_with fail
        refine HPr.out.mono ?_
        rintro e w8 ⟨u, rfl, hu, hb8⟩
        have HB8 : Hid (Below w.heap.size w w8) := HBw.out.trans (hb8.mono HBw.out.size)
        have hut : (u.toList == t.toList) = true := by rw [beq_iff_eq, ByteArray.toList_eq, ByteArray.toList_eq]; exact hu
        clear hb8 hu HPr HBw
        go_wp2
        go_ret
        exact ⟨rfl, HB8.out⟩

namespace samStrict
open Go.ChangeShapes Go.WideShapes Go.ChangeAt Go.RowKit
open Go.ChangeMaps (open_string shut_string)

theorem laidOut : laidOutB Tryz.prog = true := by kernel_rfl
theorem reads (os : Os) {H : Type} (enc : TypeId × Value → H) : ∃ places, DataW.whole enc Tryz.prog ((World.laidAll Tryz.prog os theLaid).forCall (fun _ _ => 0) ⟨#[], #[.slice none 0 0, .slice none 0 0, .int .i64 0], []⟩).memory Tryz.f8.params.toList Rows.samStrictSpec.vars false #[.slice none 0 0, .slice none 0 0, .int .i64 0].toList 8 = some ([.nil, .nil, .lit (.int .i64 0)], [], places) :=
  ⟨[], by kernel_rfl⟩

set_option maxRecDepth 100000 in
theorem lifted (os : Os) (started : os.Started) (H : Type) (enc : TypeId × Value → H) (F : Stop.Interp) :
    ReturnsInHanded {} Tryz.checked os 8 .any ((OpenSpec.ofChange Rows.samStrictSpec).preRow enc Tryz.prog Tryz.f8 Rows.samStrictRow.domain false Rows.samStrictRow.laid) (((OpenSpec.ofChange Rows.samStrictSpec).at F).post enc Tryz.prog Tryz.f8 false true false false) := by
  obtain ⟨places, hx⟩ := reads os enc
  refine returnsInHanded_of_row (C := Tryz.checked) (s := (OpenSpec.ofChange Rows.samStrictSpec)) own started (by kernel_rfl) Tryz.func8
    (witness_row_at (enc := enc) (C := Tryz.checked) false (World.laidAll Tryz.prog os theLaid) #[.slice none 0 0, .slice none 0 0, .int .i64 0] (World.laidAll_os _ _ _) (by kernel_rfl) (by kernel_rfl) (by kernel_rfl)
      (OpenSpec.preRow_of_cond 8 hx (by kernel_rfl) (fun k hk => by cases hk) (by kernel_rfl) (laid_met os _))) ?_
  intro W base args ds gs before hval0 hW _ hcond _ hL hSh _
  have hval : ∀ (j : Nat) t v, Tryz.f8.params[j]? = some t → args[j]? = some v → Value.okWide Tryz.prog W .any base t v := hval0
  have hW' := hW
  obtain ⟨p, q, hA0, hV, rfl, hfz, hnd⟩ := hW
  have hA : DataW.TrodAll enc Tryz.prog W 0 (fun _ => true) true Tryz.f8.params.toList args.toList ds p := hA0
  rw [Tryz.params8] at hA hval
  obtain ⟨v0, vs0, d0, ds0, p0, q0, hargs, rfl, rfl, h0, r0⟩ := trodAll_cons hA
  obtain ⟨v1, vs1, d1, ds1, p1, q1, rfl, rfl, rfl, h1, r1⟩ := trodAll_cons r0
  obtain ⟨v2, vs2, d2, ds2, p2, q2, rfl, rfl, rfl, h2, r2⟩ := trodAll_cons r1
  obtain ⟨rfl, rfl, rfl⟩ := trodAll_nil r2
  obtain rfl : args = #[v0, v1, v2] := by cases args; simp_all
  obtain ⟨rfl, rfl⟩ := trodVars_none hV
  obtain ⟨a0, len0, cap0, rfl⟩ := okWide_slice Tryz.underlying39 (hval 0 39 v0 rfl rfl)
  have k0 := h0
  have lt0 : ∀ x ∈ p0, x.block < W.heap.size := by obtain ⟨m, hm⟩ := k0; exact DataW.trod_lt m _ _ _ hm
  obtain ⟨z0, w0⟩ : ∃ l, SqsIn W a0 len0 cap0 l := by
    obtain ⟨fuel, hf⟩ := h0
    exact open_seqs hf
  obtain ⟨a1, len1, cap1, rfl⟩ := okWide_slice Tryz.underlying26 (hval 1 26 v1 rfl rfl)
  have k1 := h1
  have lt1 : ∀ x ∈ p1, x.block < W.heap.size := by obtain ⟨m, hm⟩ := k1; exact DataW.trod_lt m _ _ _ hm
  obtain ⟨z1, w1⟩ : ∃ l, RecsIn W a1 len1 cap1 l := by
    obtain ⟨fuel, hf⟩ := h1
    exact open_recs hf
  obtain ⟨a2, rfl, rfl, rfl, w2⟩ := open_int Tryz.underlying3 (hval 2 3 v2 rfl rfl) h2
  clear hA0 hval0
  refine (strict_walk a0 len0 cap0 z0 a1 len1 cap1 z1 a2 W (std_of_laid hL hSh) w0 w1 w2).mono fun e W' ⟨he, bel⟩ => ?_
  subst he
  exact ⟨_, rfl, _, _, _, [], _, [], hW', trodAll_mk1 (shut_bool Tryz.underlying4 _), (trodAll_cons_mk (Below.trod laidOut (by kernel_rfl) (of_decide_eq_true (by kernel_rfl)) k0 bel lt0) (trodAll_cons_mk (Below.trod laidOut (by kernel_rfl) (of_decide_eq_true (by kernel_rfl)) k1 bel lt1) (trodAll_cons_mk (shut_int Tryz.underlying3 w2) trodAll_mk0))), rfl, bel.frame _, fun h => by cases h⟩
end samStrict

theorem samStrict_holds : Rows.SamStrictSaid :=
  OpenClaim.holds_of_cond 8 Tryz.f8 rfl rfl rfl rfl rfl rfl rfl ⟨rfl, rfl, rfl, rfl, rfl⟩ rfl rfl rfl rfl rfl (by kernel_rfl) Tryz.func8 (by kernel_rfl)
    (of_decide_eq_true (by kernel_rfl)) (by unfold Func.isWrapper; first | (rw [if_pos (by decide +kernel)]; kernel_rfl) | (rw [if_neg (by decide +kernel)]; exact ⟨rfl, rfl⟩))
    (fun os started H enc _ F => by rw [OpenClaim.pre_eq_preRow]; exact samStrict.lifted os started H enc F)

theorem samStrictCard_holds : Rows.SamStrictCardSaid :=
  Claim7.holds_tied_plain_at .later [] _ _ _ _
    samStrict_holds (fun _ h => by cases h) (by kernel_rfl) (fun _ h => by cases h) samStrict_row_tie rfl ⟨rfl, rfl⟩ (by kernel_rfl) rfl
    (fun f fn hf hfn => by
      obtain rfl : f = 8 := Option.some.inj ((show Tryz.prog.funcNamed Rows.samStrictRow.func = some 8 by kernel_rfl).symm.trans hf) |>.symm
      obtain rfl : fn = Tryz.f8 := (Option.some.inj (Tryz.func8.symm.trans hfn)).symm
      exact ⟨by kernel_rfl, fun j t ht => by
        rw [Tryz.params8] at ht
        have hm : t ∈ [39, 26, 3] := by simpa using Array.mem_of_getElem? ht
        have hall : ([39, 26, 3].all fun u => !Tryz.prog.wantsStandIn u) = true := by kernel_rfl
        exact (show Tryz.prog.wantsStandIn t = false by simpa using List.all_eq_true.1 hall t hm)⟩)
    (by kernel_rfl)
end Go.Proofs.YtdhphipdpjhhbaaGreatDoor
