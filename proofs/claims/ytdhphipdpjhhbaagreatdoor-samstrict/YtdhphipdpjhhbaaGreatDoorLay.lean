/-
  The walk of sam's lay.
-/
import Derived.Test.YtdhphipdpjhhbaaGreatDoorLists
namespace Go.Proofs.YtdhphipdpjhhbaaGreatDoor
open Go.RowKit

def refsT (fs : List Rv) : List UInt8 := fs.flatMap fun f => refLine f.P ++ [10]
def recsT (xs : List Rl) : List UInt8 := xs.flatMap fun x => lineR x.R ++ [10]
def headL : List UInt8 := headT ++ [10]
def accR (fs : List Rv) (j : Nat) : List UInt8 := headL ++ refsT (fs.take j)
def accX (fs : List Rv) (xs : List Rl) (j : Nat) : List UInt8 := headL ++ refsT fs ++ recsT (xs.take j)
def layA (fs : List Rv) (xs : List Rl) : List UInt8 × Int := if 1048576 < (fileB (fs.map Rv.P, xs.map Rl.R)).length then ([], 2) else (fileB (fs.map Rv.P, xs.map Rl.R), 0)
theorem accX_file (fs : List Rv) (xs : List Rl) : accX fs xs xs.length = fileB (fs.map Rv.P, xs.map Rl.R) := by
  unfold accX fileB headL refsT recsT
  rw [List.take_length]
  simp [List.flatMap_map]
theorem accR_next {fs : List Rv} {k : Nat} {f : Rv} (h : fs[k]? = some f) : accR fs (k + 1) = accR fs k ++ (refLine f.P ++ [10]) := by
  obtain ⟨hlt, he⟩ := List.getElem?_eq_some_iff.1 h
  unfold accR refsT
  rw [List.take_succ_eq_append_getElem hlt, he]
  simp
theorem accX_next {fs : List Rv} {xs : List Rl} {k : Nat} {x : Rl} (h : xs[k]? = some x) : accX fs xs (k + 1) = accX fs xs k ++ (lineR x.R ++ [10]) := by
  obtain ⟨hlt, he⟩ := List.getElem?_eq_some_iff.1 h
  unfold accX recsT
  rw [List.take_succ_eq_append_getElem hlt, he]
  simp
theorem recsT_app (a b : List Rl) : recsT (a ++ b) = recsT a ++ recsT b := by simp [recsT]
theorem accX_len {fs : List Rv} {xs : List Rl} (j : Nat) : (accX fs xs j).length ≤ (accX fs xs xs.length).length := by
  unfold accX
  rw [List.take_length]
  conv => rhs; rw [← List.take_append_drop j xs, recsT_app]
  simp only [List.length_append]
  omega
theorem refLine_len {f : Rv} (h : f.1.size ≤ 64 ∧ 0 ≤ f.2 ∧ f.2 ≤ 65536) : (refLine f.P).length ≤ 100 := by
  have := Lib.itoa_length_le f.2 (by omega) (by omega)
  simp only [refLine, Rv.P, refMark, lenMark, List.length_append, size_toList, List.length_cons, List.length_nil]
  omega
theorem accR_len {fs : List Rv} (h : ∀ f ∈ fs, f.1.size ≤ 64 ∧ 0 ≤ f.2 ∧ f.2 ≤ 65536) : ∀ j, j ≤ fs.length → (accR fs j).length ≤ 23 + j * 101
  | 0, _ => by simp [accR, refsT, headL, headT]
  | j + 1, hj => by
    have hf := List.getElem?_eq_getElem (l := fs) (i := j) (by omega)
    rw [accR_next hf, List.length_append, List.length_append]
    have h1 := accR_len h j (by omega)
    have h2 := refLine_len (h _ (List.getElem_mem (h := by omega) : fs[j] ∈ fs))
    simp only [List.length_singleton]
    omega

set_option maxRecDepth 20000 in
set_option maxHeartbeats 4000000 in
theorem lay_calls (ao : Option Addr) (len cap : Nat) (fs : List Rv) (bo : Option Addr) (n cap2 : Nat) (xs : List Rl) (w : World) (hz : RefsAt w ao len fs) (hx : RecsAt w bo n xs) (hn : n ≤ 256)
    (hnm : ∀ f ∈ fs, f.1.size ≤ 64) (hr : ∀ x ∈ xs, rightR x.R = true) (hs : Std w) :
    Calls Tryz.prog 39 #[.slice ao len cap, .slice bo n cap2] w fun e w' => TextPost (layA fs xs) w e w' := by
  have hlm := hz.short
  have HZ : Hid (RefsAt w ao len fs) := hz
  have HZL : Hid (fs.length = len) := hz.length
  have HX : Hid (RecsAt w bo n xs) := hx
  have HXL : Hid (xs.length = n) := hx.length
  have HFin : Hid (∀ f ∈ fs, f.1.size ≤ 64 ∧ 0 ≤ f.2 ∧ f.2 ≤ 65536) := fun f hf => ⟨hnm f hf, (hz.fine f hf).2⟩
  have HR : Hid (∀ x ∈ xs, rightR x.R = true) := hr
  have HStd : Hid (∀ W, Below w.heap.size w W → Std W) := fun W hW => hs.below hW
  clear hz hx hnm hr hs
  go_enter Tryz.func39, Tryz.ntmps39
  go_wp2_with fail
  have HF0 : Hid (Lib.IsBuilder 105 5 w.heap.size w.heap.size (byteVals []) (w.alloc (.cells #[.pointer none, .slice none 0 0] 105))) := Lib.fresh_isBuilder 105 5 w
  refine (writeString_calls w.heap.size w.heap.size (byteVals []) ⟨#[64, 72, 68, 9, 86, 78, 58, 49, 46, 54, 9, 83, 79, 58, 117, 110, 115, 111, 114, 116, 101, 100, 10]⟩ _ HF0.out (by decide) (by simp)).mono ?_
  rintro e w1 ⟨rfl, hbu1, hb1, _⟩
  have HB1 : Hid (Lib.IsBuilder 105 5 w.heap.size w.heap.size (byteVals (accR fs 0)) w1 ∧ Below w.heap.size w w1) := ⟨by rw [show byteVals (accR fs 0) = byteVals [] ++ Lib.strCells ⟨#[64, 72, 68, 9, 86, 78, 58, 49, 46, 54, 9, 83, 79, 58, 117, 110, 115, 111, 114, 116, 101, 100, 10]⟩ from rfl]; exact hbu1, ((Below.refl _ w).alloc (Nat.le_refl _) _).trans hb1⟩
  clear hbu1 hb1 HF0
  go_wp2_with fail
  go_loopw [14] (fun i wr => ∃ j : Nat, j ≤ len ∧ i = .int .i64 j ∧ Lib.IsBuilder 105 5 w.heap.size w.heap.size (byteVals (accR fs j)) wr ∧ Below w.heap.size w wr) (fun i _ => len - (intOf i).toNat)
  case atStart => exact ⟨0, Nat.zero_le _, rfl, HB1.out.1, HB1.out.2⟩
  case round =>
    obtain ⟨j, hj, rfl, hbu, hbel⟩ := hrel
    have HBu : Hid (Lib.IsBuilder 105 5 w.heap.size w.heap.size (byteVals (accR fs j)) wr ∧ Below w.heap.size w wr) := ⟨hbu, hbel⟩
    have hsw : w.heap.size ≤ wr.heap.size := hbel.size
    clear hbu hbel HB1
    by_cases hlt : j < len
    · have hdk : decide ((j : Int) < (len : Int)) = true := by simp; omega
      obtain ⟨b, off, rfl, hcs⟩ := (HZ.out.below HBu.out.2).cells (by omega)
      obtain ⟨f, hf⟩ : ∃ f, fs[j]? = some f := ⟨_, List.getElem?_eq_getElem (by rw [HZL.out]; exact hlt)⟩
      obtain ⟨hc1, hc2⟩ := hcs j f hf
      obtain ⟨hf1, hf2, hf3⟩ := HFin.out f (List.mem_of_getElem? hf)
      have HNx : Hid (accR fs (j + 1) = accR fs j ++ (refLine f.P ++ [10])) := accR_next hf
      have hal := accR_len HFin.out j (by rw [HZL.out]; omega)
      have hrl := refLine_len (f := f) ⟨hf1, hf2, hf3⟩
      have HL : Hid (∀ W, Below w.heap.size w W → Calls Tryz.prog 68 #[.agg #[.string f.1, .int .i64 f.2]] W fun e w' => StrPost (refLine f.P) W e w') := fun W hW => refLine2_calls f W ⟨by omega, ⟨by omega, by omega⟩⟩ (HStd.out W hW)
      have HA : Hid (∀ o, Lib.IsBuilder 105 5 w.heap.size w.heap.size (byteVals (accR fs j)) (wr.alloc o) ∧ Below w.heap.size w (wr.alloc o)) := fun o => ⟨builder_below HBu.out.1 (below_new wr o), HBu.out.2.alloc HBu.out.2.size o⟩
      clear hcs hf HBu
      go_wp2_with fail
      refine (HL.out _ (HA.out _).2).mono ?_
      rintro e w3 ⟨t, rfl, ht, hb3⟩
      have hts : t.size ≤ 100 := by rw [← size_toList, ht]; exact hrl
      have HT : Hid (t.data.toList = refLine f.P) := ht
      have HB3 : Hid (Lib.IsBuilder 105 5 w.heap.size w.heap.size (byteVals (accR fs j)) w3 ∧ Below w.heap.size w w3) := ⟨builder_below (HA.out _).1 hb3, (HA.out _).2.trans (hb3.mono (HA.out _).2.size)⟩
      obtain ⟨u, hu, huc⟩ : ∃ u : ByteArray, u = t ++ ⟨#[10]⟩ ∧ ∀ W, (Op.stringOp .add t ⟨#[10]⟩).run Tryz.prog W = .ok (.string u) W := ⟨_, rfl, fun W => run_string_add_sum W _ _ (by show t.size + 1 ≤ _; omega)⟩
      have hus : u.size ≤ 101 := by rw [hu, ← size_toList, ba_append, List.length_append, size_toList]; show _ + 1 ≤ _; omega
      have HU : Hid (u.data.toList = refLine f.P ++ [10]) := by show _ = _; rw [hu, ba_append, HT.out]
      have hs3 : w.heap.size ≤ w3.heap.size := HB3.out.2.size
      clear hb3 ht HL HA hu hrl HT hts
      go_wp2_with fail
      refine (writeString_calls w.heap.size w.heap.size (byteVals (accR fs j)) u w3 HB3.out.1 (by rw [byteVals_length]; omega) hs3).mono ?_
      rintro e w4 ⟨rfl, hbu4, hb4, _⟩
      have HB4 : Hid (Lib.IsBuilder 105 5 w.heap.size w.heap.size (byteVals (accR fs (j + 1))) w4 ∧ Below w.heap.size w w4) := by
        refine ⟨?_, HB3.out.2.trans hb4⟩
        rw [HNx.out, byteVals_append, ← HU.out]
        exact hbu4
      clear hbu4 hb4 HB3 huc
      go_wp2
      go_roundw
      case rel => exact ⟨j + 1, by omega, by go_num, HB4.out.1, HB4.out.2⟩
      case measure => simp [intOf]; omega
    · have hdk : decide ((j : Int) < (len : Int)) = false := by simp; omega
      have hje : j = fs.length := by rw [HZL.out]; omega
      have hal := accR_len HFin.out j (by omega)
      have HB0 : Hid (Lib.IsBuilder 105 5 w.heap.size w.heap.size (byteVals (accX fs xs 0)) wr ∧ Below w.heap.size w wr) := by
        refine ⟨?_, HBu.out.2⟩
        have e : accX fs xs 0 = accR fs j := by unfold accX accR; rw [hje, List.take_length]; simp [recsT]
        rw [e]; exact HBu.out.1
      have hA0 : (accX fs xs 0).length ≤ 1048576 := by
        have e : accX fs xs 0 = accR fs j := by unfold accX accR; rw [hje, List.take_length]; simp [recsT]
        rw [e]; omega
      have HA0 : Hid ((accX fs xs 0).length ≤ 1048576) := hA0
      clear hje HBu hA0 hal
      go_wp2_with fail
      go_loopw [25] (fun i wq => ∃ k : Nat, k ≤ n ∧ i = .int .i64 k ∧ Lib.IsBuilder 105 5 w.heap.size w.heap.size (byteVals (accX fs xs k)) wq ∧ Below w.heap.size w wq ∧ Hid ((accX fs xs k).length ≤ 1048576)) (fun i _ => n - (intOf i).toNat)
      case atStart => exact ⟨0, Nat.zero_le _, rfl, HB0.out.1, HB0.out.2, HA0⟩
      case round =>
        obtain ⟨k, hk, rfl, hbu, hbel, HAk⟩ := hrel
        have HBu : Hid (Lib.IsBuilder 105 5 w.heap.size w.heap.size (byteVals (accX fs xs k)) wr ∧ Below w.heap.size w wr) := ⟨hbu, hbel⟩
        have hsr : w.heap.size ≤ wr.heap.size := hbel.size
        clear hbu hbel HB0 HA0
        by_cases hlk : k < n
        · have hdk2 : decide ((k : Int) < (n : Int)) = true := by simp; omega
          obtain ⟨b2, off2, rfl, hcs⟩ := (HX.out.below HBu.out.2).cells (by omega)
          obtain ⟨x, hxk⟩ : ∃ x, xs[k]? = some x := ⟨_, List.getElem?_eq_getElem (by rw [HXL.out]; exact hlk)⟩
          have hcx := hcs k x hxk
          have hmem := List.mem_of_getElem? hxk
          have hok := HX.out.fine x hmem
          have hrr := HR.out x hmem
          have HNx : Hid (accX fs xs (k + 1) = accX fs xs k ++ (lineR x.R ++ [10])) := accX_next hxk
          have HBig : Hid (1048576 < (accX fs xs (k + 1)).length → layA fs xs = ([], 2)) := fun h => by
            unfold layA
            rw [if_pos (by rw [← accX_file]; exact Nat.lt_of_lt_of_le h (accX_len _))]
          have hll := lineR_short hrr hok.score
          have HWr : Hid (∀ W, Below w.heap.size w W → Calls Tryz.prog 29 #[x.1.val] W fun e w' => ∃ f : FV, e = .returned f.val ∧ f.L = twelveF x.R ∧ Below W.heap.size W w') := fun W hW => write_calls x.1 x.2 W (hok.below hW) (HStd.out W hW)
          have HJn : Hid (∀ f : FV, f.L = twelveF x.R → ∀ W, Calls Tryz.prog 28 #[f.val] W fun e w' => StrPost (lineR x.R) W e w') := by
            intro f hf W
            obtain ⟨h1, h2⟩ := FV.L_inj hf
            obtain ⟨h3, h4⟩ := right_short hrr hok.score
            have := join_calls f W (by rw [← size_toList, h2]; omega) (by rw [h1]; have := tabs_short h3 (by simp [elevenF]); omega)
            rwa [joinV_line hf] at this
          have HA : Hid (∀ o, Lib.IsBuilder 105 5 w.heap.size w.heap.size (byteVals (accX fs xs k)) (wr.alloc o) ∧ Below w.heap.size w (wr.alloc o)) := fun o => ⟨builder_below HBu.out.1 (below_new wr o), HBu.out.2.alloc HBu.out.2.size o⟩
          have hal := HAk.out
          generalize lineR x.R = LR at *
          generalize x.R = XR at *
          obtain ⟨⟨nm, m, rf, p, ro, rl, rc, b, q, sc⟩, lx⟩ := x
          obtain ⟨c0, c1, c2, c3, c4, c5, c6, c7⟩ := hcx
          simp only [RV.val] at HWr
          clear hcs hxk HBu hmem hok hrr HAk
          generalize hac : accX fs xs k = acc at *
          clear hac
          go_wp2_with fail
          refine (HWr.out _ (HA.out _).2).mono ?_
          rintro e w3 ⟨f, rfl, hfL, hb3⟩
          have HB3 : Hid (Lib.IsBuilder 105 5 w.heap.size w.heap.size (byteVals acc) w3 ∧ Below w.heap.size w w3) := ⟨builder_below (HA.out _).1 hb3, (HA.out _).2.trans (hb3.mono (HA.out _).2.size)⟩
          have HJ2 : Hid (Calls Tryz.prog 28 #[f.val] w3 fun e w' => StrPost LR w3 e w') := HJn.out f hfL w3
          clear hb3 HWr HA HJn hfL c0 c1 c2 c3 c4 c5 c6 c7
          go_wp2_with fail
          refine HJ2.out.mono ?_
          rintro e w4 ⟨t, rfl, ht, hb4⟩
          have hts : t.size ≤ 34603548 := by rw [← size_toList, ht]; exact hll
          have HT : Hid (t.data.toList = LR) := ht
          have HB4 : Hid (Lib.IsBuilder 105 5 w.heap.size w.heap.size (byteVals acc) w4 ∧ Below w.heap.size w w4) := ⟨builder_below HB3.out.1 hb4, HB3.out.2.trans (hb4.mono HB3.out.2.size)⟩
          obtain ⟨u, hu, huc⟩ : ∃ u : ByteArray, u = t ++ ⟨#[10]⟩ ∧ ∀ W, (Op.stringOp .add t ⟨#[10]⟩).run Tryz.prog W = .ok (.string u) W := ⟨_, rfl, fun W => run_string_add_sum W _ _ (by show t.size + 1 ≤ _; omega)⟩
          have hus : u.size ≤ 34603549 := by rw [hu, ← size_toList, ba_append, List.length_append, size_toList]; show _ + 1 ≤ _; omega
          have HU : Hid (u.data.toList = LR ++ [10]) := by show _ = _; rw [hu, ba_append, HT.out]
          have hs4 : w.heap.size ≤ w4.heap.size := HB4.out.2.size
          clear hb4 ht HJ2 HB3 hu hll HT hts
          go_wp2_with fail
          refine (writeString_calls w.heap.size w.heap.size (byteVals acc) u w4 HB4.out.1 (by rw [byteVals_length]; omega) hs4).mono ?_
          rintro e w5 ⟨rfl, hbu5, hb5, _⟩
          have HB5 : Hid (Lib.IsBuilder 105 5 w.heap.size w.heap.size (byteVals (accX fs xs (k + 1))) w5 ∧ Below w.heap.size w w5) := by
            refine ⟨?_, HB4.out.2.trans hb5⟩
            rw [HNx.out, byteVals_append, ← HU.out]
            exact hbu5
          have HLe : Hid (Calls Tryz.prog 69 #[.pointer (some ⟨w.heap.size, 0, none⟩)] w5 fun e w' => e = .returned (.int .i64 (accX fs xs (k + 1)).length) ∧ w' = w5) := by
            have := Tryz.Builder_Len w.heap.size w.heap.size (byteVals (accX fs xs (k + 1))) w5 HB5.out.1
            rw [byteVals_length] at this; exact this
          have hln : (accX fs xs (k + 1)).length ≤ 40000000 := by rw [HNx.out, ← HU.out, List.length_append, size_toList]; omega
          clear hbu5 hb5 HB4 huc HU HNx hal hus
          by_cases hbg : 1048576 < (accX fs xs (k + 1)).length
          · have hdg : decide ((1048576 : Int) < ((accX fs xs (k + 1)).length : Int)) = true := decide_eq_true (by omega)
            have HE : Hid (TextPost (layA fs xs) w (.returned (.tuple #[.string ⟨#[]⟩, .int .i64 2])) w5) := text_post (HBig.out hbg) rfl HB5.out.2
            generalize (accX fs xs (k + 1)).length = al at *
            go_wp2_with (go_at_call 69; refine HLe.out.mono ?_; rintro e w' ⟨rfl, rfl⟩)
            go_ret2
            exact HE.out
          · have hdg : decide ((1048576 : Int) < ((accX fs xs (k + 1)).length : Int)) = false := decide_eq_false (by omega)
            have HS5 : Hid ((accX fs xs (k + 1)).length ≤ 1048576) := by show _ ≤ _; omega
            generalize hge : (accX fs xs (k + 1)).length = al at *
            go_wp2_with (go_at_call 69; refine HLe.out.mono ?_; rintro e w' ⟨rfl, rfl⟩)
            go_roundw
            case rel => exact ⟨k + 1, by omega, by go_num, HB5.out.1, HB5.out.2, by show _ ≤ _; rw [hge]; exact HS5.out⟩
            case measure => simp [intOf]; omega
        · have hdk2 : decide ((k : Int) < (n : Int)) = false := by simp; omega
          have hke : k = xs.length := by rw [HXL.out]; omega
          have HE : Hid (layA fs xs = (accX fs xs k, 0)) := by
            show layA fs xs = _
            have hl := HAk.out
            rw [hke, accX_file] at hl
            unfold layA
            rw [if_neg (by omega), hke, accX_file]
          have HS : Hid (Calls Tryz.prog 70 #[.pointer (some ⟨w.heap.size, 0, none⟩)] wr fun e w' => e = .returned (.string ⟨(accX fs xs k).toArray⟩) ∧ Below w.heap.size wr w') := Tryz.Builder_String_any w.heap.size w.heap.size (accX fs xs k) wr HBu.out.1 hsr
          clear hke HAk
          go_wp2_with (go_at_call 70; refine HS.out.mono ?_; rintro e w3 ⟨rfl, hb3⟩)
          go_ret2
          exact text_post HE.out (mk_list _) (HBu.out.2.trans hb3)
end Go.Proofs.YtdhphipdpjhhbaaGreatDoor
