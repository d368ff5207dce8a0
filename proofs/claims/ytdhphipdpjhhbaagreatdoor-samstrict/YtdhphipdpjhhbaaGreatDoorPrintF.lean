/-
  The walk of sam's Print.
-/
import Derived.Test.YtdhphipdpjhhbaaGreatDoorLay
import Derived.Test.YtdhphipdpjhhbaaGreatDoorKnow
namespace Go.Proofs.YtdhphipdpjhhbaaGreatDoor
open Go.RowKit

theorem allFit_take {refs : List Rf} {xs : List Rl} {k : Nat} {x : Rl} (h : xs[k]? = some x) (hb : rightR x.R = false ∨ fitsB refs x.R = false) : allFit refs (xs.map Rl.R) = false := by
  unfold allFit
  rw [List.all_eq_false]
  refine ⟨x.R, List.mem_map.2 ⟨x, List.mem_of_getElem? h, rfl⟩, ?_⟩
  rcases hb with h | h <;> simp [h]
theorem print_long {qs : List Sqp} {l : List Rec} (h : 64 < qs.length ∨ 256 < l.length) : printF qs l = ([], 2) := by rw [printF, if_pos h]
theorem print_refs {qs : List Sqp} {l : List Rec} (h : ¬ (64 < qs.length ∨ 256 < l.length)) (hk : knowB qs = none) : printF qs l = ([], 50) := by rw [printF, if_neg h, hk]
theorem print_bad {qs : List Sqp} {l : List Rec} {k : List Rf} (h : ¬ (64 < qs.length ∨ 256 < l.length)) (hk : knowB qs = some k) (ha : allFit k l = false) : printF qs l = ([], 51) := by rw [printF, if_neg h, hk]; simp only [ha, if_true]
theorem print_lay {qs : List Sqp} {fs : List Rv} {xs : List Rl} (h : ¬ (64 < qs.length ∨ 256 < (xs.map Rl.R).length)) (hk : knowB qs = some (fs.map Rv.P)) (ha : allFit (fs.map Rv.P) (xs.map Rl.R) = true) : printF qs (xs.map Rl.R) = layA fs xs := by
  rw [printF, if_neg h, hk]
  simp only [ha, Bool.true_eq_false, if_false]
  rfl

set_option maxRecDepth 20000 in
set_option maxHeartbeats 2000000 in
theorem printFile_calls (ao : Option Addr) (len cap : Nat) (qs : List Sq) (bo : Option Addr) (n cap2 : Nat) (xs : List Rl) (w : World) (hz : SqsAt w ao len qs) (hx : RecsAt w bo n xs) (hs : Std w) :
    Calls Tryz.prog 19 #[.slice ao len cap, .slice bo n cap2] w fun e w' => TextPost (printF (qs.map Sq.P) (xs.map Rl.R)) w e w' := by
  have hlm := hz.short
  have hnm := hx.short
  unfold maxLen at hlm hnm
  have HZ : Hid (SqsAt w ao len qs) := hz
  have HZL : Hid ((qs.map Sq.P).length = len) := by show _ = _; rw [List.length_map]; exact hz.length
  have HX : Hid (RecsAt w bo n xs) := hx
  have HXL : Hid (xs.length = n) := hx.length
  have HXM : Hid ((xs.map Rl.R).length = n) := by show _ = _; rw [List.length_map]; exact hx.length
  have HStd : Hid (∀ W, Below w.heap.size w W → Std W) := fun W hW => hs.below hW
  clear hz hx hs
  by_cases hlong : 64 < len ∨ 256 < n
  · have HE : Hid (TextPost (printF (qs.map Sq.P) (xs.map Rl.R)) w (.returned (.tuple #[.string ⟨#[]⟩, .int .i64 2])) w) := text_post (print_long (by rw [HZL.out, HXM.out]; exact hlong)) rfl (Below.refl _ _)
    have hd : decide ((64 : Int) < (len : Int)) = true ∨ (decide ((64 : Int) < (len : Int)) = false ∧ decide ((256 : Int) < (n : Int)) = true) := by
      simp only [decide_eq_true_eq, decide_eq_false_iff_not]; omega
    rcases hd with hd | ⟨hd, hd2⟩ <;> (
      go_enter Tryz.func19, Tryz.ntmps19
      go_wp2
      go_ret2
      exact HE.out)
  have hd : decide ((64 : Int) < (len : Int)) = false := by simp; omega
  have hd2 : decide ((256 : Int) < (n : Int)) = false := by simp; omega
  have HNL : Hid (¬ (64 < (qs.map Sq.P).length ∨ 256 < (xs.map Rl.R).length)) := by show ¬ _; rw [HZL.out, HXM.out]; exact hlong
  have HKn : Hid (Calls Tryz.prog 37 #[.slice ao len cap] w fun e w' => KnowPost (knowB (qs.map Sq.P)) w e w') := know_calls ao len cap qs w HZ.out (by omega)
  have hn256 : n ≤ 256 := by omega
  clear hlong
  go_enter Tryz.func19, Tryz.ntmps19
  go_wp2_with fail
  refine HKn.out.mono ?_
  rintro e w1 ⟨v, fs, rfl, hfs, hown, hf64, hfine, hb1⟩
  clear HKn
  cases hk : knowB (qs.map Sq.P) with
  | none =>
    have HE : Hid (TextPost (printF (qs.map Sq.P) (xs.map Rl.R)) w (.returned (.tuple #[.string ⟨#[]⟩, .int .i64 50])) w1) := text_post (print_refs HNL.out hk) rfl hb1
    clear hfs hown hfine hb1 hk
    go_wp2
    go_ret2
    exact HE.out
  | some kn =>
    have hkn := hfs kn hk
    subst hkn
    have HK : Hid (knowB (qs.map Sq.P) = some (fs.map Rv.P)) := hk
    obtain ⟨vo, vc, rfl⟩ := owned_shape hown
    have HO : Hid (w1.ownsRow w.heap.size 83 2 (.slice vo fs.length vc) fs.length (refCells fs) ∧ Below w.heap.size w w1) := ⟨hown, hb1⟩
    have HFi : Hid (∀ f ∈ fs, rvOk f ∧ f.1.size ≤ 64) := hfine
    clear hfs hown hfine hb1 hk
    go_wp2_with fail
    go_loopw [27] (fun i wr => ∃ k : Nat, k ≤ n ∧ i = .int .i64 k ∧ wr.ownsRow w.heap.size 83 2 (.slice vo fs.length vc) fs.length (refCells fs) ∧ Below w.heap.size w wr ∧ ∀ x ∈ xs.take k, rightR x.R = true ∧ fitsB (fs.map Rv.P) x.R = true) (fun i _ => n - (intOf i).toNat)
    case atStart => exact ⟨0, Nat.zero_le _, rfl, HO.out.1, HO.out.2, by simp⟩
    case round =>
      obtain ⟨k, hk, rfl, hown, hbel, hall⟩ := hrel
      have HOr : Hid (wr.ownsRow w.heap.size 83 2 (.slice vo fs.length vc) fs.length (refCells fs) ∧ Below w.heap.size w wr) := ⟨hown, hbel⟩
      have HAl : Hid (∀ x ∈ xs.take k, rightR x.R = true ∧ fitsB (fs.map Rv.P) x.R = true) := hall
      have hsw : w.heap.size ≤ wr.heap.size := hbel.size
      clear hown hbel hall HO
      by_cases hlt : k < n
      · have hdk : decide ((k : Int) < (n : Int)) = true := by simp; omega
        obtain ⟨b2, off2, rfl, hcs⟩ := (HX.out.below HOr.out.2).cells (by omega)
        obtain ⟨x, hxk⟩ : ∃ x, xs[k]? = some x := ⟨_, List.getElem?_eq_getElem (by rw [HXL.out]; exact hlt)⟩
        have hcx := hcs k x hxk
        have hok := HX.out.fine x (List.mem_of_getElem? hxk)
        have HBad : Hid (rightR x.R = false ∨ fitsB (fs.map Rv.P) x.R = false → printF (qs.map Sq.P) (xs.map Rl.R) = ([], 51)) := fun h => print_bad HNL.out HK.out (allFit_take hxk h)
        have HNx : Hid (rightR x.R = true → fitsB (fs.map Rv.P) x.R = true → ∀ y ∈ xs.take (k + 1), rightR y.R = true ∧ fitsB (fs.map Rv.P) y.R = true) := by
          intro h1 h2 y hy
          obtain ⟨hl, he⟩ := List.getElem?_eq_some_iff.1 hxk
          rw [List.take_succ_eq_append_getElem hl, he] at hy
          rcases List.mem_append.1 hy with hy | hy
          · exact HAl.out y hy
          · simp at hy; subst hy; exact ⟨h1, h2⟩
        have HIs : Hid (∀ W, Below w.heap.size w W → Calls Tryz.prog 27 #[x.1.val] W fun e w' => e = .returned (.bool (rightR x.R)) ∧ Below W.heap.size W w') := fun W hW => isRight_calls x.1 x.2 W (hok.below hW)
        have HFt : Hid (∀ W, Below w.heap.size w W → W.ownsRow w.heap.size 83 2 (.slice vo fs.length vc) fs.length (refCells fs) → rightR x.R = true → Calls Tryz.prog 38 #[.slice vo fs.length vc, x.1.val] W fun e w' => e = .returned (.bool (fitsB (fs.map Rv.P) x.R)) ∧ Below W.heap.size W w') := fun W hW ho hr => fits_calls vo fs.length vc fs x.1 x.2 W (owned_refs ho hf64 (fun f hf => (HFi.out f hf).1)) (hok.below hW) hr
        have HA : Hid (∀ o, (wr.alloc o).ownsRow w.heap.size 83 2 (.slice vo fs.length vc) fs.length (refCells fs) ∧ Below w.heap.size w (wr.alloc o)) := fun o => ⟨owned_below HOr.out.1 (below_new wr o), HOr.out.2.alloc HOr.out.2.size o⟩
        generalize x.R = XR at *
        obtain ⟨⟨nm, m, rf, p, ro, rl, rc, b, q, sc⟩, lx⟩ := x
        obtain ⟨c0, c1, c2, c3, c4, c5, c6, c7⟩ := hcx
        simp only [RV.val] at HIs HFt
        clear hcs hxk hok HAl HOr
        go_wp2_with fail
        refine (HIs.out _ (HA.out _).2).mono ?_
        rintro e w3 ⟨rfl, hb3⟩
        have HB3 : Hid (w3.ownsRow w.heap.size 83 2 (.slice vo fs.length vc) fs.length (refCells fs) ∧ Below w.heap.size w w3 ∧ w3.heap[wr.heap.size]? = some (.cells #[.string nm, .bool m, .string rf, .int .i64 p, .slice ro rl rc, .string b, .string q, .int .i64 sc] 24 (0, 0))) := ⟨owned_below (HA.out _).1 hb3, (HA.out _).2.trans (hb3.mono (HA.out _).2.size), keepB (heap_alloc_new wr _) hb3⟩
        clear hb3 HIs HA c0 c1 c2 c3 c4 c5 c6 c7
        cases hR : rightR XR with
        | false =>
          have HE : Hid (TextPost (printF (qs.map Sq.P) (xs.map Rl.R)) w (.returned (.tuple #[.string ⟨#[]⟩, .int .i64 51])) w3) := text_post (HBad.out (.inl hR)) rfl HB3.out.2.1
          clear HBad HNx HFt hR
          go_wp2
          go_ret2
          exact HE.out
        | true =>
          have d0 : w3.cell? ⟨wr.heap.size, 0, none⟩ = some (.string nm) := cellB HB3.out.2.2 rfl
          have d1 : w3.cell? ⟨wr.heap.size, 1, none⟩ = some (.bool m) := cellB HB3.out.2.2 rfl
          have d2 : w3.cell? ⟨wr.heap.size, 2, none⟩ = some (.string rf) := cellB HB3.out.2.2 rfl
          have d3 : w3.cell? ⟨wr.heap.size, 3, none⟩ = some (.int .i64 p) := cellB HB3.out.2.2 rfl
          have d4 : w3.cell? ⟨wr.heap.size, 4, none⟩ = some (.slice ro rl rc) := cellB HB3.out.2.2 rfl
          have d5 : w3.cell? ⟨wr.heap.size, 5, none⟩ = some (.string b) := cellB HB3.out.2.2 rfl
          have d6 : w3.cell? ⟨wr.heap.size, 6, none⟩ = some (.string q) := cellB HB3.out.2.2 rfl
          have d7 : w3.cell? ⟨wr.heap.size, 7, none⟩ = some (.int .i64 sc) := cellB HB3.out.2.2 rfl
          have HF2 := HFt.out w3 HB3.out.2.1 HB3.out.1 hR
          have HF2' : Hid (Calls Tryz.prog 38 #[.slice vo fs.length vc, .agg #[.string nm, .bool m, .string rf, .int .i64 p, .slice ro rl rc, .string b, .string q, .int .i64 sc]] w3 fun e w' => e = .returned (.bool (fitsB (fs.map Rv.P) XR)) ∧ Below w3.heap.size w3 w') := HF2
          clear HFt HF2
          go_wp2_with fail
          refine HF2'.out.mono ?_
          rintro e w4 ⟨rfl, hb4⟩
          have HB4 : Hid (w4.ownsRow w.heap.size 83 2 (.slice vo fs.length vc) fs.length (refCells fs) ∧ Below w.heap.size w w4) := ⟨owned_below HB3.out.1 hb4, HB3.out.2.1.trans (hb4.mono HB3.out.2.1.size)⟩
          clear hb4 HF2' HB3 d0 d1 d2 d3 d4 d5 d6 d7
          cases hF : fitsB (fs.map Rv.P) XR with
          | false =>
            have HE : Hid (TextPost (printF (qs.map Sq.P) (xs.map Rl.R)) w (.returned (.tuple #[.string ⟨#[]⟩, .int .i64 51])) w4) := text_post (HBad.out (.inr hF)) rfl HB4.out.2
            clear HBad HNx hR hF
            go_wp2
            go_ret2
            exact HE.out
          | true =>
            have HN2 := HNx.out hR hF
            have HN3 : Hid (∀ y ∈ xs.take (k + 1), rightR y.R = true ∧ fitsB (fs.map Rv.P) y.R = true) := HN2
            clear HBad HNx hR hF HN2
            go_wp2
            go_roundw
            case rel => exact ⟨k + 1, by omega, by go_num, HB4.out.1, HB4.out.2, HN3.out⟩
            case measure => simp [intOf]; omega
      · have hdk : decide ((k : Int) < (n : Int)) = false := by simp; omega
        have hall : ∀ x ∈ xs, rightR x.R = true ∧ fitsB (fs.map Rv.P) x.R = true := by
          have := HAl.out
          rwa [List.take_of_length_le (by rw [HXL.out]; omega)] at this
        have HE : Hid (printF (qs.map Sq.P) (xs.map Rl.R) = layA fs xs) := print_lay HNL.out HK.out (by
          unfold allFit
          rw [List.all_eq_true]
          intro r hr
          obtain ⟨x, hx, rfl⟩ := List.mem_map.1 hr
          simp [hall x hx])
        have HLy : Hid (Calls Tryz.prog 39 #[.slice vo fs.length vc, .slice bo n cap2] wr fun e w' => TextPost (layA fs xs) wr e w') := lay_calls vo fs.length vc fs bo n cap2 xs wr (owned_refs HOr.out.1 hf64 (fun f hf => (HFi.out f hf).1)) (HX.out.below HOr.out.2) hn256 (fun f hf => (HFi.out f hf).2) (fun x hx => (hall x hx).1) (HStd.out wr HOr.out.2)
        clear hall
        go_wp2_with fail
        refine HLy.out.mono ?_
        rintro e w5 ⟨t, rfl, ht, hb5⟩
        have HP : Hid (TextPost (printF (qs.map Sq.P) (xs.map Rl.R)) w (.returned (.tuple #[.string t, .int .i64 (layA fs xs).2])) w5) := ⟨t, by rw [HE.out], by rw [HE.out]; exact ht, HOr.out.2.trans (hb5.mono HOr.out.2.size)⟩
        clear hb5 ht HLy HE
        go_wp2
        go_ret2
        exact HP.out
end Go.Proofs.YtdhphipdpjhhbaaGreatDoor
