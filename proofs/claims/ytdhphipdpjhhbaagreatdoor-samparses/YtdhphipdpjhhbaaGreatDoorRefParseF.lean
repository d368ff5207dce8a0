/-
  The walk of the document's own Parse.
-/
import Derived.Test.YtdhphipdpjhhbaaGreatDoorReferred
import Derived.Test.YtdhphipdpjhhbaaGreatDoorParseW
namespace Go.Proofs.YtdhphipdpjhhbaaGreatDoor
open Go.RowKit

/-- Names, lengths and records that are laid down one by one. -/
structure GpAt (w : World) (ns : List ByteArray) (zs : List Int) (xs : List Rl) (vn vi vl : Value) (W : World) : Prop where
  low : Below w.heap.size w W
  names : W.ownsRow w.heap.size 9 1 vn ns.length (strVals ns)
  lens : W.ownsRow w.heap.size 3 1 vi zs.length (intVals zs)
  recs : W.ownsRow w.heap.size 24 8 vl xs.length ((xs.map (·.1)).flatMap rvRow)
  runs : ∀ x ∈ xs, W.ownsRow w.heap.size 37 2 x.1.runsV x.2.length (rowCells x.2)
  apart : xs.Pairwise fun x y => ∀ g, x.1.runsV.ownBlock = some g → y.1.runsV.ownBlock ≠ some g
  good : ∀ x ∈ xs, SmR x.R
theorem GpAt.next {w : World} {ns : List ByteArray} {zs : List Int} {xs : List Rl} {vn vi vl : Value} {W W' : World} (h : GpAt w ns zs xs vn vi vl W) (hb : Below W.heap.size W W') : GpAt w ns zs xs vn vi vl W' :=
  ⟨h.low.trans (hb.mono h.low.size), owned_below h.names hb, owned_below h.lens hb, owned_below h.recs hb, fun x hx => owned_below (h.runs x hx) hb, h.apart, h.good⟩
theorem GpAt.name {w : World} {ns : List ByteArray} {zs : List Int} {xs : List Rl} {vn vi vl v' : Value} {W W' : World} {a : ByteArray} {o : Obj} (h : GpAt w ns zs xs vn vi vl W) (ho : W'.ownsRow w.heap.size 9 1 v' (ns.length + 1) (strVals ns ++ [.string a])) (hg : (W.alloc o).grownBy W' vn.ownBlock) : GpAt w (ns ++ [a]) zs xs v' vi vl W' := by
  have h1 := h.next (below_new W o)
  exact ⟨h1.low.grown hg h1.low.size (fun k hk => (h1.names.lt k hk).1), by rw [strVals_snoc, List.length_append]; exact ho, owned_grown h1.lens h1.names (by decide) hg, owned_grown h1.recs h1.names (by decide) hg, fun x hx => owned_grown (h1.runs x hx) h1.names (by decide) hg, h.apart, h.good⟩
theorem GpAt.len {w : World} {ns : List ByteArray} {zs : List Int} {xs : List Rl} {vn vi vl v' : Value} {W W' : World} {a : Int} {o : Obj} (h : GpAt w ns zs xs vn vi vl W) (ho : W'.ownsRow w.heap.size 3 1 v' (zs.length + 1) (intVals zs ++ [.int .i64 a])) (hg : (W.alloc o).grownBy W' vi.ownBlock) : GpAt w ns (zs ++ [a]) xs vn v' vl W' := by
  have h1 := h.next (below_new W o)
  exact ⟨h1.low.grown hg h1.low.size (fun k hk => (h1.lens.lt k hk).1), owned_grown h1.names h1.lens (by decide) hg, by rw [intVals_snoc, List.length_append]; exact ho, owned_grown h1.recs h1.lens (by decide) hg, fun x hx => owned_grown (h1.runs x hx) h1.lens (by decide) hg, h.apart, h.good⟩
theorem GpAt.recd {w : World} {ns : List ByteArray} {zs : List Int} {xs : List Rl} {vn vi vl v' : Value} {W W' : World} {x : Rl} {o : Obj} (h : GpAt w ns zs xs vn vi vl W) (ho : W'.ownsRow w.heap.size 24 8 v' (xs.length + 1) ((xs.map (·.1)).flatMap rvRow ++ rvRow x.1)) (hg : (W.alloc o).grownBy W' vl.ownBlock)
    (hr : W.ownsRow w.heap.size 37 2 x.1.runsV x.2.length (rowCells x.2)) (hnew : ∀ y ∈ xs, ∀ g, y.1.runsV.ownBlock = some g → x.1.runsV.ownBlock ≠ some g) (hs : SmR x.R) : GpAt w ns zs (xs ++ [x]) vn vi v' W' := by
  have hbn := below_new W o
  have h1 := h.next hbn
  refine ⟨h1.low.grown hg h1.low.size (fun k hk => (h1.recs.lt k hk).1), owned_grown h1.names h1.recs (by decide) hg, owned_grown h1.lens h1.recs (by decide) hg, ?_, ?_, ?_, ?_⟩
  · rw [List.map_append, List.flatMap_append, List.length_append]
    simpa using ho
  · intro y hy
    rcases List.mem_append.1 hy with hy | hy
    · exact owned_grown (h1.runs y hy) h1.recs (by decide) hg
    · simp at hy; subst hy
      exact owned_grown (owned_below hr hbn) h1.recs (by decide) hg
  · rw [List.pairwise_append]
    refine ⟨h.apart, by simp, fun y hy z hz g hgy => ?_⟩
    simp at hz; subst hz
    exact hnew y hy g hgy
  · intro y hy
    rcases List.mem_append.1 hy with hy | hy
    · exact h.good y hy
    · simp at hy; subst hy; exact hs
/-- Taking a line in, as the document takes it. -/
theorem takeB_ref {f : Fl} {k : Nat} {l : List UInt8} {y : Rf} (hk : k ≠ 1) (h : refLineB l = some y) : takeB f k l = if f.2 ≠ [] ∨ f.1.length = 64 then none else if (findB f.1 y.1).isSome then none else some (f.1 ++ [y], f.2) := by
  rw [takeB, if_neg hk, if_pos (refLineB_at h), takeRefB]
  simp only [h]
theorem takeB_rec {f : Fl} {k : Nat} {l : List UInt8} (hk : k ≠ 1) (h : refLineB l = none) : takeB f k l = takeRecB f l := by
  rw [takeB, if_neg hk]
  split
  · rename_i h64
    have hr : recB l = none := by
      cases hr : recB l with
      | none => rfl
      | some r => exact absurd h64 (recB_at hr)
    rw [takeRefB, takeRecB, h, hr]
    simp
  · rfl
theorem rec_of_ref {l : List UInt8} {y : Rf} (h : refLineB l = some y) : recB l = none := by
  cases hr : recB l with
  | none => rfl
  | some r => exact absurd (refLineB_at h) (recB_at hr)
theorem head_ref : refLineB headT = none := by
  cases h : refLineB headT with
  | none => rfl
  | some y =>
    have h2 := cuts_ref h
    have h3 : (cuts 9 headT) = [[64, 72, 68], [86, 78, 58, 49, 46, 54], [83, 79, 58, 117, 110, 115, 111, 114, 116, 101, 100]] := by decide
    rw [h3] at h2
    injection h2 with h2
    exact absurd h2 (by decide)
theorem head_rec : recB headT = none := by
  cases h : recB headT with
  | none => rfl
  | some r => exact absurd rfl (recB_at h)
theorem refParseLong_calls (s : ByteArray) (w : World) (hs : 1048576 < s.size) :
    Calls Tryz.prog 22 #[.string s] w fun e w' => e = .returned (.tuple #[.slice none 0 0, .slice none 0 0, .slice none 0 0, .int .i64 0, .int .i64 2]) ∧ w' = w := by
  have hd : decide ((s.size : Int) > 1048576) = true := by simp; omega
  go_enter Tryz.func22, Tryz.ntmps22
  go_wp2
  refine bodyPost_ret (v := .tuple #[.slice none 0 0, .slice none 0 0, .slice none 0 0, .int .i64 0, .int .i64 2]) (by simp [results, Tryz.results22, go_sem]) rfl ⟨rfl, rfl⟩

set_option maxRecDepth 20000 in
set_option maxHeartbeats 8000000 in
theorem refParseFile_calls (s : ByteArray) (w : World) (hs : s.size ≤ 1048576) :
    Calls Tryz.prog 22 #[.string s] w fun e w' => ParsePost (parseF s.data.toList) w e w' := by
  have hd : decide ((s.size : Int) > 1048576) = false := by simp; omega
  have HS0 : Hid (parseF s.data.toList = goF ([], []) 1 (cutsGo 10 (mid s 0 0) (s.data.toList.drop 0))) := by
    show parseF _ = _
    rw [mid_none s 0 0 (Nat.le_refl _)]; rfl
  generalize parseF s.data.toList = R at *
  obtain ⟨i9, hi9, hz90, hz91, hz92⟩ := info_parts info9
  obtain ⟨i3, hi3, hz30, hz31, hz32⟩ := info_parts info3
  obtain ⟨i2, hi2, hz20, hz21, hz22⟩ := info_parts info24
  have HG0 : Hid (GpAt w [] [] [] (.slice none 0 0) (.slice none 0 0) (.slice none 0 0) w) := ⟨Below.refl _ _, World.ownsRow_nil _ _ _ _, World.ownsRow_nil _ _ _ _, World.ownsRow_nil _ _ _ _, (fun x hx => by cases hx), List.Pairwise.nil, (fun x hx => by cases hx)⟩
  go_enter Tryz.func22, Tryz.ntmps22
  go_wp2_with fail
  go_loopw [7, 8, 9, 10, 11, 12] (fun vn vi vl kv fv iv wr => ∃ (fs : List Rv) (xs : List Rl) (k f i : Nat), kv = .int .i64 k ∧ fv = .int .i64 f ∧ iv = .int .i64 i ∧ k ≤ f ∧ f ≤ i ∧ i ≤ s.size ∧ fs.length ≤ 64 ∧ xs.length ≤ 256 ∧ GpAt w (fs.map (·.1)) (fs.map (·.2)) xs vn vi vl wr ∧ (∀ f ∈ fs, rvOk f) ∧ R = goF (fs.map Rv.P, xs.map Rl.R) (k + 1) (cutsGo 10 (mid s f i) (s.data.toList.drop i))) (fun _ _ _ _ _ iv _ => s.size - (intOf iv).toNat)
  case atStart => exact ⟨[], [], 0, 0, 0, rfl, rfl, rfl, Nat.le_refl _, Nat.le_refl _, Nat.zero_le _, by decide, by decide, HG0.out, (fun x hx => by cases hx), HS0.out⟩
  case round =>
    obtain ⟨fs, xs, k, f, i, rfl, rfl, rfl, hkf, hfi, his, hfew, hmany, hgp, hfine, hR⟩ := hrel
    obtain ⟨no, nc, hvn⟩ := owned_shape hgp.names
    obtain ⟨io, ic, hvi⟩ := owned_shape hgp.lens
    obtain ⟨lo, lc, hvl⟩ := owned_shape hgp.recs
    rw [List.length_map] at hvn hvi
    obtain ⟨n, hn⟩ : ∃ n, fs.length = n := ⟨_, rfl⟩
    obtain ⟨m, hm⟩ : ∃ m, xs.length = m := ⟨_, rfl⟩
    rw [hn] at hfew hvn hvi
    rw [hm] at hmany hvl
    subst hvn hvi hvl
    have HN : Hid (fs.length = n) := hn
    have HM : Hid (xs.length = m) := hm
    have HG : Hid (GpAt w (fs.map (·.1)) (fs.map (·.2)) xs (.slice no n nc) (.slice io n ic) (.slice lo m lc) wr) := hgp
    have HFi : Hid (∀ f ∈ fs, rvOk f) := hfine
    have HR : Hid (R = goF (fs.map Rv.P, xs.map Rl.R) (k + 1) (cutsGo 10 (mid s f i) (s.data.toList.drop i))) := hR
    clear hgp hfine hR hn hm HG0 HS0
    by_cases hlt : i < s.size
    · have hdi : decide ((i : Int) < (s.size : Int)) = true := by simp; omega
      by_cases hc : s[i] = 10
      · have hd2 : ((s[i].toNat : Int) != 10) = false := by rw [hc]; rfl
        have hsl := slice_run s f i hfi (by omega)
        obtain ⟨x, hx⟩ : ∃ x, s.extract f i = x := ⟨_, rfl⟩
        have hxl : x.data.toList = mid s f i := by rw [← hx]; exact extract_mid s f i
        have hxs : x.size ≤ 1048576 := by
          rw [← size_toList, hxl, mid, List.length_drop, List.length_take, size_toList]; omega
        rw [hx] at hsl
        have HR2 : Hid (R = goF (fs.map Rv.P, xs.map Rl.R) (k + 1) (x.data.toList :: cutsGo 10 (mid s (i + 1) (i + 1)) (s.data.toList.drop (i + 1)))) := by
          show R = _
          rw [HR.out, cuts_push 10 s f i hlt hc, hxl]
        have hrest : cutsGo 10 (mid s (i + 1) (i + 1)) (s.data.toList.drop (i + 1)) ≠ [] := by
          rw [mid_none s (i + 1) (i + 1) (Nat.le_refl _)]; exact cuts_ne _ _
        have HBad : Hid (takeB (fs.map Rv.P, xs.map Rl.R) (k + 1) x.data.toList = none → R = .inr (k + 1)) := fun h => by rw [HR2.out, goF_wrong _ _ _ _ hrest h]
        have HGo : Hid (∀ F, takeB (fs.map Rv.P, xs.map Rl.R) (k + 1) x.data.toList = some F → R = goF F (k + 1 + 1) (cutsGo 10 (mid s (i + 1) (i + 1)) (s.data.toList.drop (i + 1)))) := fun F h => by rw [HR2.out, goF_step _ _ _ _ _ hrest h]
        clear hx hxl hrest HR2 HR hc
        go_wp2_with fail
        refine (referred_calls x _ hxs).mono ?_
        rintro e w1 ⟨nm, z, ok, rfl, hok, hfx, hb1⟩
        have HOk : Hid (ok = (refLineB x.data.toList).isSome ∧ (∀ y, refLineB x.data.toList = some y → Rv.P (nm, z) = y)) := ⟨hok, hfx⟩
        have HG1 : Hid (GpAt w (fs.map (·.1)) (fs.map (·.2)) xs (.slice no n nc) (.slice io n ic) (.slice lo m lc) w1) := HG.out.next hb1
        clear hok hfx hb1 HG
        go_wp2_with fail
        refine (refRecord_calls x _ hxs).mono ?_
        rintro e w2 ⟨v, rfl, hvR, hown, hb2⟩
        have HG2 : Hid (GpAt w (fs.map (·.1)) (fs.map (·.2)) xs (.slice no n nc) (.slice io n ic) (.slice lo m lc) w2) := HG1.out.next hb2
        have HOld : Hid (∀ y ∈ xs, ∀ g, y.1.runsV.ownBlock = some g → g < w1.heap.size) := fun y hy g hg => ((HG1.out.runs y hy).lt g hg).2
        have hBW : w.heap.size ≤ w1.heap.size := HG1.out.low.size
        generalize w1.heap.size = B at *
        obtain ⟨vnm, vm, vrf, vp, vao, vlen, vcap, vb, vq, vs⟩ := v
        have HVR : Hid (RV.R ⟨vnm, vm, vrf, vp, vao, vlen, vcap, vb, vq, vs⟩ (recA x.data.toList).1.runs = (recA x.data.toList).1) := hvR
        have HJ3 : Hid (GpAt w (fs.map (·.1)) (fs.map (·.2)) xs (.slice no n nc) (.slice io n ic) (.slice lo m lc) (w2.alloc (.cells #[.string vnm, .bool vm, .string vrf, .int .i64 vp, .slice vao vlen vcap, .string vb, .string vq, .int .i64 vs] 24)) ∧ (w2.alloc (.cells #[.string vnm, .bool vm, .string vrf, .int .i64 vp, .slice vao vlen vcap, .string vb, .string vq, .int .i64 vs] 24)).heap[w2.heap.size]? = some (.cells #[.string vnm, .bool vm, .string vrf, .int .i64 vp, .slice vao vlen vcap, .string vb, .string vq, .int .i64 vs] 24 (0, 0)) ∧ (w2.alloc (.cells #[.string vnm, .bool vm, .string vrf, .int .i64 vp, .slice vao vlen vcap, .string vb, .string vq, .int .i64 vs] 24)).ownsRow B 37 2 (RV.runsV ⟨vnm, vm, vrf, vp, vao, vlen, vcap, vb, vq, vs⟩) (recA x.data.toList).1.runs.length (rowCells (recA x.data.toList).1.runs)) := ⟨HG2.out.next (below_new _ _), heap_alloc_new w2 _, owned_below hown (below_new _ _)⟩
        clear hvR hown hb2 HG2 HG1
        simp only [RV.val]
        go_wp2_with fail
        generalize hw3 : w2.alloc (.cells #[.string vnm, .bool vm, .string vrf, .int .i64 vp, .slice vao vlen vcap, .string vb, .string vq, .int .i64 vs] 24) = w3 at *
        clear hw3
        generalize w2.heap.size = g at *
        have hnm := HJ3.out.1.names
        rw [List.length_map, HN.out] at hnm
        refine (place_calls no n nc fs nm w3 (owned_strs hnm hfew)).mono ?_
        rintro e w4 ⟨pz, rfl, hpl, hw4⟩
        have HPl : Hid ((pz < 0 ∧ findB (fs.map Rv.P) nm.data.toList = none) ∨ ∃ (k' : Nat) (f' : Rv), pz = k' ∧ fs[k']? = some f' ∧ findB (fs.map Rv.P) nm.data.toList = some f'.P) := hpl
        subst hw4
        clear hnm hpl
        have HB4 : Hid (Below w.heap.size w w4) := HJ3.out.1.low
        cases hr : refLineB x.data.toList with
        | some y =>
          have hok : ok = true := by rw [HOk.out.1, hr]; rfl
          have hP := HOk.out.2 y hr
          subst hok
          have hrec := rec_of_ref hr
          have hA := recA_none hrec
          rw [hA]
          simp only
          by_cases hk0 : k = 0
          · have hkb : ((k : Int) + 1 == 1) = true := by rw [beq_iff_eq]; omega
            have hT : ¬ x.data.toList = headT := fun e => by rw [e, head_ref] at hr; cases hr
            have hT1 : (x.toList == [64, 72, 68, 9, 86, 78, 58, 49, 46, 54, 9, 83, 79, 58, 117, 110, 115, 111, 114, 116, 101, 100]) = false := by rw [beq_eq_false_iff_ne, ByteArray.toList_eq]; exact hT
            have HE : Hid (R = .inr 1) := by
              subst hk0
              exact HBad.out (by rw [takeB, if_pos rfl, if_neg hT])
            clear hk0 hT hr hP hrec hA HJ3 HVR HOk HPl
            go_wp2
            refine bodyPost_ret (v := .tuple #[.slice none 0 0, .slice none 0 0, .slice none 0 0, .int .i64 1, .int .i64 50]) (by simp [results, Tryz.results22, go_sem]) rfl ⟨HB4.out, .inl ⟨1, HE.out, rfl⟩⟩
          · have hkb : ((k : Int) + 1 == 1) = false := by rw [beq_eq_false_iff_ne]; omega
            have HTk : Hid (takeB (fs.map Rv.P, xs.map Rl.R) (k + 1) x.data.toList = if (xs.map Rl.R) ≠ [] ∨ (fs.map Rv.P).length = 64 then none else if (findB (fs.map Rv.P) nm.data.toList).isSome then none else some (fs.map Rv.P ++ [Rv.P (nm, z)], xs.map Rl.R)) := by
              show takeB _ _ _ = _
              rw [takeB_ref (by omega) hr, ← hP]; rfl
            have HOky : Hid (refOk (Rv.P (nm, z))) := by
              show refOk _
              rw [hP]; exact (refLineB_spec hr).1
            clear hk0 hr hP hrec hA HVR HOk
            rcases HPl.out with ⟨hp0, hfn⟩ | ⟨k', f', rfl, _, hfs⟩
            case inr =>
              have hdp : decide ((k' : Int) < 0) = false := by simp
              have HE : Hid (R = .inr (k + 1)) := HBad.out (by
                rw [HTk.out]
                split
                · rfl
                · rw [hfs]; rfl)
              clear hfs HTk HPl HJ3
              go_wp2
              refine bodyPost_ret (v := .tuple #[.slice none 0 0, .slice none 0 0, .slice none 0 0, .int .i64 ((k : Int) + 1), .int .i64 50]) (by simp [results, Tryz.results22, go_sem]) rfl ⟨HB4.out, .inl ⟨k + 1, HE.out, by rw [show ((k + 1 : Nat) : Int) = (k : Int) + 1 by omega]⟩⟩
            have hdp : decide (pz < 0) = true := by simp [hp0]
            by_cases hn64 : n < 64
            case neg =>
              have hdn : decide ((n : Int) < 64) = false := by simp; omega
              have HE : Hid (R = .inr (k + 1)) := HBad.out (by rw [HTk.out, if_pos (.inr (by rw [List.length_map, HN.out]; omega))])
              clear hfn HTk HPl HJ3 hn64
              go_wp2
              refine bodyPost_ret (v := .tuple #[.slice none 0 0, .slice none 0 0, .slice none 0 0, .int .i64 ((k : Int) + 1), .int .i64 50]) (by simp [results, Tryz.results22, go_sem]) rfl ⟨HB4.out, .inl ⟨k + 1, HE.out, by rw [show ((k + 1 : Nat) : Int) = (k : Int) + 1 by omega]⟩⟩
            have hdn : decide ((n : Int) < 64) = true := by simp; omega
            by_cases hm0 : m = 0
            case neg =>
              have hdm : ((m : Int) == 0) = false := by rw [beq_eq_false_iff_ne]; omega
              have HE : Hid (R = .inr (k + 1)) := HBad.out (by
                rw [HTk.out, if_pos (.inl (fun e => by
                  have := congrArg List.length e
                  rw [List.length_map, HM.out] at this
                  exact hm0 this))])
              clear hfn HTk HPl HJ3
              go_wp2
              refine bodyPost_ret (v := .tuple #[.slice none 0 0, .slice none 0 0, .slice none 0 0, .int .i64 ((k : Int) + 1), .int .i64 50]) (by simp [results, Tryz.results22, go_sem]) rfl ⟨HB4.out, .inl ⟨k + 1, HE.out, by rw [show ((k + 1 : Nat) : Int) = (k : Int) + 1 by omega]⟩⟩
            have hdm : ((m : Int) == 0) = true := by rw [beq_iff_eq]; omega
            have HE : Hid (R = goF (fs.map Rv.P ++ [Rv.P (nm, z)], xs.map Rl.R) (k + 1 + 1) (cutsGo 10 (mid s (i + 1) (i + 1)) (s.data.toList.drop (i + 1)))) := HGo.out _ (by
              rw [HTk.out, if_neg, hfn]
              · rfl
              · intro hor
                rcases hor with hor | hor
                · exact hor (List.length_eq_zero_iff.1 (by rw [List.length_map, HM.out]; exact hm0))
                · rw [List.length_map, HN.out] at hor; omega)
            have hrv : rvOk (nm, z) := by
              obtain ⟨h1, h2⟩ := HOky.out
              have h3 := name_short h1
              have h4 : nm.size ≤ 64 := by rw [← size_toList]; exact h3
              have h5 : 1 ≤ z := h2.1
              exact ⟨by show nm.size ≤ _; omega, by show 0 ≤ z; omega, h2.2⟩
            have HRv : Hid (rvOk (nm, z)) := hrv
            have HO1 : w4.ownsRow w.heap.size 9 1 (.slice no n nc) n (strVals (fs.map (·.1))) := by have := HJ3.out.1.names; rw [List.length_map, HN.out] at this; exact this
            have hs4 : w.heap.size ≤ w4.heap.size := HB4.out.size
            clear hfn HTk HPl hrv HOky HBad HGo hm0
            go_wp2_with (at_builtin; go_loud (refine wpList_append_own _ rfl _ _ 46 rfl w.heap.size 9 i9 (.string ⟨#[]⟩) 1 16 Tryz.underlying46 hi9 hz90 hz91 hz92 rfl (by decide) (.slice no n nc) _ _ rfl (HO1.alloc _) ⟨_, 0, none⟩ 1 1 [.string nm] rfl rfl (cell_one_new _ _) (str_one _) ?c3 ?c4 ?c5 ?_))
            case c3 => unfold maxLen; omega
            case c4 => omega
            case c5 => first | omega | (simp; omega)
            intro vn2 w5 ho5 hg5 _
            have HG5 : Hid (GpAt w (fs.map (·.1) ++ [nm]) (fs.map (·.2)) xs vn2 (.slice io n ic) (.slice lo m lc) w5) := HJ3.out.1.name (by rw [List.length_map, HN.out]; exact ho5) hg5
            clear ho5 hg5 HO1 HJ3
            have HO3 : w5.ownsRow w.heap.size 3 1 (.slice io n ic) n (intVals (fs.map (·.2))) := by have := HG5.out.lens; rw [List.length_map, HN.out] at this; exact this
            have hs5 : w.heap.size ≤ w5.heap.size := HG5.out.low.size
            go_wp2_with (at_builtin; go_loud (refine wpList_append_own _ rfl _ _ 47 rfl w.heap.size 3 i3 (.int .i64 0) 1 8 Tryz.underlying47 hi3 hz30 hz31 hz32 rfl (by decide) (.slice io n ic) _ _ rfl (HO3.alloc _) ⟨_, 0, none⟩ 1 1 [.int .i64 z] rfl rfl (cell_int_new _ _) (int_one _) ?c3 ?c4 ?c5 ?_))
            case c3 => unfold maxLen; omega
            case c4 => omega
            case c5 => first | omega | (simp; omega)
            intro vi2 w6 ho6 hg6 _
            have HG6 : Hid (GpAt w ((fs ++ [((nm, z) : Rv)]).map (·.1)) ((fs ++ [((nm, z) : Rv)]).map (·.2)) xs vn2 vi2 (.slice lo m lc) w6) := by
              have h := HG5.out.len (by rw [List.length_map, HN.out]; exact ho6) hg6
              show GpAt _ _ _ _ _ _ _ _
              rw [List.map_append, List.map_append]
              exact h
            clear ho6 hg6 HO3 HG5
            go_wp2
            go_roundw
            case rel => exact ⟨fs ++ [((nm, z) : Rv)], xs, k + 1, i + 1, i + 1, by go_num, by go_num, by go_num, by omega, by omega, by omega, by rw [List.length_append, HN.out]; show n + 1 ≤ 64; omega, by rw [HM.out]; exact hmany, HG6.out, (fun q hq => by
              rcases List.mem_append.1 hq with hq | hq
              · exact HFi.out q hq
              · simp at hq; subst hq; exact HRv.out), by rw [List.map_append]; exact HE.out⟩
            case measure => simp [intOf]; omega
        | none =>
          have hok : ok = false := by rw [HOk.out.1, hr]; rfl
          subst hok
          clear HOk HPl
          cases hrec : recB x.data.toList with
          | none =>
            have hA := recA_none hrec
            rw [hA]
            simp only
            by_cases hk0 : k = 0
            · have hkb : ((k : Int) + 1 == 1) = true := by rw [beq_iff_eq]; omega
              by_cases hT : x.data.toList = headT
              · have hT1 : (x.toList == [64, 72, 68, 9, 86, 78, 58, 49, 46, 54, 9, 83, 79, 58, 117, 110, 115, 111, 114, 116, 101, 100]) = true := by rw [beq_iff_eq, ByteArray.toList_eq]; exact hT
                have HE : Hid (R = goF (fs.map Rv.P, xs.map Rl.R) (k + 1 + 1) (cutsGo 10 (mid s (i + 1) (i + 1)) (s.data.toList.drop (i + 1)))) := HGo.out _ (by rw [takeB, if_pos (by omega), if_pos hT])
                have HG4 : Hid (GpAt w (fs.map (·.1)) (fs.map (·.2)) xs (.slice no n nc) (.slice io n ic) (.slice lo m lc) w4) := HJ3.out.1
                clear hT hr hrec hA HJ3 HVR HBad HGo hk0
                go_wp2
                go_roundw
                case rel => exact ⟨fs, xs, k + 1, i + 1, i + 1, by go_num, by go_num, by go_num, by omega, by omega, by omega, by rw [HN.out]; exact hfew, by rw [HM.out]; exact hmany, HG4.out, HFi.out, HE.out⟩
                case measure => simp [intOf]; omega
              · have hT1 : (x.toList == [64, 72, 68, 9, 86, 78, 58, 49, 46, 54, 9, 83, 79, 58, 117, 110, 115, 111, 114, 116, 101, 100]) = false := by rw [beq_eq_false_iff_ne, ByteArray.toList_eq]; exact hT
                have HE : Hid (R = .inr 1) := by
                  subst hk0
                  exact HBad.out (by rw [takeB, if_pos rfl, if_neg hT])
                clear hk0 hT hr hrec hA HJ3 HVR
                go_wp2
                refine bodyPost_ret (v := .tuple #[.slice none 0 0, .slice none 0 0, .slice none 0 0, .int .i64 1, .int .i64 50]) (by simp [results, Tryz.results22, go_sem]) rfl ⟨HB4.out, .inl ⟨1, HE.out, rfl⟩⟩
            · have hkb : ((k : Int) + 1 == 1) = false := by rw [beq_eq_false_iff_ne]; omega
              have HE : Hid (R = .inr (k + 1)) := HBad.out (by
                rw [takeB_rec (by omega) hr, takeRecB, hrec]
                simp)
              clear hk0 hr hrec hA HJ3 HVR HBad HGo
              go_wp2
              refine bodyPost_ret (v := .tuple #[.slice none 0 0, .slice none 0 0, .slice none 0 0, .int .i64 ((k : Int) + 1), .int .i64 50]) (by simp [results, Tryz.results22, go_sem]) rfl ⟨HB4.out, .inl ⟨k + 1, HE.out, by rw [show ((k + 1 : Nat) : Int) = (k : Int) + 1 by omega]⟩⟩
          | some r =>
            obtain ⟨hright, hfit, _⟩ := recB_spec hrec
            have hA : recA x.data.toList = (r, 0) := recA_some hrec
            rw [hA] at HVR HJ3
            rw [hA]
            simp only at HVR HJ3
            simp only
            have HSm : Hid (SmR r) := right_sm hright hfit
            have hnm := HJ3.out.1.names
            have hln := HJ3.out.1.lens
            rw [List.length_map, HN.out] at hnm hln
            have HFt : Hid (Calls Tryz.prog 42 #[.slice no n nc, .slice io n ic, .agg #[.string vnm, .bool vm, .string vrf, .int .i64 vp, .slice vao vlen vcap, .string vb, .string vq, .int .i64 vs]] w4 fun e w' => e = .returned (.bool (fitsB (fs.map Rv.P) r)) ∧ Below w4.heap.size w4 w') := by
              have hc := refFits_calls no io n nc ic fs ⟨vnm, vm, vrf, vp, vao, vlen, vcap, vb, vq, vs⟩ r.runs w4 (owned_strs hnm hfew) (owned_ints hln hfew) (sm_ok HSm.out HVR.out HJ3.out.2.2).1 HFi.out
              rw [HVR.out, hright, Bool.true_and] at hc
              exact hc
            obtain ⟨d0, d1, d2, d3, d4, d5, d6, d7⟩ := cells8 HJ3.out.2.1
            clear hnm hln hright hfit hA
            by_cases hk0 : k = 0
            · have hkb : ((k : Int) + 1 == 1) = true := by rw [beq_iff_eq]; omega
              have hT : ¬ x.data.toList = headT := fun e => by rw [e, head_rec] at hrec; cases hrec
              have hT1 : (x.toList == [64, 72, 68, 9, 86, 78, 58, 49, 46, 54, 9, 83, 79, 58, 117, 110, 115, 111, 114, 116, 101, 100]) = false := by rw [beq_eq_false_iff_ne, ByteArray.toList_eq]; exact hT
              have HE : Hid (R = .inr 1) := by
                subst hk0
                exact HBad.out (by rw [takeB, if_pos rfl, if_neg hT])
              clear hk0 hT hr hrec HVR HBad HGo HJ3
              go_wp2_with fail
              refine HFt.out.mono ?_
              rintro e w5 ⟨rfl, hb5⟩
              have HB5 : Hid (Below w.heap.size w w5) := HB4.out.trans (hb5.mono HB4.out.size)
              clear hb5 HFt d0 d1 d2 d3 d4 d5 d6 d7
              go_wp2
              refine bodyPost_ret (v := .tuple #[.slice none 0 0, .slice none 0 0, .slice none 0 0, .int .i64 1, .int .i64 50]) (by simp [results, Tryz.results22, go_sem]) rfl ⟨HB5.out, .inl ⟨1, HE.out, rfl⟩⟩
            · have hkb : ((k : Int) + 1 == 1) = false := by rw [beq_eq_false_iff_ne]; omega
              have HTk : Hid (takeB (fs.map Rv.P, xs.map Rl.R) (k + 1) x.data.toList = if (xs.map Rl.R).length = 256 then none else if fitsB (fs.map Rv.P) r then some (fs.map Rv.P, xs.map Rl.R ++ [r]) else none) := by
                show takeB _ _ _ = _
                rw [takeB_rec (by omega) hr, takeRecB, hrec]
              clear hk0 hr hrec
              go_wp2_with fail
              refine HFt.out.mono ?_
              rintro e w5 ⟨rfl, hb5⟩
              have HJ5 : Hid (GpAt w (fs.map (·.1)) (fs.map (·.2)) xs (.slice no n nc) (.slice io n ic) (.slice lo m lc) w5 ∧ w5.heap[g]? = some (.cells #[.string vnm, .bool vm, .string vrf, .int .i64 vp, .slice vao vlen vcap, .string vb, .string vq, .int .i64 vs] 24 (0, 0)) ∧ w5.ownsRow B 37 2 (RV.runsV ⟨vnm, vm, vrf, vp, vao, vlen, vcap, vb, vq, vs⟩) r.runs.length (rowCells r.runs)) := ⟨HJ3.out.1.next hb5, keepB HJ3.out.2.1 hb5, owned_below HJ3.out.2.2 hb5⟩
              clear hb5 HFt d0 d1 d2 d3 d4 d5 d6 d7 HJ3
              cases hft : fitsB (fs.map Rv.P) r with
              | false =>
                have HE : Hid (R = .inr (k + 1)) := HBad.out (by
                  rw [HTk.out, hft]
                  simp)
                clear HTk hft HBad HGo
                go_wp2
                refine bodyPost_ret (v := .tuple #[.slice none 0 0, .slice none 0 0, .slice none 0 0, .int .i64 ((k : Int) + 1), .int .i64 50]) (by simp [results, Tryz.results22, go_sem]) rfl ⟨HJ5.out.1.low, .inl ⟨k + 1, HE.out, by rw [show ((k + 1 : Nat) : Int) = (k : Int) + 1 by omega]⟩⟩
              | true =>
                by_cases hm256 : m < 256
                case neg =>
                  have hdm : decide ((m : Int) < 256) = false := by simp; omega
                  have HE : Hid (R = .inr (k + 1)) := HBad.out (by rw [HTk.out, if_pos (by rw [List.length_map, HM.out]; omega)])
                  clear HTk hft HBad HGo
                  go_wp2
                  refine bodyPost_ret (v := .tuple #[.slice none 0 0, .slice none 0 0, .slice none 0 0, .int .i64 ((k : Int) + 1), .int .i64 50]) (by simp [results, Tryz.results22, go_sem]) rfl ⟨HJ5.out.1.low, .inl ⟨k + 1, HE.out, by rw [show ((k + 1 : Nat) : Int) = (k : Int) + 1 by omega]⟩⟩
                have hdm : decide ((m : Int) < 256) = true := by simp; omega
                have HE : Hid (R = goF (fs.map Rv.P, xs.map Rl.R ++ [r]) (k + 1 + 1) (cutsGo 10 (mid s (i + 1) (i + 1)) (s.data.toList.drop (i + 1)))) := HGo.out _ (by
                  rw [HTk.out, if_neg (by rw [List.length_map, HM.out]; omega), hft]
                  rfl)
                have HO5 : w5.ownsRow w.heap.size 24 8 (.slice lo m lc) m ((xs.map (·.1)).flatMap rvRow) := by have := HJ5.out.1.recs; rw [HM.out] at this; exact this
                have hs5 : w.heap.size ≤ w5.heap.size := HJ5.out.1.low.size
                obtain ⟨d0, d1, d2, d3, d4, d5, d6, d7⟩ := cells8 HJ5.out.2.1
                clear HTk hft HBad HGo
                go_wp2_with (at_builtin; go_loud (refine wpList_append_own _ rfl _ _ 26 rfl w.heap.size 24 i2 (.agg #[.string ⟨#[]⟩, .bool false, .string ⟨#[]⟩, .int .i64 0, .slice none 0 0, .string ⟨#[]⟩, .string ⟨#[]⟩, .int .i64 0]) 8 112 Tryz.underlying26 hi2 hz20 hz21 hz22 rfl (by decide) (.slice lo m lc) _ _ rfl (HO5.alloc _) ⟨_, 0, none⟩ 1 1 (rvRow ⟨vnm, vm, vrf, vp, vao, vlen, vcap, vb, vq, vs⟩) rfl rfl (cell_rv_new _ ⟨vnm, vm, vrf, vp, vao, vlen, vcap, vb, vq, vs⟩) (rv_one ⟨vnm, vm, vrf, vp, vao, vlen, vcap, vb, vq, vs⟩) ?c3 ?c4 ?c5 ?_))
                case c3 => unfold maxLen; omega
                case c4 => omega
                case c5 => first | omega | (simp; omega)
                intro vl2 w6 ho6 hg6 _
                have HG6 : Hid (GpAt w (fs.map (·.1)) (fs.map (·.2)) (xs ++ [((⟨vnm, vm, vrf, vp, vao, vlen, vcap, vb, vq, vs⟩ : RV), r.runs)]) (.slice no n nc) (.slice io n ic) vl2 w6) := by
                  refine HJ5.out.1.recd (x := (⟨vnm, vm, vrf, vp, vao, vlen, vcap, vb, vq, vs⟩, r.runs)) (by rw [HM.out]; exact ho6) hg6 (owned_low HJ5.out.2.2 hBW) (fun y hy g' hgy e => ?_) ?_
                  · have h1 := HOld.out y hy g' hgy
                    have h2 := (HJ5.out.2.2.lt g' e).1
                    omega
                  · show SmR (RV.R ⟨vnm, vm, vrf, vp, vao, vlen, vcap, vb, vq, vs⟩ r.runs); rw [HVR.out]; exact HSm.out
                have HE2 : Hid (R = goF (fs.map Rv.P, (xs ++ [((⟨vnm, vm, vrf, vp, vao, vlen, vcap, vb, vq, vs⟩ : RV), r.runs)]).map Rl.R) (k + 1 + 1) (cutsGo 10 (mid s (i + 1) (i + 1)) (s.data.toList.drop (i + 1)))) := by
                  show R = _
                  rw [HE.out, List.map_append]
                  show _ = goF (_, _ ++ [RV.R ⟨vnm, vm, vrf, vp, vao, vlen, vcap, vb, vq, vs⟩ r.runs]) _ _
                  rw [HVR.out]
                clear ho6 hg6 HO5 HJ5 d0 d1 d2 d3 d4 d5 d6 d7 HE
                go_wp2
                go_roundw
                case rel => exact ⟨fs, xs ++ [((⟨vnm, vm, vrf, vp, vao, vlen, vcap, vb, vq, vs⟩ : RV), r.runs)], k + 1, i + 1, i + 1, by go_num, by go_num, by go_num, by omega, by omega, by omega, by rw [HN.out]; exact hfew, by rw [List.length_append, HM.out]; show m + 1 ≤ 256; omega, HG6.out, HFi.out, HE2.out⟩
                case measure => simp [intOf]; omega
      · have hd2 : ((s[i].toNat : Int) != 10) = true := by
          rw [bne_iff_ne]
          intro e
          exact hc (UInt8.toNat_inj.1 (by rw [show (10 : UInt8).toNat = 10 from rfl]; omega))
        have HR2 : Hid (R = goF (fs.map Rv.P, xs.map Rl.R) (k + 1) (cutsGo 10 (mid s f (i + 1)) (s.data.toList.drop (i + 1)))) := by
          show R = _
          rw [HR.out, cuts_cont 10 s f i hfi hlt hc]
        clear hc HR
        go_wp2
        go_roundw
        case rel => exact ⟨fs, xs, k, f, i + 1, rfl, rfl, by go_num, hkf, by omega, by omega, by rw [HN.out]; exact hfew, by rw [HM.out]; exact hmany, HG.out, HFi.out, HR2.out⟩
        case measure => simp [intOf]; omega
    · have hdi : decide ((i : Int) < (s.size : Int)) = false := by simp; omega
      have HR2 : Hid (R = goF (fs.map Rv.P, xs.map Rl.R) (k + 1) [mid s f i]) := by
        show R = _
        rw [HR.out, cuts_last 10 s f i (by omega)]
      clear HR
      by_cases hfl : f < s.size
      · have hdf : decide ((f : Int) < (s.size : Int)) = true := by simp; omega
        have HE : Hid (R = .inr (k + 1)) := by
          show R = _
          rw [HR2.out]
          simp only [goF]
          rw [if_neg]
          rintro ⟨h1, _⟩
          have := congrArg List.length h1
          rw [mid, List.length_drop, List.length_take, size_toList] at this
          simp at this; omega
        clear HR2
        go_wp2
        refine bodyPost_ret (v := .tuple #[.slice none 0 0, .slice none 0 0, .slice none 0 0, .int .i64 ((k : Int) + 1), .int .i64 50]) (by simp [results, Tryz.results22, go_sem]) rfl ⟨HG.out.low, .inl ⟨k + 1, HE.out, by rw [show ((k + 1 : Nat) : Int) = (k : Int) + 1 by omega]⟩⟩
      · have hdf : decide ((f : Int) < (s.size : Int)) = false := by simp; omega
        by_cases hk0 : k = 0
        · have hdk : ((k : Int) == 0) = true := by rw [beq_iff_eq]; omega
          have HE : Hid (R = .inr (k + 1)) := by
            show R = _
            rw [HR2.out]
            simp only [goF]
            rw [if_neg (by omega)]
          clear HR2 hk0
          go_wp2
          refine bodyPost_ret (v := .tuple #[.slice none 0 0, .slice none 0 0, .slice none 0 0, .int .i64 ((k : Int) + 1), .int .i64 50]) (by simp [results, Tryz.results22, go_sem]) rfl ⟨HG.out.low, .inl ⟨k + 1, HE.out, by rw [show ((k + 1 : Nat) : Int) = (k : Int) + 1 by omega]⟩⟩
        · have hdk : ((k : Int) == 0) = false := by rw [beq_eq_false_iff_ne]; omega
          have HE : Hid (R = .inl (fs.map Rv.P, xs.map Rl.R)) := by
            show R = _
            rw [HR2.out]
            simp only [goF]
            rw [if_pos ⟨mid_none s f i (by omega), by omega⟩]
          have HGt : Hid (GotAt w fs xs (.slice no n nc) (.slice io n ic) (.slice lo m lc) wr) := by
            have h := HG.out
            have h1 := h.names
            have h2 := h.lens
            rw [List.length_map] at h1 h2
            exact ⟨h.low, h1, h2, h.recs, h.runs, h.apart, by rw [HN.out]; exact hfew, by rw [HM.out]; exact hmany, HFi.out, h.good⟩
          clear HR2 hk0 HG
          go_wp2
          refine bodyPost_ret (v := .tuple #[.slice no n nc, .slice io n ic, .slice lo m lc, .int .i64 0, .int .i64 0]) (by simp [results, Tryz.results22, go_sem]) rfl ⟨HGt.out.low, .inr ⟨fs, xs, _, _, _, HE.out, rfl, HGt.out⟩⟩
theorem refParseAny_calls (s : ByteArray) (w : World) : Calls Tryz.prog 22 #[.string s] w fun e w' => OutPost (outF s.data.toList) w e w' := by
  by_cases h : 1048576 < s.size
  · refine (refParseLong_calls s w h).mono ?_
    rintro e w' ⟨rfl, rfl⟩
    rw [out_long (by rw [size_toList]; exact h)]
    exact ⟨[], [], _, _, _, rfl, got_none (Below.refl _ _), rfl⟩
  · refine (refParseFile_calls s w (by omega)).mono ?_
    intro e w' hp
    exact out_post (by rw [size_toList]; exact h) hp
end Go.Proofs.YtdhphipdpjhhbaaGreatDoor
