/-
  The walk of sam's Parse.
-/
import Derived.Test.YtdhphipdpjhhbaaGreatDoorFl
import Derived.Test.YtdhphipdpjhhbaaGreatDoorRefFits
namespace Go.Proofs.YtdhphipdpjhhbaaGreatDoor
open Go.RowKit

/-- What was read of a text, in memory: names, lengths, records. -/
structure GotAt (w : World) (fs : List Rv) (xs : List Rl) (vn vi vl : Value) (W : World) : Prop where
  low : Below w.heap.size w W
  names : W.ownsRow w.heap.size 9 1 vn fs.length (strVals (fs.map (·.1)))
  lens : W.ownsRow w.heap.size 3 1 vi fs.length (intVals (fs.map (·.2)))
  recs : W.ownsRow w.heap.size 24 8 vl xs.length ((xs.map (·.1)).flatMap rvRow)
  runs : ∀ x ∈ xs, W.ownsRow w.heap.size 37 2 x.1.runsV x.2.length (rowCells x.2)
  apart : xs.Pairwise fun x y => ∀ g, x.1.runsV.ownBlock = some g → y.1.runsV.ownBlock ≠ some g
  few : fs.length ≤ 64
  many : xs.length ≤ 256
  fine : ∀ f ∈ fs, rvOk f
  good : ∀ x ∈ xs, SmR x.R
theorem GotAt.next {w : World} {fs : List Rv} {xs : List Rl} {vn vi vl : Value} {W W' : World} (h : GotAt w fs xs vn vi vl W) (hb : Below W.heap.size W W') : GotAt w fs xs vn vi vl W' :=
  ⟨h.low.trans (hb.mono h.low.size), owned_below h.names hb, owned_below h.lens hb, owned_below h.recs hb, fun x hx => owned_below (h.runs x hx) hb, h.apart, h.few, h.many, h.fine, h.good⟩
/-- What reading a text leaves. -/
def ParsePost (o : Fl ⊕ Nat) (w : World) (e : Ending) (w' : World) : Prop :=
  Below w.heap.size w w' ∧ ((∃ k : Nat, o = .inr k ∧ e = .returned (.tuple #[.slice none 0 0, .slice none 0 0, .slice none 0 0, .int .i64 k, .int .i64 50]))
    ∨ ∃ (fs : List Rv) (xs : List Rl) (vn vi vl : Value), o = .inl (fs.map Rv.P, xs.map Rl.R) ∧ e = .returned (.tuple #[vn, vi, vl, .int .i64 0, .int .i64 0]) ∧ GotAt w fs xs vn vi vl w')
def sizeV : Value → Nat
  | .string s => s.size
  | _ => 0
theorem cell_one {W : World} {g : Nat} {u : Value} {t : TypeId} (h : W.heap[g]? = some (.cells #[u] t (0, 0))) : ∀ (j : Nat) (v : Value), [u][j]? = some v → W.cell? ((⟨g, 0, none⟩ : Addr).add j) = some v := by
  intro j v hv
  match j, hv with
  | 0, hv => simp at hv; subst hv; exact cellB h rfl
/-- Where Parse stands as it lays down names and lengths. -/
structure LpA (w : World) (b : Nat) (fs : List Rv) (xs : List Rl) (vr vl : Value) (g : Nat) (f : Rv) (ns : List ByteArray) (zs : List Int) (vn vi : Value) (W : World) : Prop where
  fl : FlAt w b fs xs vr vl W
  got : W.heap[g]? = some (.cells #[.string f.1, .int .i64 f.2] 83 (0, 0))
  names : W.ownsRow w.heap.size 9 1 vn ns.length (strVals ns)
  lens : W.ownsRow w.heap.size 3 1 vi zs.length (intVals zs)
  far : w.heap.size ≤ g
  off : vr.ownBlock ≠ some g
theorem LpA.next {w : World} {b : Nat} {fs : List Rv} {xs : List Rl} {vr vl : Value} {g : Nat} {f : Rv} {ns : List ByteArray} {zs : List Int} {vn vi : Value} {W W' : World} (h : LpA w b fs xs vr vl g f ns zs vn vi W) (hb : Below W.heap.size W W') : LpA w b fs xs vr vl g f ns zs vn vi W' :=
  ⟨h.fl.next hb, keepB h.got hb, owned_below h.names hb, owned_below h.lens hb, h.far, h.off⟩
theorem grown_keep {W W' : World} {B n size : Nat} {e t : TypeId} {v : Value} {xs : List Value} (h : W.ownsRow B e size v n xs) (hg : W.grownBy W' v.ownBlock) (hne : e ≠ t) {k : Nat} {cs : Array Value} (hk : W.heap[k]? = some (.cells cs t (0, 0))) : W'.heap[k]? = some (.cells cs t (0, 0)) := by
  rw [hg.block k (lt_block hk) (owned_ne h hk hne).symm]; exact hk
theorem FlAt.grown {w : World} {b : Nat} {fs : List Rv} {xs : List Rl} {vr vl : Value} {W W' : World} (h : FlAt w b fs xs vr vl W) {e : TypeId} {size n : Nat} {v : Value} {ys : List Value} (ho : W.ownsRow w.heap.size e size v n ys) (hg : W.grownBy W' v.ownBlock) (h1 : e ≠ 78) (h2 : 83 ≠ e) (h3 : 24 ≠ e) (h4 : 37 ≠ e) : FlAt w b fs xs vr vl W' :=
  ⟨h.low.grown hg h.low.size (fun k hk => (ho.lt k hk).1), h.base, grown_keep ho hg h1 h.box, owned_grown h.refs ho h2 hg, owned_grown h.recs ho h3 hg, fun x hx => owned_grown (h.runs x hx) ho h4 hg, h.apart, h.few, h.many, h.fine, h.good⟩
theorem LpA.name {w : World} {b : Nat} {fs : List Rv} {xs : List Rl} {vr vl : Value} {g : Nat} {f : Rv} {ns : List ByteArray} {zs : List Int} {vn vi v' : Value} {W W' : World} (h : LpA w b fs xs vr vl g f ns zs vn vi W) (ho : W'.ownsRow w.heap.size 9 1 v' (ns.length + 1) (strVals ns ++ [.string f.1])) (hg : W.grownBy W' vn.ownBlock) : LpA w b fs xs vr vl g f (ns ++ [f.1]) zs v' vi W' :=
  ⟨h.fl.grown h.names hg (by decide) (by decide) (by decide) (by decide), grown_keep h.names hg (by decide) h.got, by rw [strVals_snoc, List.length_append]; exact ho, owned_grown h.lens h.names (by decide) hg, h.far, h.off⟩
theorem LpA.len {w : World} {b : Nat} {fs : List Rv} {xs : List Rl} {vr vl : Value} {g : Nat} {f : Rv} {ns : List ByteArray} {zs : List Int} {vn vi v' : Value} {W W' : World} (h : LpA w b fs xs vr vl g f ns zs vn vi W) (ho : W'.ownsRow w.heap.size 3 1 v' (zs.length + 1) (intVals zs ++ [.int .i64 f.2])) (hg : W.grownBy W' vi.ownBlock) : LpA w b fs xs vr vl g f ns (zs ++ [f.2]) vn v' W' :=
  ⟨h.fl.grown h.lens hg (by decide) (by decide) (by decide) (by decide), grown_keep h.lens hg (by decide) h.got, owned_grown h.names h.lens (by decide) hg, by rw [intVals_snoc, List.length_append]; exact ho, h.far, h.off⟩
/-- The lines of a text, one at a time. -/
theorem goF_end {f : Fl} {k : Nat} (hk : 1 ≤ k) : goF f (k + 1) (cuts 10 []) = .inl f := by
  rw [cuts_not_mem (by simp)]
  simp only [goF]
  rw [if_pos ⟨trivial, by omega⟩]
theorem goF_cut_none {f : Fl} {k : Nat} {t : List UInt8} (h0 : k = 0 ∨ t ≠ []) (h : (10 : UInt8) ∉ t ∨ takeB f (k + 1) (headB 10 t) = none) : goF f (k + 1) (cuts 10 t) = .inr (k + 1) := by
  by_cases hm : (10 : UInt8) ∈ t
  · rcases h with h | h
    · exact absurd hm h
    · rw [cuts_mem hm, goF_wrong _ _ _ _ (cuts_ne _ _) h]
  · rw [cuts_not_mem hm]
    simp only [goF]
    rw [if_neg]
    rintro ⟨h1, h2⟩
    rcases h0 with h0 | h0
    · omega
    · exact h0 h1
theorem goF_cut_some {f f' : Fl} {k : Nat} {t : List UInt8} (hm : (10 : UInt8) ∈ t) (h : takeB f (k + 1) (headB 10 t) = some f') : goF f (k + 1) (cuts 10 t) = goF f' (k + 2) (cuts 10 (tailB 10 t)) := by
  rw [cuts_mem hm, goF_step _ _ _ _ _ (cuts_ne _ _) h]

theorem parseLong_calls (s : ByteArray) (w : World) (hs : 1048576 < s.size) :
    Calls Tryz.prog 21 #[.string s] w fun e w' => e = .returned (.tuple #[.slice none 0 0, .slice none 0 0, .slice none 0 0, .int .i64 0, .int .i64 2]) ∧ w' = w := by
  have hd : decide ((s.size : Int) > 1048576) = true := by simp; omega
  go_enter Tryz.func21, Tryz.ntmps21
  go_wp2
  refine bodyPost_ret (v := .tuple #[.slice none 0 0, .slice none 0 0, .slice none 0 0, .int .i64 0, .int .i64 2]) (by simp [results, Tryz.results21, go_sem]) rfl ⟨rfl, rfl⟩

set_option maxRecDepth 20000 in
set_option maxHeartbeats 8000000 in
theorem parse21_calls (s : ByteArray) (w : World) (hs : s.size ≤ 1048576) (hstd : Std w) :
    Calls Tryz.prog 21 #[.string s] w fun e w' => ParsePost (parseF s.data.toList) w e w' := by
  have HStd : Hid (∀ W, Below w.heap.size w W → Std W) := fun W hW => hstd.below hW
  have hd : decide ((s.size : Int) > 1048576) = false := by simp; omega
  have HS0 : Hid (parseF s.data.toList = goF ([], []) 1 (cuts 10 s.data.toList)) := rfl
  generalize parseF s.data.toList = R at *
  clear hstd
  go_enter Tryz.func21, Tryz.ntmps21
  go_wp2_with fail
  generalize hwx : w.alloc (.cells #[.slice none 0 0, .slice none 0 0] 78) = wx
  have HF0 : Hid (FlAt w w.heap.size [] [] (.slice none 0 0) (.slice none 0 0) wx) := by
    subst hwx
    exact ⟨below_new _ _, Nat.le_refl _, heap_alloc_new w _, World.ownsRow_nil _ _ _ _, World.ownsRow_nil _ _ _ _, (fun x hx => by cases hx), List.Pairwise.nil, by decide, by decide, (fun x hx => by cases hx), (fun x hx => by cases hx)⟩
  clear hwx
  generalize hbb : w.heap.size = b
  have HBB : Hid (w.heap.size = b) := hbb
  have HF0' : Hid (FlAt w b [] [] (.slice none 0 0) (.slice none 0 0) wx) := by show FlAt _ _ _ _ _ _ _; rw [← hbb]; exact HF0.out
  clear hbb HF0
  go_loopw [0, 2, 3, 8, 9] (fun tv v2 v3 nv mv wr => v2 = .slice none 0 0 ∧ v3 = .slice none 0 0 ∧ ∃ (t : ByteArray) (k : Nat) (mb : Bool) (fs : List Rv) (xs : List Rl) (vr vl : Value), tv = .string t ∧ nv = .int .i64 k ∧ mv = .bool mb ∧ t.size + k ≤ 1048576 ∧ (mb = true → k = 0 ∨ t.data.toList ≠ []) ∧ (mb = false → 1 ≤ k ∧ t.data.toList = []) ∧ FlAt w b fs xs vr vl wr ∧ R = goF (fs.map Rv.P, xs.map Rl.R) (k + 1) (cuts 10 t.data.toList)) (fun tv _ _ _ _ _ => sizeV tv)
  case atStart => exact ⟨rfl, rfl, s, 0, true, [], [], _, _, rfl, rfl, rfl, by omega, (fun _ => .inl rfl), (fun h => by cases h), HF0'.out, HS0.out⟩
  case round =>
    obtain ⟨rfl, rfl, t, k, mb, fs, xs, vr, vl, rfl, rfl, rfl, hsz, hmt, hmf, hfl, hR⟩ := hrel
    have HF : Hid (FlAt w b fs xs vr vl wr) := hfl
    have HR : Hid (R = goF (fs.map Rv.P, xs.map Rl.R) (k + 1) (cuts 10 t.data.toList)) := hR
    clear hfl hR HF0' HS0
    cases mb with
    | true =>
      have HMt : Hid (k = 0 ∨ t.data.toList ≠ []) := hmt rfl
      clear hmt hmf
      go_wp2_with fail
      refine (cutFeed_calls t _ (by omega) (HStd.out _ HF.out.low)).mono ?_
      rintro e w1 ⟨a, r, rfl, ha, hr, hb1⟩
      have HF1 : Hid (FlAt w b fs xs vr vl w1) := HF.out.next hb1
      have HA : Hid (a.data.toList = headB 10 t.data.toList ∧ r.data.toList = tailB 10 t.data.toList) := ⟨ha, hr⟩
      have hasz : a.size ≤ 1048576 := by
        rw [← size_toList, ha]
        have := headB_length_le 10 t.data.toList
        rw [size_toList] at this; omega
      clear hb1 ha hr HF
      have HTk : Hid (Calls Tryz.prog 44 #[.pointer (some ⟨b, 0, none⟩), .string a, .int .i64 ((k + 1 : Nat) : Int)] w1 fun e W' => TakePost w b (takeB (fs.map Rv.P, xs.map Rl.R) (k + 1) (headB 10 t.data.toList)) e W') := by
        show Calls _ _ _ _ _
        rw [← HA.out.1]
        exact take_calls w b fs xs vr vl a (k + 1) w1 HF1.out hasz (HStd.out _ HF1.out.low) (by omega)
      rw [show ((k + 1 : Nat) : Int) = (k : Int) + 1 by omega] at HTk
      cases hO : takeB (fs.map Rv.P, xs.map Rl.R) (k + 1) (headB 10 t.data.toList) with
      | none =>
        rw [hO] at HTk
        have HE : Hid (R = .inr (k + 1)) := by show R = _; rw [HR.out]; exact goF_cut_none HMt.out (.inr hO)
        clear hO HR
        go_wp2_with fail
        refine HTk.out.mono ?_
        rintro e w2 ⟨rfl, hb2, _⟩
        have HB2 : Hid (Below w.heap.size w w2) := hb2
        clear hb2
        simp only [Option.isSome_none]
        go_wp2
        refine bodyPost_ret (v := .tuple #[.slice none 0 0, .slice none 0 0, .slice none 0 0, .int .i64 ((k : Int) + 1), .int .i64 50]) (by simp [results, Tryz.results21, go_sem]) rfl ⟨HB2.out, .inl ⟨k + 1, HE.out, ?_⟩⟩
        rw [show ((k + 1 : Nat) : Int) = (k : Int) + 1 by omega]
      | some f' =>
        rw [hO] at HTk
        by_cases h10 : (10 : UInt8) ∈ t.data.toList
        · have hh : hasB 10 t.data.toList = true := decide_eq_true h10
          have HE : Hid (R = goF f' (k + 2) (cuts 10 (tailB 10 t.data.toList))) := by show R = _; rw [HR.out]; exact goF_cut_some h10 hO
          have hrs : r.size + 1 ≤ t.size := by
            rw [← size_toList r, HA.out.2]
            have h1 := tailB_length_le 10 t.data.toList
            have h2 : 0 < t.data.toList.length := List.length_pos_of_mem h10
            rw [size_toList] at h1 h2; omega
          rw [hh]
          clear hO HR hh h10
          go_wp2_with fail
          refine HTk.out.mono ?_
          rintro e w2 ⟨rfl, hb2, hf2⟩
          obtain ⟨fs2, xs2, vr2, vl2, hfl2, rfl⟩ := hf2 f' rfl
          have HF2 : Hid (FlAt w b fs2 xs2 vr2 vl2 w2) := hfl2
          clear hb2 hf2 hfl2
          simp only [Option.isSome_some]
          by_cases hr0 : r.toList = []
          · have hr1 : (r.toList == []) = true := by rw [beq_iff_eq]; exact hr0
            have HR0 : Hid (r.data.toList = []) := by rw [ByteArray.toList_eq] at hr0; exact hr0
            clear hr0
            go_wp2
            go_roundw
            case rel => exact ⟨rfl, rfl, r, k + 1, false, fs2, xs2, vr2, vl2, rfl, by go_num, by go_num, by omega, (fun h => by cases h), (fun _ => ⟨by omega, HR0.out⟩), HF2.out, by rw [HE.out, HA.out.2]⟩
            case measure => simp [sizeV]; omega
          · have hr1 : (r.toList == []) = false := by rw [beq_eq_false_iff_ne]; exact hr0
            have HR0 : Hid (¬ r.data.toList = []) := by rw [ByteArray.toList_eq] at hr0; exact hr0
            clear hr0
            go_wp2
            go_roundw
            case rel => exact ⟨rfl, rfl, r, k + 1, true, fs2, xs2, vr2, vl2, rfl, by go_num, by go_num, by omega, (fun _ => .inr HR0.out), (fun h => by cases h), HF2.out, by rw [HE.out, HA.out.2]⟩
            case measure => simp [sizeV]; omega
        · have hh : hasB 10 t.data.toList = false := decide_eq_false h10
          have HE : Hid (R = .inr (k + 1)) := by show R = _; rw [HR.out]; exact goF_cut_none HMt.out (.inl h10)
          rw [hh]
          clear hO HR hh h10
          go_wp2_with fail
          refine HTk.out.mono ?_
          rintro e w2 ⟨rfl, hb2, _⟩
          have HB2 : Hid (Below w.heap.size w w2) := hb2
          clear hb2
          simp only [Option.isSome_some]
          go_wp2
          refine bodyPost_ret (v := .tuple #[.slice none 0 0, .slice none 0 0, .slice none 0 0, .int .i64 ((k : Int) + 1), .int .i64 50]) (by simp [results, Tryz.results21, go_sem]) rfl ⟨HB2.out, .inl ⟨k + 1, HE.out, ?_⟩⟩
          rw [show ((k + 1 : Nat) : Int) = (k : Int) + 1 by omega]
    | false =>
      obtain ⟨hk1, ht0⟩ := hmf rfl
      have HE : Hid (R = .inl (fs.map Rv.P, xs.map Rl.R)) := by show R = _; rw [HR.out, ht0]; exact goF_end hk1
      clear hmt hmf ht0 HR
      obtain ⟨ro, rc, hvr⟩ := owned_shape HF.out.refs
      obtain ⟨lo, lc, hvl⟩ := owned_shape HF.out.recs
      have hfew := HF.out.few
      have hmany := HF.out.many
      obtain ⟨n, hn⟩ : ∃ n, fs.length = n := ⟨_, rfl⟩
      obtain ⟨m, hm⟩ : ∃ m, xs.length = m := ⟨_, rfl⟩
      rw [hn] at hfew hvr
      rw [hm] at hmany hvl
      subst hvr hvl
      have HN : Hid (fs.length = n) := hn
      have HM : Hid (xs.length = m) := hm
      clear hn hm
      have c0 := cellB HF.out.box (i := 0) rfl
      obtain ⟨i9, hi9, hz90, hz91, hz92⟩ := info_parts info9
      obtain ⟨i3, hi3, hz30, hz31, hz32⟩ := info_parts info3
      go_wp2_with fail
      clear c0
      go_loopw [2, 3, 42] (fun vn vi iv wq => ∃ (j : Nat), j ≤ n ∧ iv = .int .i64 j ∧ FlAt w b fs xs (.slice ro n rc) (.slice lo m lc) wq ∧ wq.ownsRow w.heap.size 9 1 vn j (strVals ((fs.take j).map (·.1))) ∧ wq.ownsRow w.heap.size 3 1 vi j (intVals ((fs.take j).map (·.2)))) (fun _ _ iv _ => n - (intOf iv).toNat)
      case atStart => exact ⟨0, Nat.zero_le _, rfl, HF.out, World.ownsRow_nil _ _ _ _, World.ownsRow_nil _ _ _ _⟩
      case round =>
        obtain ⟨j, hj, rfl, hfl, hnm, hln⟩ := hrel
        obtain ⟨no, nc, rfl⟩ := owned_shape hnm
        obtain ⟨io, ic, rfl⟩ := owned_shape hln
        have HFq : Hid (FlAt w b fs xs (.slice ro n rc) (.slice lo m lc) wr) := hfl
        have HNm : Hid (wr.ownsRow w.heap.size 9 1 (.slice no j nc) j (strVals ((fs.take j).map (·.1)))) := hnm
        have HLn : Hid (wr.ownsRow w.heap.size 3 1 (.slice io j ic) j (intVals ((fs.take j).map (·.2)))) := hln
        clear hfl hnm hln HF
        by_cases hlt : j < n
        · have hdj : decide ((j : Int) < (n : Int)) = true := by simp; omega
          obtain ⟨f, hf⟩ : ∃ f, fs[j]? = some f := ⟨_, List.getElem?_eq_getElem (by rw [HN.out]; exact hlt)⟩
          have hrefs := HFq.out.refs
          rw [HN.out] at hrefs
          obtain ⟨gr, cr, hes, _, _, _, _⟩ := owned_some hrefs (by omega)
          cases hes
          obtain ⟨y0, y1⟩ := refCells_get fs j f hf
          have e0 := (owned_cells hrefs _ _ y0).1
          have e1 := (owned_cells hrefs _ _ y1).1
          have hfz := (HFq.out.fine f (List.mem_of_getElem? hf)).2
          clear y0 y1
          have hns : ((fs.take j).map (·.1)).length = j := by rw [List.length_map, List.length_take, HN.out]; omega
          have hzs : ((fs.take j).map (·.2)).length = j := by rw [List.length_map, List.length_take, HN.out]; omega
          have htk : fs.take (j + 1) = fs.take j ++ [f] := by
            obtain ⟨h1, h2⟩ := List.getElem?_eq_some_iff.1 hf
            rw [List.take_succ_eq_append_getElem h1, h2]
          have HTk : Hid (strVals ((fs.take (j + 1)).map (·.1)) = strVals ((fs.take j).map (·.1) ++ [f.1]) ∧ intVals ((fs.take (j + 1)).map (·.2)) = intVals ((fs.take j).map (·.2) ++ [f.2])) := by
            show _ ∧ _
            rw [htk, List.map_append, List.map_append]; exact ⟨rfl, rfl⟩
          generalize (fs.take j).map (·.1) = ns at *
          generalize (fs.take j).map (·.2) = zs at *
          have HLn1 : Hid (ns.length = j) := hns
          have HLn2 : Hid (zs.length = j) := hzs
          clear hns hzs htk hf
          have H00 : Hid (LpA w b fs xs (.slice (some ⟨gr, 0, none⟩) n rc) (.slice lo m lc) wr.heap.size f ns zs (.slice no j nc) (.slice io j ic) (wr.alloc (.cells #[.string f.1, .int .i64 f.2] 83))) := by
            have hb := below_new wr (.cells #[.string f.1, .int .i64 f.2] 83)
            refine ⟨HFq.out.next hb, heap_alloc_new wr _, ?_, ?_, HFq.out.low.size, fun e => ?_⟩
            · rw [HLn1.out]; exact owned_below HNm.out hb
            · rw [HLn2.out]; exact owned_below HLn.out hb
            · have := (HFq.out.refs.lt _ e).2; omega
          clear hrefs
          go_upto_region 16 with fail
          clear e0 e1 HFq HNm HLn
          generalize hwx : wr.alloc (.cells #[.string f.1, .int .i64 f.2] 83) = wx at *
          clear hwx
          generalize wr.heap.size = g at *
          have H0 : Hid (LpA w b fs xs (.slice (some ⟨gr, 0, none⟩) n rc) (.slice lo m lc) g f ns zs (.slice no j nc) (.slice io j ic) wx.drew) := H00.out.next (Below.refl _ _).drew
          have HA : ∀ o, Hid (LpA w b fs xs (.slice (some ⟨gr, 0, none⟩) n rc) (.slice lo m lc) g f ns zs (.slice no j nc) (.slice io j ic) (wx.alloc o).drew) := fun o => H0.out.next (below_new wx.drew o)
          have HAB : ∀ o o', Hid (LpA w b fs xs (.slice (some ⟨gr, 0, none⟩) n rc) (.slice lo m lc) g f ns zs (.slice no j nc) (.slice io j ic) ((wx.alloc o).alloc o').drew) := fun o o' => (HA o).out.next (below_new (wx.alloc o).drew o')
          have k1 : ∀ o, (wx.alloc o).drew.heap[wx.heap.size]? = some o := fun o => heap_alloc_new wx o
          have k2 : ∀ o o', ((wx.alloc o).alloc o').drew.heap[wx.heap.size]? = some o := fun o o' => (alloc2_heap wx o o').1
          have k3 : ∀ o o', ((wx.alloc o).alloc o').drew.heap[wx.heap.size + 1]? = some o' := fun o o' => (alloc2_heap wx o o').2.1
          have q0 := cellB H0.out.got (i := 0) rfl
          have q1 := cellB H0.out.got (i := 1) rfl
          have q0o : ∀ o, (wx.alloc o).drew.cell? ⟨g, 0, none⟩ = some (.string f.1) := fun o => cellB (HA o).out.got rfl
          have q1o : ∀ o, (wx.alloc o).drew.cell? ⟨g, 1, none⟩ = some (.int .i64 f.2) := fun o => cellB (HA o).out.got rfl
          have F1 : Hid (∀ zs' vi' W, Hid (LpA w b fs xs (.slice (some ⟨gr, 0, none⟩) n rc) (.slice lo m lc) g f ns zs' (.slice no j nc) vi' W) → W.ownsRow w.heap.size 9 1 (.slice no j nc) j (strVals ns)) := fun zs' vi' W h => by
            have := h.out.names
            rw [HLn1.out] at this; exact this
          have F2 : Hid (∀ ns' vn' W, Hid (LpA w b fs xs (.slice (some ⟨gr, 0, none⟩) n rc) (.slice lo m lc) g f ns' zs vn' (.slice io j ic) W) → W.ownsRow w.heap.size 3 1 (.slice io j ic) j (intVals zs)) := fun ns' vn' W h => by
            have := h.out.lens
            rw [HLn2.out] at this; exact this
          have FSz : Hid (∀ ns' zs' vn' vi' W, Hid (LpA w b fs xs (.slice (some ⟨gr, 0, none⟩) n rc) (.slice lo m lc) g f ns' zs' vn' vi' W) → w.heap.size ≤ W.heap.size) := fun _ _ _ _ W h => h.out.fl.low.size
          have G1 : Hid (∀ zs' vi' (X w4 : World) v', Hid (LpA w b fs xs (.slice (some ⟨gr, 0, none⟩) n rc) (.slice lo m lc) g f ns zs' (.slice no j nc) vi' X) → w4.ownsRow w.heap.size 9 1 v' (j + 1) (strVals ns ++ [.string f.1]) → X.grownBy w4 (Value.slice no j nc).ownBlock → Hid (LpA w b fs xs (.slice (some ⟨gr, 0, none⟩) n rc) (.slice lo m lc) g f (ns ++ [f.1]) zs' v' vi' w4) ∧ w4.cell? ⟨g, 1, none⟩ = some (.int .i64 f.2) ∧ (∀ o, Hid (LpA w b fs xs (.slice (some ⟨gr, 0, none⟩) n rc) (.slice lo m lc) g f (ns ++ [f.1]) zs' v' vi' (w4.alloc o))) ∧ (∀ (k : Nat) (cs : Array Value), X.heap[k]? = some (.cells cs 3 (0, 0)) → w4.heap[k]? = some (.cells cs 3 (0, 0)))) := by
            intro zs' vi' X w4 v' h ho hg
            have ho2 : w4.ownsRow w.heap.size 9 1 v' (ns.length + 1) (strVals ns ++ [.string f.1]) := by rw [HLn1.out]; exact ho
            have h2 := h.out.name ho2 hg
            exact ⟨h2, cellB h2.got rfl, fun o => h2.next (below_new w4 o), fun k cs hk => grown_keep h.out.names hg (by decide) hk⟩
          have G2 : Hid (∀ ns' vn' (X w4 : World) v', Hid (LpA w b fs xs (.slice (some ⟨gr, 0, none⟩) n rc) (.slice lo m lc) g f ns' zs vn' (.slice io j ic) X) → w4.ownsRow w.heap.size 3 1 v' (j + 1) (intVals zs ++ [.int .i64 f.2]) → X.grownBy w4 (Value.slice io j ic).ownBlock → Hid (LpA w b fs xs (.slice (some ⟨gr, 0, none⟩) n rc) (.slice lo m lc) g f ns' (zs ++ [f.2]) vn' v' w4) ∧ w4.cell? ⟨g, 0, none⟩ = some (.string f.1) ∧ (∀ o, Hid (LpA w b fs xs (.slice (some ⟨gr, 0, none⟩) n rc) (.slice lo m lc) g f ns' (zs ++ [f.2]) vn' v' (w4.alloc o))) ∧ (∀ (k : Nat) (cs : Array Value), X.heap[k]? = some (.cells cs 9 (0, 0)) → w4.heap[k]? = some (.cells cs 9 (0, 0)))) := by
            intro ns' vn' X w4 v' h ho hg
            have ho2 : w4.ownsRow w.heap.size 3 1 v' (zs.length + 1) (intVals zs ++ [.int .i64 f.2]) := by rw [HLn2.out]; exact ho
            have h2 := h.out.len ho2 hg
            exact ⟨h2, cellB h2.got rfl, fun o => h2.next (below_new w4 o), fun k cs hk => grown_keep h.out.lens hg (by decide) hk⟩
          have HFin : Hid (∀ v1 v2 W, Hid (LpA w b fs xs (.slice (some ⟨gr, 0, none⟩) n rc) (.slice lo m lc) g f (ns ++ [f.1]) (zs ++ [f.2]) v1 v2 W) → FlAt w b fs xs (.slice (some ⟨gr, 0, none⟩) n rc) (.slice lo m lc) W ∧ W.ownsRow w.heap.size 9 1 v1 (j + 1) (strVals ((fs.take (j + 1)).map (·.1))) ∧ W.ownsRow w.heap.size 3 1 v2 (j + 1) (intVals ((fs.take (j + 1)).map (·.2)))) := by
            intro v1 v2 W h
            have h1 := h.out.names
            have h2 := h.out.lens
            rw [List.length_append, HLn1.out] at h1
            rw [List.length_append, HLn2.out] at h2
            exact ⟨h.out.fl, by rw [HTk.out.1]; exact h1, by rw [HTk.out.2]; exact h2⟩
          clear HTk H00
          have fs1 : ∀ u ∈ [Value.string f.1], u.oneCell' = true := by intro u hu; simp at hu; subst hu; rfl
          have fs2 := int_one f.2
          go_region_law (first
            | (refine step_append_own rfl (.tmp 46) (.tmp 49) 46 rfl w.heap.size 9 i9 _ 1 16 Tryz.underlying46 hi9 hz90 hz91 hz92 rfl (by decide) (.slice no j nc) j (strVals ns) (by simp [Act.eval]) (F1.out _ _ _ (by first | exact HA _ | exact HAB _ _ | with_reducible assumption | solve_by_elim)) ⟨_, 0, none⟩ 1 1 [.string f.1] rfl rfl (cell_one (t := 9) (by first | exact k1 _ | exact k2 _ _ | exact k3 _ _ | with_reducible assumption | exact heap_alloc_new _ _)) fs1 (by unfold maxLen; omega) (by omega) (FSz.out _ _ _ _ _ (by first | exact HA _ | exact HAB _ _ | with_reducible assumption | solve_by_elim)) ?_
               intro v1 w4 ho hg
               obtain ⟨hL4, q4, hL4o, hkeep⟩ := G1.out _ _ _ _ _ (by first | exact HA _ | exact HAB _ _ | with_reducible assumption | solve_by_elim) ho hg
               try have kB := hkeep _ _ (k2 _ _)
               try have kB := hkeep _ _ (k3 _ _)
               obtain ⟨ao1, cap1, rfl⟩ := owned_shape ho
               clear ho hg hkeep)
            | (refine step_append_own rfl (.tmp 51) (.tmp 54) 47 rfl w.heap.size 3 i3 _ 1 8 Tryz.underlying47 hi3 hz30 hz31 hz32 rfl (by decide) (.slice io j ic) j (intVals zs) (by simp [Act.eval]) (F2.out _ _ _ (by first | exact HA _ | exact HAB _ _ | with_reducible assumption | solve_by_elim)) ⟨_, 0, none⟩ 1 1 [.int .i64 f.2] rfl rfl (cell_one (t := 3) (by first | exact k1 _ | exact k2 _ _ | exact k3 _ _ | with_reducible assumption | exact heap_alloc_new _ _)) fs2 (by unfold maxLen; omega) (by omega) (FSz.out _ _ _ _ _ (by first | exact HA _ | exact HAB _ _ | with_reducible assumption | solve_by_elim)) ?_
               intro v2 w5 ho hg
               obtain ⟨hL5, q5, hL5o, hkeep⟩ := G2.out _ _ _ _ _ (by first | exact HA _ | exact HAB _ _ | with_reducible assumption | solve_by_elim) ho hg
               try have kB := hkeep _ _ (k2 _ _)
               try have kB := hkeep _ _ (k3 _ _)
               obtain ⟨ao2, cap2, rfl⟩ := owned_shape ho
               clear ho hg hkeep))
          all_goals (clear k1 k2 k3 q0 q1 q0o q1o HA HAB F1 F2 FSz G1 G2)
          all_goals (go_wp2; go_roundw; (case rel => exact ⟨j + 1, by omega, by go_num, HFin.out _ _ _ (by with_reducible assumption)⟩); (case measure => simp [intOf]; omega))
        · have hdj : decide ((j : Int) < (n : Int)) = false := by simp; omega
          obtain rfl : j = n := by omega
          have c1 := cellB HFq.out.box (i := 1) rfl
          have HG : Hid (∀ nq, GotAt w fs xs (.slice no j nc) (.slice io j ic) (.slice lo m lc) (wr.drewN nq)) := by
            intro nq
            have h1 := HNm.out
            have h2 := HLn.out
            rw [List.take_of_length_le (by rw [HN.out]; exact Nat.le_refl _)] at h1 h2
            have hq := HFq.out
            exact GotAt.next ⟨hq.low, by rw [HN.out]; exact h1, by rw [HN.out]; exact h2, hq.recs, hq.runs, hq.apart, hq.few, hq.many, hq.fine, hq.good⟩ (below_drewN (Below.refl _ _) nq)
          clear HNm HLn HFq
          go_wp2_with fail
          go_quiet (fail)
          have HG2 : Hid (GotAt w fs xs (.slice no j nc) (.slice io j ic) (.slice lo m lc) (wr.drewN nq)) := HG.out nq
          clear HG c1
          generalize wr.drewN nq = wz at *
          go_wp2
          refine bodyPost_ret (v := .tuple #[.slice no j nc, .slice io j ic, .slice lo m lc, .int .i64 0, .int .i64 0]) (by simp [results, Tryz.results21, go_sem]) rfl ⟨HG2.out.low, .inr ⟨fs, xs, _, _, _, HE.out, rfl, HG2.out⟩⟩
theorem recs_row {W : World} {B n cap : Nat} {ao : Option Addr} {xs : List Rl} (h : W.ownsRow B 24 8 (.slice ao n cap) n ((xs.map (·.1)).flatMap rvRow)) (hr : ∀ x ∈ xs, W.ownsRow B 37 2 x.1.runsV x.2.length (rowCells x.2)) (hg : ∀ x ∈ xs, SmR x.R) (hl : xs.length = n) (hn : n ≤ 256) : RecsAt W ao n xs := by
  have hok : ∀ x ∈ xs, RecOk W x.1 x.2 := fun x hx => (sm_ok (r := x.R) (hg x hx) rfl (hr x hx)).1
  refine ⟨hl, by unfold maxLen; omega, hok, fun h0 => ?_⟩
  obtain ⟨g, cap', he, _⟩ := owned_some h h0
  cases he
  refine ⟨g, 0, rfl, fun i x hi => ?_⟩
  simp only [Nat.zero_add]
  exact rvs_cells h (by rw [List.getElem?_map, hi]; rfl)
/-- What reading a text answers. -/
def outF (t : List UInt8) : Fl × Int × Int := if 1048576 < t.length then (([], []), 0, 2) else match parseF t with
  | .inl f => (f, 0, 0)
  | .inr k => (([], []), (k : Int), 50)
def OutPost (o : Fl × Int × Int) (w : World) (e : Ending) (w' : World) : Prop :=
  ∃ (fs : List Rv) (xs : List Rl) (vn vi vl : Value), e = .returned (.tuple #[vn, vi, vl, .int .i64 o.2.1, .int .i64 o.2.2]) ∧ GotAt w fs xs vn vi vl w' ∧ (fs.map Rv.P, xs.map Rl.R) = o.1
theorem got_none {w w' : World} (h : Below w.heap.size w w') : GotAt w [] [] (.slice none 0 0) (.slice none 0 0) (.slice none 0 0) w' :=
  ⟨h, World.ownsRow_nil _ _ _ _, World.ownsRow_nil _ _ _ _, World.ownsRow_nil _ _ _ _, (fun x hx => by cases hx), List.Pairwise.nil, by decide, by decide, (fun x hx => by cases hx), (fun x hx => by cases hx)⟩
theorem out_long {t : List UInt8} (h : 1048576 < t.length) : outF t = (([], []), 0, 2) := by rw [outF, if_pos h]
theorem out_post {t : List UInt8} {w w' : World} {e : Ending} (h : ¬ 1048576 < t.length) (hp : ParsePost (parseF t) w e w') : OutPost (outF t) w e w' := by
  have ho : outF t = match parseF t with
      | .inl f => (f, 0, 0)
      | .inr k => (([], []), (k : Int), 50) := by rw [outF, if_neg h]
  rcases hp with ⟨hb, ⟨k, h1, h2⟩ | ⟨fs, xs, vn, vi, vl, h1, h2, h3⟩⟩
  · rw [h1] at ho
    rw [ho]
    exact ⟨[], [], _, _, _, h2, got_none hb, rfl⟩
  · rw [h1] at ho
    rw [ho]
    exact ⟨fs, xs, _, _, _, h2, h3, rfl⟩
theorem parseAny_calls (s : ByteArray) (w : World) (hstd : Std w) : Calls Tryz.prog 21 #[.string s] w fun e w' => OutPost (outF s.data.toList) w e w' := by
  by_cases h : 1048576 < s.size
  · refine (parseLong_calls s w h).mono ?_
    rintro e w' ⟨rfl, rfl⟩
    rw [out_long (by rw [size_toList]; exact h)]
    exact ⟨[], [], _, _, _, rfl, got_none (Below.refl _ _), rfl⟩
  · refine (parse21_calls s w (by omega) hstd).mono ?_
    intro e w' hp
    exact out_post (by rw [size_toList]; exact h) hp
theorem rv_map_inj : ∀ {fs gs : List Rv}, fs.map Rv.P = gs.map Rv.P → fs = gs
  | [], [], _ => rfl
  | [], _ :: _, h => by simp at h
  | _ :: _, [], h => by simp at h
  | f :: fs, g :: gs, h => by
    simp only [List.map_cons, List.cons.injEq] at h
    obtain ⟨h1, h2⟩ := h
    simp only [Rv.P, Prod.mk.injEq] at h1
    rw [rv_map_inj h2, Prod.ext (byte_ext h1.1) h1.2]
end Go.Proofs.YtdhphipdpjhhbaaGreatDoor
