/-
  SyntaxTrees is proved for every input: right, the same, how deep, as the document says it; nothing is changed. Its condition is the row's own: what is handed in reads as data.
-/
import Derived.Test.YtnnmhmlebffacaaRows
import Derived.WalkKit
import Derived.ProofKit
import Derived.OpenShut
import Derived.ShutString
import Derived.ChangeOld
import Derived.Below
import Derived.Test.YtnnmhmlebffacaaCopies
import Derived.Test.YtnnmhmlebffacaaRefTrees
import Derived.Test.YtnnmhmlebffacaaRefItems
namespace Go.Proofs.Ytnnmhmlebffacaa
open Go.RowKit Go.Deep

theorem plF_refl : ∀ F : Fo, plF F F = true
  | .nil => rfl
  | .node _ _ h k r => by simp [plF, plF_refl k, plF_refl r]
theorem plI_refl : ∀ L : List It, plI L L = true
  | [] => rfl
  | i :: r => by simp [plI, plF_refl, plI_refl r]
set_option maxRecDepth 20000 in
set_option maxHeartbeats 4000000 in
theorem whole_same (L : List It) (ao bo : Option Addr) (n c m d : Nat) (w : World) (o o' : Bool) (S S' : Nat → Prop) (hF : ItsAt o S w L ao n) (hG : ItsAt o' S' w L bo m) (hn : n ≤ maxLen) (hm : m ≤ maxLen) :
    Calls Try.prog 11 #[.agg #[.slice ao n c], .agg #[.slice bo m d]] w fun e' w' => e' = .returned (.bool true) ∧ Below w.heap.size w w' := by
  have hb0 := below_two w (.cells #[.slice ao n c] 24) (.cells #[.slice bo m d] 24)
  have ha : ((w.alloc (.cells #[.slice ao n c] 24)).alloc (.cells #[.slice bo m d] 24)).heap[w.heap.size]? = some (.cells #[.slice ao n c] 24 (0, 0)) := heap_old (heap_alloc_new w _)
  have hb : ((w.alloc (.cells #[.slice ao n c] 24)).alloc (.cells #[.slice bo m d] 24)).heap[w.heap.size + 1]? = some (.cells #[.slice bo m d] 24 (0, 0)) := twoN_new w _ _
  have HW : Hid (Below w.heap.size w ((w.alloc (.cells #[.slice ao n c] 24)).alloc (.cells #[.slice bo m d] 24)) ∧ ((w.alloc (.cells #[.slice ao n c] 24)).alloc (.cells #[.slice bo m d] 24)).heap[w.heap.size]? = some (.cells #[.slice ao n c] 24 (0, 0)) ∧ ((w.alloc (.cells #[.slice ao n c] 24)).alloc (.cells #[.slice bo m d] 24)).heap[w.heap.size + 1]? = some (.cells #[.slice bo m d] 24 (0, 0))) := ⟨hb0, ha, hb⟩
  have HS : Hid (∀ W, Below w.heap.size w W → Calls Try.prog 19 #[.agg #[.slice ao n c], .agg #[.slice bo m d]] W fun e' w' => e' = .returned (.bool true) ∧ Below W.heap.size W w') := fun W hW => by
    have := sameR_calls L L ao bo n c m d W o o' S S' (hF.below hW) (hG.below hW) hn hm
    rw [sameI_refl] at this
    exact this
  have HP : Hid (∀ W, Below w.heap.size w W → Calls Try.prog 29 #[.agg #[.slice ao n c], .agg #[.slice bo m d]] W fun e' w' => e' = .returned (.bool true) ∧ Below W.heap.size W w') := fun W hW => by
    have := places_calls L L ao bo n c m d W o o' S S' (hF.below hW) (hG.below hW) hn hm (sameI_refl L)
    rw [plI_refl] at this
    exact this
  clear hb0 ha hb hF hG hn hm
  go_enter Try.func11, Try.ntmps11
  go_wp2_with fail
  refine (HS.out _ HW.out.1).mono ?_
  rintro e' w2 ⟨rfl, hb2⟩
  have k1 : w2.heap[w.heap.size]? = some (.cells #[.slice ao n c] 24 (0, 0)) := by rw [hb2.block _ (lt_block HW.out.2.1)]; exact HW.out.2.1
  have k2 : w2.heap[w.heap.size + 1]? = some (.cells #[.slice bo m d] 24 (0, 0)) := by rw [hb2.block _ (lt_block HW.out.2.2)]; exact HW.out.2.2
  have z1 := blk (i := 0) k1 rfl
  have z2 := blk (i := 0) k2 rfl
  have HB2 : Hid (Below w.heap.size w w2) := HW.out.1.trans (hb2.mono HW.out.1.size)
  clear k1 k2 hb2 HW HS
  go_wp2_with fail
  refine (HP.out _ HB2.out).mono ?_
  rintro e' w3 ⟨rfl, hb3⟩
  have HB3 : Hid (Below w.heap.size w w3) := HB2.out.trans (hb3.mono HB2.out.size)
  clear hb3 HB2 HP z1 z2
  go_wp2
  go_ret
  exact ⟨rfl, HB3.out⟩
/-- The three arguments in their variables. -/
structure T0 (w : World) (va vb : Value) (ce : Array Value) (W : World) : Prop where
  low : Below w.heap.size w W
  a : W.heap[w.heap.size]? = some (.cells #[va] 24 (0, 0))
  b : W.heap[w.heap.size + 1]? = some (.cells #[vb] 24 (0, 0))
  e : W.heap[w.heap.size + 2]? = some (.cells ce 35 (0, 0))
theorem T0.next {w : World} {va vb : Value} {ce : Array Value} {W W' : World} (h : T0 w va vb ce W) (hk : Below W.heap.size W W') : T0 w va vb ce W' :=
  ⟨h.low.trans (hk.mono h.low.size), by rw [hk.block _ (lt_block h.a)]; exact h.a, by rw [hk.block _ (lt_block h.b)]; exact h.b, by rw [hk.block _ (lt_block h.e)]; exact h.e⟩
theorem T0.start (w : World) (va vb : Value) (ce : Array Value) : T0 w va vb ce (((w.alloc (.cells #[va] 24)).alloc (.cells #[vb] 24)).alloc (.cells ce 35)) := by
  have e1 : (w.alloc (.cells #[va] 24)).heap.size = w.heap.size + 1 := by simp
  have e2 : ((w.alloc (.cells #[va] 24)).alloc (.cells #[vb] 24)).heap.size = w.heap.size + 2 := by simp
  have h2 := heap_alloc_new ((w.alloc (.cells #[va] 24)).alloc (.cells #[vb] 24)) (.cells ce 35)
  have h1 := heap_alloc_new (w.alloc (.cells #[va] 24)) (.cells #[vb] 24)
  rw [e2] at h2
  rw [e1] at h1
  exact ⟨(((Below.refl _ _).alloc (Nat.le_refl _) _).alloc (by simp) _).alloc (by simp; omega) _, heap_old (heap_old (heap_alloc_new w _)), heap_old h1, h2⟩
/-- A copy in its variable. -/
structure T1 (b : Nat) (L : List It) (S : Nat → Prop) (pa : Option Addr) (pn pc : Nat) (W : World) : Prop where
  var : W.heap[b]? = some (.cells #[.slice pa pn pc] 24 (0, 0))
  its : ItsAt true S W L pa pn
  few : pn ≤ maxLen
theorem T1.next {b : Nat} {L : List It} {S : Nat → Prop} {pa : Option Addr} {pn pc : Nat} {W W' : World} (h : T1 b L S pa pn pc W) (hk : Below W.heap.size W W') : T1 b L S pa pn pc W' :=
  ⟨by rw [hk.block _ (lt_block h.var)]; exact h.var, h.its.below hk, h.few⟩
set_option maxRecDepth 20000 in
set_option maxHeartbeats 8000000 in
theorem trees_walk (L M : List It) (x : Ex) (ao bo ka : Option Addr) (n c m d kn kc : Nat) (w : World) (hL : TreeIn w L ao n) (hM : TreeIn w M bo m) (hE : ExAt false (fun _ => True) w x ka kn) :
    Calls Try.prog 4 #[.agg #[.slice ao n c], .agg #[.slice bo m d], .agg #[.int .i64 x.1.kind, .int .i64 x.1.num, .string (bs x.1.text), .slice ka kn kc, .int .i64 x.1.pl]] w fun e w' => e = .returned (.bool true) ∧ Below w.heap.size w w' := by
  have hn : n ≤ maxLen := by have := hL.few; unfold mxI at this; unfold maxLen; omega
  have hm : m ≤ maxLen := by have := hM.few; unfold mxI at this; unfold maxLen; omega
  have HA : Hid (∀ w, Calls Try.prog 13 #[] w fun e w' => e = .returned (.bool true) ∧ Below w.heap.size w w') := fun w => awake_calls w
  have HCa : Hid (∀ W, Below w.heap.size w W → Calls Try.prog 14 #[.agg #[.slice ao n c]] W (TreeCopy L W)) := fun W hW => copied_calls L ao n c W ⟨hL.few, hL.each, hL.its.below hW⟩
  have HCb : Hid (∀ W, Below w.heap.size w W → Calls Try.prog 14 #[.agg #[.slice bo m d]] W (TreeCopy M W)) := fun W hW => copied_calls M bo m d W ⟨hM.few, hM.each, hM.its.below hW⟩
  have HRa : Hid (∀ W, Below w.heap.size w W → Calls Try.prog 15 #[.agg #[.slice ao n c]] W fun e' w' => e' = .returned (.bool (treeRight L)) ∧ Below W.heap.size W w') := fun W hW => right_calls L ao n c W (hL.its.below hW) hn
  have HRb : Hid (∀ W, Below w.heap.size w W → Calls Try.prog 15 #[.agg #[.slice bo m d]] W fun e' w' => e' = .returned (.bool (treeRight M)) ∧ Below W.heap.size W w') := fun W hW => right_calls M bo m d W (hM.its.below hW) hm
  have HSab : Hid (∀ W, Below w.heap.size w W → Calls Try.prog 16 #[.agg #[.slice ao n c], .agg #[.slice bo m d]] W fun e' w' => e' = .returned (.bool (sameI L M)) ∧ Below W.heap.size W w') := fun W hW => same_calls L M ao bo n c m d W false false _ _ (hL.its.below hW) (hM.its.below hW) hn hm
  have HSap : Hid (∀ W b S pa pn pc, Below w.heap.size w W → T1 b L S pa pn pc W → Calls Try.prog 16 #[.agg #[.slice ao n c], .agg #[.slice pa pn pc]] W fun e' w' => e' = .returned (.bool true) ∧ Below W.heap.size W w') := fun W b S pa pn pc hW hT => by
    have := same_calls L L ao pa n c pn pc W false true _ _ (hL.its.below hW) hT.its hn hT.few
    rw [sameI_refl] at this
    exact this
  have HDp : Hid (∀ W, Below w.heap.size w W → Calls Try.prog 17 #[.agg #[.int .i64 x.1.kind, .int .i64 x.1.num, .string (bs x.1.text), .slice ka kn kc, .int .i64 x.1.pl]] W fun e' w' => e' = .returned (.int .i64 (wrap64 (depW x.2 + 1))) ∧ Below W.heap.size W w') := fun W hW => depth_calls _ x ka kn kc W false _ (hE.below hW) (Nat.lt_succ_self _)
  have HDr : Hid (∀ W, Below w.heap.size w W → Calls Try.prog 20 #[.agg #[.int .i64 x.1.kind, .int .i64 x.1.num, .string (bs x.1.text), .slice ka kn kc, .int .i64 x.1.pl]] W fun e' w' => e' = .returned (.int .i64 (wrap64 (depW x.2 + 1))) ∧ Below W.heap.size W w') := fun W hW => depthR_calls _ x ka kn kc W false _ (hE.below hW) (Nat.lt_succ_self _)
  have HTa : Hid (∀ W, Below w.heap.size w W → Calls Try.prog 18 #[.agg #[.slice ao n c]] W fun e' w' => e' = .returned (.bool (treeRight L)) ∧ Below W.heap.size W w') := fun W hW => rightR_calls L ao n c W (hL.its.below hW) hn
  have HTb : Hid (∀ W, Below w.heap.size w W → Calls Try.prog 18 #[.agg #[.slice bo m d]] W fun e' w' => e' = .returned (.bool (treeRight M)) ∧ Below W.heap.size W w') := fun W hW => rightR_calls M bo m d W (hM.its.below hW) hm
  have HSr : Hid (∀ W, Below w.heap.size w W → Calls Try.prog 19 #[.agg #[.slice ao n c], .agg #[.slice bo m d]] W fun e' w' => e' = .returned (.bool (sameI L M)) ∧ Below W.heap.size W w') := fun W hW => sameR_calls L M ao bo n c m d W false false _ _ (hL.its.below hW) (hM.its.below hW) hn hm
  have HWa : Hid (∀ W b S pa pn pc, Below w.heap.size w W → T1 b L S pa pn pc W → Calls Try.prog 11 #[.agg #[.slice ao n c], .agg #[.slice pa pn pc]] W fun e' w' => e' = .returned (.bool true) ∧ Below W.heap.size W w') := fun W b S pa pn pc hW hT => whole_same L ao pa n c pn pc W false true _ _ (hL.its.below hW) hT.its hn hT.few
  have HWb : Hid (∀ W b S pa pn pc, Below w.heap.size w W → T1 b M S pa pn pc W → Calls Try.prog 11 #[.agg #[.slice bo m d], .agg #[.slice pa pn pc]] W fun e' w' => e' = .returned (.bool true) ∧ Below W.heap.size W w') := fun W b S pa pn pc hW hT => whole_same M bo pa m d pn pc W false true _ _ (hM.its.below hW) hT.its hm hT.few
  generalize treeRight L = r1 at *
  generalize treeRight M = r2 at *
  generalize sameI L M = s0 at *
  generalize wrap64 (depW x.2 + 1) = dp at *
  have H0 : Hid (T0 w (.slice ao n c) (.slice bo m d) #[.int .i64 x.1.kind, .int .i64 x.1.num, .string (bs x.1.text), .slice ka kn kc, .int .i64 x.1.pl] (((w.alloc (.cells #[.slice ao n c] 24)).alloc (.cells #[.slice bo m d] 24)).alloc (.cells #[.int .i64 x.1.kind, .int .i64 x.1.num, .string (bs x.1.text), .slice ka kn kc, .int .i64 x.1.pl] 35))) := T0.start w _ _ _
  generalize x.1 = hd at *
  clear hL hM hE hn hm
  go_enter Try.func4, Try.ntmps4
  go_wp2_with fail
  refine (HA.out _).mono ?_
  rintro e w1 ⟨rfl, hb1⟩
  have H1 : Hid (T0 w (.slice ao n c) (.slice bo m d) #[.int .i64 hd.kind, .int .i64 hd.num, .string (bs hd.text), .slice ka kn kc, .int .i64 hd.pl] w1) := H0.out.next hb1
  have za := blk (i := 0) H1.out.a rfl
  clear hb1 H0 HA
  go_wp2_with fail
  refine (HCa.out _ H1.out.low).mono ?_
  rintro e w2 ⟨pa, pn, pc, rfl, hpn, hpI, hb2⟩
  have h12 : ∀ o, Below w1.heap.size w1 (w2.alloc o) := fun o => hb2.trans (((Below.refl _ _).alloc (Nat.le_refl _) o).mono hb2.size)
  have H2 : Hid (T0 w (.slice ao n c) (.slice bo m d) #[.int .i64 hd.kind, .int .i64 hd.num, .string (bs hd.text), .slice ka kn kc, .int .i64 hd.pl] (w2.alloc (.cells #[.slice pa pn pc] 24)) ∧ T1 w2.heap.size L (fun g => w1.heap.size ≤ g) pa pn pc (w2.alloc (.cells #[.slice pa pn pc] 24))) :=
    ⟨H1.out.next (h12 _), heap_alloc_new w2 _, hpI.below ((Below.refl _ _).alloc (Nat.le_refl _) _), hpn⟩
  have zb := blk (i := 0) H2.out.1.b rfl
  clear hb2 h12 hpI hpn H1 HCa za
  go_wp2_with fail
  refine (HCb.out _ H2.out.1.low).mono ?_
  rintro e w4 ⟨qa, qn, qc, rfl, hqn, hqI, hb4⟩
  have h34 : ∀ o, Below (w2.alloc (.cells #[.slice pa pn pc] 24)).heap.size (w2.alloc (.cells #[.slice pa pn pc] 24)) (w4.alloc o) := fun o => hb4.trans (((Below.refl _ _).alloc (Nat.le_refl _) o).mono hb4.size)
  have H5 : Hid (T0 w (.slice ao n c) (.slice bo m d) #[.int .i64 hd.kind, .int .i64 hd.num, .string (bs hd.text), .slice ka kn kc, .int .i64 hd.pl] (w4.alloc (.cells #[.slice qa qn qc] 24)) ∧ T1 w2.heap.size L (fun g => w1.heap.size ≤ g) pa pn pc (w4.alloc (.cells #[.slice qa qn qc] 24)) ∧ T1 w4.heap.size M (fun g => (w2.alloc (.cells #[.slice pa pn pc] 24)).heap.size ≤ g) qa qn qc (w4.alloc (.cells #[.slice qa qn qc] 24))) :=
    ⟨H2.out.1.next (h34 _), H2.out.2.next (h34 _), heap_alloc_new w4 _, hqI.below ((Below.refl _ _).alloc (Nat.le_refl _) _), hqn⟩
  have za := blk (i := 0) H5.out.1.a rfl
  clear hb4 h34 hqI hqn H2 HCb zb
  go_wp2_with fail
  refine (HRa.out _ H5.out.1.low).mono ?_
  rintro e w6 ⟨rfl, hb⟩
  have H6 : Hid (T0 w (.slice ao n c) (.slice bo m d) #[.int .i64 hd.kind, .int .i64 hd.num, .string (bs hd.text), .slice ka kn kc, .int .i64 hd.pl] w6 ∧ T1 w2.heap.size L (fun g => w1.heap.size ≤ g) pa pn pc w6 ∧ T1 w4.heap.size M (fun g => (w2.alloc (.cells #[.slice pa pn pc] 24)).heap.size ≤ g) qa qn qc w6) := ⟨H5.out.1.next hb, H5.out.2.1.next hb, H5.out.2.2.next hb⟩
  clear hb H5 HRa za
  have zb := blk (i := 0) H6.out.1.b rfl
  go_wp2_with fail
  refine (HRb.out _ H6.out.1.low).mono ?_
  rintro e w7 ⟨rfl, hb⟩
  have H7 : Hid (T0 w (.slice ao n c) (.slice bo m d) #[.int .i64 hd.kind, .int .i64 hd.num, .string (bs hd.text), .slice ka kn kc, .int .i64 hd.pl] w7 ∧ T1 w2.heap.size L (fun g => w1.heap.size ≤ g) pa pn pc w7 ∧ T1 w4.heap.size M (fun g => (w2.alloc (.cells #[.slice pa pn pc] 24)).heap.size ≤ g) qa qn qc w7) := ⟨H6.out.1.next hb, H6.out.2.1.next hb, H6.out.2.2.next hb⟩
  clear hb H6 HRb zb
  have za := blk (i := 0) H7.out.1.a rfl
  have zb := blk (i := 0) H7.out.1.b rfl
  go_wp2_with fail
  refine (HSab.out _ H7.out.1.low).mono ?_
  rintro e w8 ⟨rfl, hb⟩
  have H8 : Hid (T0 w (.slice ao n c) (.slice bo m d) #[.int .i64 hd.kind, .int .i64 hd.num, .string (bs hd.text), .slice ka kn kc, .int .i64 hd.pl] w8 ∧ T1 w2.heap.size L (fun g => w1.heap.size ≤ g) pa pn pc w8 ∧ T1 w4.heap.size M (fun g => (w2.alloc (.cells #[.slice pa pn pc] 24)).heap.size ≤ g) qa qn qc w8) := ⟨H7.out.1.next hb, H7.out.2.1.next hb, H7.out.2.2.next hb⟩
  clear hb H7 HSab za zb
  have za := blk (i := 0) H8.out.1.a rfl
  have zp := blk (i := 0) H8.out.2.1.var rfl
  go_wp2_with fail
  refine (HSap.out _ _ _ _ _ _ H8.out.1.low H8.out.2.1).mono ?_
  rintro e w9 ⟨rfl, hb⟩
  have H9 : Hid (T0 w (.slice ao n c) (.slice bo m d) #[.int .i64 hd.kind, .int .i64 hd.num, .string (bs hd.text), .slice ka kn kc, .int .i64 hd.pl] w9 ∧ T1 w2.heap.size L (fun g => w1.heap.size ≤ g) pa pn pc w9 ∧ T1 w4.heap.size M (fun g => (w2.alloc (.cells #[.slice pa pn pc] 24)).heap.size ≤ g) qa qn qc w9) := ⟨H8.out.1.next hb, H8.out.2.1.next hb, H8.out.2.2.next hb⟩
  clear hb H8 HSap za zp
  have ze0 := blk (i := 0) H9.out.1.e rfl
  have ze1 := blk (i := 1) H9.out.1.e rfl
  have ze2 := blk (i := 2) H9.out.1.e rfl
  have ze3 := blk (i := 3) H9.out.1.e rfl
  have ze4 := blk (i := 4) H9.out.1.e rfl
  go_wp2_with fail
  refine (HDp.out _ H9.out.1.low).mono ?_
  rintro e w10 ⟨rfl, hb⟩
  have H10 : Hid (T0 w (.slice ao n c) (.slice bo m d) #[.int .i64 hd.kind, .int .i64 hd.num, .string (bs hd.text), .slice ka kn kc, .int .i64 hd.pl] w10 ∧ T1 w2.heap.size L (fun g => w1.heap.size ≤ g) pa pn pc w10 ∧ T1 w4.heap.size M (fun g => (w2.alloc (.cells #[.slice pa pn pc] 24)).heap.size ≤ g) qa qn qc w10) := ⟨H9.out.1.next hb, H9.out.2.1.next hb, H9.out.2.2.next hb⟩
  clear hb H9 HDp ze0 ze1 ze2 ze3 ze4
  have za := blk (i := 0) H10.out.1.a rfl
  go_wp2_with fail
  refine (HTa.out _ H10.out.1.low).mono ?_
  rintro e w11 ⟨rfl, hb⟩
  have H11 : Hid (T0 w (.slice ao n c) (.slice bo m d) #[.int .i64 hd.kind, .int .i64 hd.num, .string (bs hd.text), .slice ka kn kc, .int .i64 hd.pl] w11 ∧ T1 w2.heap.size L (fun g => w1.heap.size ≤ g) pa pn pc w11 ∧ T1 w4.heap.size M (fun g => (w2.alloc (.cells #[.slice pa pn pc] 24)).heap.size ≤ g) qa qn qc w11) := ⟨H10.out.1.next hb, H10.out.2.1.next hb, H10.out.2.2.next hb⟩
  clear hb H10 HTa za
  have zb := blk (i := 0) H11.out.1.b rfl
  go_wp2_with fail
  refine (HTb.out _ H11.out.1.low).mono ?_
  rintro e w12 ⟨rfl, hb⟩
  have H12 : Hid (T0 w (.slice ao n c) (.slice bo m d) #[.int .i64 hd.kind, .int .i64 hd.num, .string (bs hd.text), .slice ka kn kc, .int .i64 hd.pl] w12 ∧ T1 w2.heap.size L (fun g => w1.heap.size ≤ g) pa pn pc w12 ∧ T1 w4.heap.size M (fun g => (w2.alloc (.cells #[.slice pa pn pc] 24)).heap.size ≤ g) qa qn qc w12) := ⟨H11.out.1.next hb, H11.out.2.1.next hb, H11.out.2.2.next hb⟩
  clear hb H11 HTb zb
  have za := blk (i := 0) H12.out.1.a rfl
  have zb := blk (i := 0) H12.out.1.b rfl
  go_wp2_with fail
  refine (HSr.out _ H12.out.1.low).mono ?_
  rintro e w13 ⟨rfl, hb⟩
  have H13 : Hid (T0 w (.slice ao n c) (.slice bo m d) #[.int .i64 hd.kind, .int .i64 hd.num, .string (bs hd.text), .slice ka kn kc, .int .i64 hd.pl] w13 ∧ T1 w2.heap.size L (fun g => w1.heap.size ≤ g) pa pn pc w13 ∧ T1 w4.heap.size M (fun g => (w2.alloc (.cells #[.slice pa pn pc] 24)).heap.size ≤ g) qa qn qc w13) := ⟨H12.out.1.next hb, H12.out.2.1.next hb, H12.out.2.2.next hb⟩
  clear hb H12 HSr za zb
  have ze0 := blk (i := 0) H13.out.1.e rfl
  have ze1 := blk (i := 1) H13.out.1.e rfl
  have ze2 := blk (i := 2) H13.out.1.e rfl
  have ze3 := blk (i := 3) H13.out.1.e rfl
  have ze4 := blk (i := 4) H13.out.1.e rfl
  go_wp2_with fail
  refine (HDr.out _ H13.out.1.low).mono ?_
  rintro e w14 ⟨rfl, hb⟩
  have H14 : Hid (T0 w (.slice ao n c) (.slice bo m d) #[.int .i64 hd.kind, .int .i64 hd.num, .string (bs hd.text), .slice ka kn kc, .int .i64 hd.pl] w14 ∧ T1 w2.heap.size L (fun g => w1.heap.size ≤ g) pa pn pc w14 ∧ T1 w4.heap.size M (fun g => (w2.alloc (.cells #[.slice pa pn pc] 24)).heap.size ≤ g) qa qn qc w14) := ⟨H13.out.1.next hb, H13.out.2.1.next hb, H13.out.2.2.next hb⟩
  clear hb H13 HDr ze0 ze1 ze2 ze3 ze4
  have za := blk (i := 0) H14.out.1.a rfl
  have zp := blk (i := 0) H14.out.2.1.var rfl
  go_wp2_with fail
  refine (HWa.out _ _ _ _ _ _ H14.out.1.low H14.out.2.1).mono ?_
  rintro e w15 ⟨rfl, hb⟩
  have H15 : Hid (T0 w (.slice ao n c) (.slice bo m d) #[.int .i64 hd.kind, .int .i64 hd.num, .string (bs hd.text), .slice ka kn kc, .int .i64 hd.pl] w15 ∧ T1 w2.heap.size L (fun g => w1.heap.size ≤ g) pa pn pc w15 ∧ T1 w4.heap.size M (fun g => (w2.alloc (.cells #[.slice pa pn pc] 24)).heap.size ≤ g) qa qn qc w15) := ⟨H14.out.1.next hb, H14.out.2.1.next hb, H14.out.2.2.next hb⟩
  clear hb H14 HWa za zp
  have zb := blk (i := 0) H15.out.1.b rfl
  have zq := blk (i := 0) H15.out.2.2.var rfl
  go_wp2_with fail
  refine (HWb.out _ _ _ _ _ _ H15.out.1.low H15.out.2.2).mono ?_
  rintro e w16 ⟨rfl, hb⟩
  have H16 : Hid (T0 w (.slice ao n c) (.slice bo m d) #[.int .i64 hd.kind, .int .i64 hd.num, .string (bs hd.text), .slice ka kn kc, .int .i64 hd.pl] w16 ∧ T1 w2.heap.size L (fun g => w1.heap.size ≤ g) pa pn pc w16 ∧ T1 w4.heap.size M (fun g => (w2.alloc (.cells #[.slice pa pn pc] 24)).heap.size ≤ g) qa qn qc w16) := ⟨H15.out.1.next hb, H15.out.2.1.next hb, H15.out.2.2.next hb⟩
  clear hb H15 HWb zb zq
  have HZ : Hid (Below w.heap.size w w16) := H16.out.1.low
  clear H16
  go_wp2
  go_ret
  exact ⟨rfl, HZ.out⟩

namespace syntaxTrees
open Go.ChangeShapes Go.WideShapes Go.ChangeAt Go.RowKit
open Go.ChangeMaps (open_string shut_string)
theorem own : ownKnob Try.prog.godebug = none := by kernel_rfl
theorem laidOut : laidOutB Try.prog = true := by kernel_rfl
theorem tree_in {H : Type} {enc : TypeId × Value → H} {W : World} {cs : Array Value} {d : DataW H} {p : List MemPlace} (hcs : cs.size = Try.prog.cellsOf 24) (h : DataW.Trod enc Try.prog W 0 (fun _ => true) true 24 (.agg cs) d p) (hw : ∀ n ∈ d.weights Try.prog 24, n ≤ reachBytes) :
    ∃ ao len cap L, cs = #[.slice ao len cap] ∧ TreeIn W L ao len := by
  obtain ⟨fuel, hf⟩ := h
  obtain ⟨ao, len, cap, L, hl, hin⟩ := open_tree (by rw [show (Value.agg cs).cells.toList = cs.toList from rfl, Array.length_toList, hcs]; kernel_rfl) hf hw
  exact ⟨ao, len, cap, L, Array.toList_inj.1 hl, hin⟩
theorem expr_in {H : Type} {enc : TypeId × Value → H} {W : World} {cs : Array Value} {d : DataW H} {p : List MemPlace} (hcs : cs.size = Try.prog.cellsOf 35) (h : DataW.Trod enc Try.prog W 0 (fun _ => true) true 35 (.agg cs) d p) (hw : ∀ n ∈ d.weights Try.prog 35, n ≤ reachBytes) :
    ∃ (e : Ex) (ka : Option Addr) (kn kc : Nat), cs = #[.int .i64 e.1.kind, .int .i64 e.1.num, .string (bs e.1.text), .slice ka kn kc, .int .i64 e.1.pl] ∧ ExAt false (fun _ => True) W e ka kn := by
  obtain ⟨fuel, hf⟩ := h
  obtain ⟨e, ka, kn, kc, hl, hok, hkn, _, hF⟩ := open_expr (by rw [show (Value.agg cs).cells.toList = cs.toList from rfl, Array.length_toList, hcs]; kernel_rfl) hf hw
  exact ⟨e, ka, kn, kc, Array.toList_inj.1 hl, hok, by unfold mxE at hkn; unfold maxLen; omega, hF⟩
set_option maxRecDepth 100000 in
theorem lifted (os : Os) (started : os.Started) (H : Type) (enc : TypeId × Value → H) :
    ReturnsInHanded {} Try.checked os 4 .any (Rows.syntaxTreesSpec.pre6 enc Try.prog Try.f4 Rows.syntaxTreesRow.domain false) (Rows.syntaxTreesSpec.post enc Try.prog Try.f4 false true false false) := by
  refine returnsInHanded_of_change_sized (C := Try.checked) own started (by kernel_rfl) Try.func4
    (ChangeSpec.witness6 (enc := enc) (C := Try.checked) false ⟨#[], #[.agg #[.slice none 0 0], .agg #[.slice none 0 0], .agg #[.int .i64 0, .int .i64 0, .string ⟨#[]⟩, .slice none 0 0, .int .i64 0]], []⟩ 8 (by kernel_rfl) (by kernel_rfl) (by kernel_rfl) (by kernel_rfl)) ?_
  intro W base args ds gs before hval0 hW _ hsz0 _
  have hval : ∀ (j : Nat) t v, Try.f4.params[j]? = some t → args[j]? = some v → Value.okWide Try.prog W .any base t v := hval0
  have hsz : (DataW.weightsEach Try.prog (Try.f4.params.toList ++ Rows.syntaxTreesSpec.plain.varTypes Try.prog) (ds ++ gs)).all (· ≤ reachBytes) = true := hsz0
  have hW' := hW
  obtain ⟨p, q, hA0, hV, rfl, hfz, hnd⟩ := hW
  have hA : DataW.TrodAll enc Try.prog W 0 (fun _ => true) true Try.f4.params.toList args.toList ds p := hA0
  rw [Try.params4] at hA hval hsz
  obtain ⟨v0, vs0, d0, ds0, p0, q0, hargs, rfl, rfl, h0, r0⟩ := trodAll_cons hA
  obtain ⟨v1, vs1, d1, ds1, p1, q1, rfl, rfl, rfl, h1, r1⟩ := trodAll_cons r0
  obtain ⟨v2, vs2, d2, ds2, p2, q2, rfl, rfl, rfl, h2, r2⟩ := trodAll_cons r1
  obtain ⟨rfl, rfl, rfl⟩ := trodAll_nil r2
  obtain rfl : args = #[v0, v1, v2] := by cases args; simp_all
  obtain ⟨rfl, rfl⟩ := trodVars_none hV
  have hw : ∀ (j : Nat) (t : TypeId) (d : DataW H), ([24, 24, 35] ++ Rows.syntaxTreesSpec.plain.varTypes Try.prog)[j]? = some t → ([d0, d1, d2] ++ [])[j]? = some d → ∀ n ∈ d.weights Try.prog t, n ≤ reachBytes := fun j t d ht hd n hn =>
    of_decide_eq_true (List.all_eq_true.1 hsz _ (DataW.weights_mem_each ht hd n hn))
  obtain ⟨cs0, rfl, hcs0⟩ := okWide_struct Try.underlying24 (hval 0 24 v0 rfl rfl)
  obtain ⟨cs1, rfl, hcs1⟩ := okWide_struct Try.underlying24 (hval 1 24 v1 rfl rfl)
  obtain ⟨cs2, rfl, hcs2⟩ := okWide_struct Try.underlying35 (hval 2 35 v2 rfl rfl)
  have lt0 : ∀ x ∈ p0, x.block < W.heap.size := by obtain ⟨m, hm⟩ := h0; exact DataW.trod_lt m _ _ _ hm
  have lt1 : ∀ x ∈ p1, x.block < W.heap.size := by obtain ⟨m, hm⟩ := h1; exact DataW.trod_lt m _ _ _ hm
  have lt2 : ∀ x ∈ p2, x.block < W.heap.size := by obtain ⟨m, hm⟩ := h2; exact DataW.trod_lt m _ _ _ hm
  obtain ⟨ao, len0, cap0, L, e0, hL⟩ := tree_in hcs0 h0 (hw 0 24 d0 rfl rfl)
  obtain ⟨bo, len1, cap1, M, e1, hM⟩ := tree_in hcs1 h1 (hw 1 24 d1 rfl rfl)
  obtain ⟨x, ka, kn, kc, e2, hE⟩ := expr_in hcs2 h2 (hw 2 35 d2 rfl rfl)
  subst e0 e1 e2
  clear hA0 hval0
  refine (trees_walk L M x ao bo ka len0 cap0 len1 cap1 kn kc W hL hM hE).mono fun e W' ⟨he, bel⟩ => ?_
  subst he
  exact ⟨_, rfl, _, _, _, [], _, [], hW', trodAll_mk1 (shut_bool Try.underlying4 _), (trodAll_cons_mk (Below.trod laidOut (by kernel_rfl) (of_decide_eq_true (by kernel_rfl)) h0 bel lt0) (trodAll_cons_mk (Below.trod laidOut (by kernel_rfl) (of_decide_eq_true (by kernel_rfl)) h1 bel lt1) (trodAll_cons_mk (Below.trod laidOut (by kernel_rfl) (of_decide_eq_true (by kernel_rfl)) h2 bel lt2) trodAll_mk0))), rfl, bel.frame _, fun h => by cases h⟩
end syntaxTrees

theorem syntaxTrees_holds : Rows.SyntaxTreesSaid :=
  OpenClaim.holds_of_wide 4 Try.f4 rfl rfl rfl rfl rfl rfl rfl ⟨rfl, rfl, rfl, rfl, rfl⟩ rfl rfl rfl rfl rfl (by kernel_rfl) Try.func4 (by kernel_rfl)
    (of_decide_eq_true (by kernel_rfl)) (by unfold Func.isWrapper; first | (rw [if_pos (by decide +kernel)]; kernel_rfl) | (rw [if_neg (by decide +kernel)]; exact ⟨rfl, rfl⟩))
    (fun os started H enc _ => syntaxTrees.lifted os started H enc)
end Go.Proofs.Ytnnmhmlebffacaa
