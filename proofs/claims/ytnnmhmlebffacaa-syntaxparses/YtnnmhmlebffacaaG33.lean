/-
  The document's two. The document's Kind of an item's word; whether an item is too deep.
-/
import Derived.Test.YtnnmhmlebffacaaG20
import Derived.Test.YtnnmhmlebffacaaG26
import Derived.Test.YtnnmhmlebffacaaG32
namespace Go.Proofs.Ytnnmhmlebffacaa
open Go.RowKit Go.Deep

/-- What a rule of arguments leaves. -/
def APost (B b : Nat) (ta : Option Addr) (tn tc : Nat) (T : List Tk) (m : List Int) (X : Rs Fo) (w : World) (e : Ending) (w' : World) : Prop :=
  ∃ ao n c, e = .returned (.slice ao n c) ∧ Kr B b w w' ∧ RIs B b ta tn tc T X.rest X.val.isNone (m ++ X.many) w' ∧ ∀ F, X.val = some F → n ≤ maxLen ∧ FoAt true (fun g => w.heap.size ≤ g) w' F ao n
/-- Two rules with a sign between, where something may be wrong already. -/
theorem both_plain (ex : List Tk → Rs Ex) (s : ByteArray) (bad : Bool) (l : List Tk) {t1 : Tk} {r1 : List Tk} (h1 : (lift bad ex l).rest = t1 :: r1) :
    ∃ l2 bad2, (if isW (lift bad ex l).val.isNone s t1 then r1 else t1 :: r1) = l2 ∧ (!isW (lift bad ex l).val.isNone s t1) = bad2 ∧
      (lift bad (bothG ex s.data.toList) l).rest = (lift bad2 ex l2).rest ∧ (lift bad (bothG ex s.data.toList) l).val.isNone = (lift bad2 ex l2).val.isNone ∧
      ((lift bad2 ex l2).val.isNone = false → (lift bad (bothG ex s.data.toList) l).many = (lift bad ex l).many ++ (lift bad2 ex l2).many) ∧
      ∀ F, (lift bad (bothG ex s.data.toList) l).val = some F → ∃ a c, (lift bad ex l).val = some a ∧ (lift bad2 ex l2).val = some c ∧ F = ofL [a, c] := by
  cases bad with
  | true => exact ⟨t1 :: r1, true, rfl, rfl, by rw [lift_true] at h1; exact h1, rfl, (fun e => by cases e), fun F hF => by cases hF⟩
  | false =>
    rw [lift_false] at h1
    rw [lift_false, lift_false]
    have hcase : (ex l).val = none ∨ ∃ a, (ex l).val = some a := by
      cases (ex l).val with
      | none => exact .inl rfl
      | some a => exact .inr ⟨a, rfl⟩
    rcases hcase with hv | ⟨a, hv⟩
    · have hy : isW (ex l).val.isNone s t1 = false := by rw [hv]; rfl
      have hB : bothG ex s.data.toList l = ⟨none, (ex l).rest, (ex l).many⟩ := bind_none _ hv
      refine ⟨t1 :: r1, true, by rw [hy]; rfl, by rw [hy]; rfl, ?_⟩
      rw [hB]
      exact ⟨h1, rfl, (fun e => by cases e), fun F hF => by cases hF⟩
    · have hy : isW (ex l).val.isNone s t1 = isT 6 s.data.toList t1 := by rw [hv]; rfl
      by_cases hd : isT 6 s.data.toList t1 = true
      · refine ⟨r1, false, by rw [hy, hd]; rfl, by rw [hy, hd]; rfl, ?_⟩
        have hB : bothG ex s.data.toList l = ⟨((ex r1).bind fun b l3 => pure' (ofL [a, b]) l3).val, ((ex r1).bind fun b l3 => pure' (ofL [a, b]) l3).rest, (ex l).many ++ ((ex r1).bind fun b l3 => pure' (ofL [a, b]) l3).many⟩ := by
          unfold bothG
          rw [bind_some _ hv, h1, signG, if_pos hd, pure_bind]
        rw [hB, lift_false]
        have hcase2 : (ex r1).val = none ∨ ∃ c, (ex r1).val = some c := by
          cases (ex r1).val with
          | none => exact .inl rfl
          | some c => exact .inr ⟨c, rfl⟩
        rcases hcase2 with hw | ⟨c, hw⟩
        · rw [bind_none _ hw]
          exact ⟨rfl, (by rw [hw]; rfl), (fun e => by exfalso; rw [hw] at e; simp at e), fun F hF => by cases hF⟩
        · rw [bind_some _ hw]
          refine ⟨rfl, by rw [hw]; rfl, (fun _ => by simp [pure']), fun F hF => ⟨a, c, hv, hw, ?_⟩⟩
          have : some (ofL [a, c]) = some F := hF
          cases this; rfl
      · have hd' : isT 6 s.data.toList t1 = false := by simpa using hd
        refine ⟨t1 :: r1, true, by rw [hy, hd']; rfl, by rw [hy, hd']; rfl, ?_⟩
        have hB : bothG ex s.data.toList l = ⟨none, t1 :: r1, (ex l).many ++ []⟩ := by
          unfold bothG
          rw [bind_some _ hv, h1, signG, if_neg hd]; rfl
        rw [hB]
        exact ⟨rfl, rfl, (fun e => by cases e), fun F hF => by cases hF⟩
set_option maxRecDepth 20000 in
set_option maxHeartbeats 4000000 in
theorem twoR_calls {B b : Nat} {ta : Option Addr} {tn tc : Nat} {T l : List Tk} {bad : Bool} {m : List Int} (hT : ∀ t ∈ T, WdT t) (hBb : B ≤ b) (s : ByteArray) (hs : wordB s.data.toList = false) (w : World) (h : RIs B b ta tn tc T l bad m w) :
    Calls Try.prog 48 #[.pointer (some ⟨b, 0, none⟩), .string s] w (APost B b ta tn tc T m (lift bad (bothG (exprN mx) s.data.toList) l) w) := by
  have hlt := h.lt
  have HE1 : Hid (Calls Try.prog 46 #[.pointer (some ⟨b, 0, none⟩)] w (RPost B b ta tn tc T m (lift bad (exprN mx) l) w)) := exprRN_calls hT hBb l bad m w h
  have HE : Hid (∀ l bad m w, RIs B b ta tn tc T l bad m w → Calls Try.prog 46 #[.pointer (some ⟨b, 0, none⟩)] w (RPost B b ta tn tc T m (lift bad (exprN mx) l) w)) := fun l bad m w h1 => exprRN_calls hT hBb l bad m w h1
  have HB := fun (t1 : Tk) (r1 : List Tk) h1 => both_plain (exprN mx) s bad l (t1 := t1) (r1 := r1) h1
  generalize exprN mx = ex at *
  generalize lift bad (bothG ex s.data.toList) l = X at *
  generalize lift bad ex l = X1 at *
  clear h
  go_enter Try.func48, Try.ntmps48
  go_wp2_with fail
  refine HE1.out.mono ?_
  rintro e w1 ⟨h1, k1, n1, c1, rfl, hk1, hp1, hE1⟩
  obtain ⟨t1, r1, hr1⟩ := hp1.here1
  have ht1 : WdT t1 := hT t1 (hp1.mem t1 (by rw [hr1]; simp))
  obtain ⟨l2, bad2, hl2, hb2, y1, y2, y3, y4⟩ := HB t1 r1 hr1
  have HY : Hid (X.rest = (lift bad2 ex l2).rest ∧ X.val.isNone = (lift bad2 ex l2).val.isNone ∧ ((lift bad2 ex l2).val.isNone = false → X.many = X1.many ++ (lift bad2 ex l2).many) ∧ ∀ F, X.val = some F → ∃ a c, X1.val = some a ∧ (lift bad2 ex l2).val = some c ∧ F = ofL [a, c]) := ⟨y1, y2, y3, y4⟩
  have hbA : ∀ o, Below w1.heap.size w1 (w1.alloc o) := fun o => (Below.refl _ _).alloc (Nat.le_refl _) o
  have HW : Hid (∀ o, Calls Try.prog 45 #[.pointer (some ⟨b, 0, none⟩), .string s] (w1.alloc o) fun e w' => e = .returned (.tuple #[]) ∧ Kr B b (w1.alloc o) w' ∧ RIs B b ta tn tc T l2 bad2 (m ++ X1.many) w') := fun o => by
    have hp := hp1.below (hbA o)
    rw [hr1] at hp
    have := hp.wantsC s hs ht1
    rw [hl2, hb2] at this
    exact this
  have H1 : Hid (Kr B b w w1 ∧ w.heap.size ≤ w1.heap.size ∧ b < w1.heap.size ∧ (∃ cs, w1.heap[b]? = some (.cells cs 58 (0, 0))) ∧ (w1.alloc (.cells #[.int .i64 h1.kind, .int .i64 h1.num, .string (bs h1.text), .slice k1 n1 c1, .int .i64 h1.pl] 35)).heap[w1.heap.size]? = some (.cells #[.int .i64 h1.kind, .int .i64 h1.num, .string (bs h1.text), .slice k1 n1 c1, .int .i64 h1.pl] 35 (0, 0)) ∧ ∀ a, X1.val = some a → a.1 = h1 ∧ ExAt true (fun g => w.heap.size ≤ g) (w1.alloc (.cells #[.int .i64 h1.kind, .int .i64 h1.num, .string (bs h1.text), .slice k1 n1 c1, .int .i64 h1.pl] 35)) a k1 n1) :=
    ⟨hk1, hk1.size, hp1.lt, hp1.own, heap_alloc_new w1 _, fun a ha => ⟨(hE1 a ha).1, (hE1 a ha).2.below (hbA _)⟩⟩
  clear hk1 hp1 hE1 hr1 ht1 hl2 hb2 y1 y2 y3 y4 hbA HB HE1
  go_wp2_with fail
  refine (HW.out _).mono ?_
  rintro e w2 ⟨rfl, hk2, hp2⟩
  have H2 : Hid (Kr B b w w2 ∧ w2.heap[w1.heap.size]? = some (.cells #[.int .i64 h1.kind, .int .i64 h1.num, .string (bs h1.text), .slice k1 n1 c1, .int .i64 h1.pl] 35 (0, 0)) ∧ (∃ cs, w2.heap[b]? = some (.cells cs 58 (0, 0))) ∧ ∀ a, X1.val = some a → a.1 = h1 ∧ ExAt true (fun g => w.heap.size ≤ g) w2 a k1 n1) := by
    obtain ⟨q1, q2, q3, ⟨cs, q4⟩, q5, q6⟩ := H1.out
    exact ⟨(q1.then_below ((Below.refl _ _).alloc (Nat.le_refl _) _)).trans hk2, hk2.keep q5 (by omega) (by decide), hp2.own, fun a ha => ⟨(q6 a ha).1, (q6 a ha).2.kr hk2 (heap_old q4)⟩⟩
  have hb1 := H1.out.2.2.1
  have HR2 : Hid (RIs B b ta tn tc T l2 bad2 (m ++ X1.many) w2) := hp2
  clear hk2 hp2 HW H1
  go_wp2_with fail
  refine (HE.out l2 bad2 _ w2 HR2.out).mono ?_
  rintro e w3 ⟨h3, k3, n3, c3, rfl, hk3, hp3, hE3⟩
  have hsz : w.heap.size ≤ w2.heap.size := H2.out.1.size
  have hsz3 := hk3.size
  have H3 : Hid (∀ o, Kr B b w (w3.alloc o) ∧ RIs B b ta tn tc T (lift bad2 ex l2).rest (lift bad2 ex l2).val.isNone (m ++ X1.many ++ (lift bad2 ex l2).many) (w3.alloc o) ∧ (w3.alloc o).heap[w1.heap.size]? = some (.cells #[.int .i64 h1.kind, .int .i64 h1.num, .string (bs h1.text), .slice k1 n1 c1, .int .i64 h1.pl] 35 (0, 0)) ∧ (∀ a, X1.val = some a → a.1 = h1 ∧ ExAt true (fun g => w.heap.size ≤ g) (w3.alloc o) a k1 n1) ∧ ∀ a, (lift bad2 ex l2).val = some a → a.1 = h3 ∧ ExAt true (fun g => w.heap.size ≤ g) (w3.alloc o) a k3 n3) := fun o => by
    have hb9 : Below w3.heap.size w3 (w3.alloc o) := (Below.refl _ _).alloc (Nat.le_refl _) o
    obtain ⟨q1, q2, ⟨cs, q3⟩, q4⟩ := H2.out
    refine ⟨(q1.trans hk3).then_below hb9, hp3.below hb9, heap_old (hk3.keep q2 (by omega) (by decide)), fun a ha => ⟨(q4 a ha).1, ((q4 a ha).2.kr hk3 q3).below hb9⟩, fun a ha => ⟨(hE3 a ha).1, ((hE3 a ha).2.base fun g _ hg => ?_).below hb9⟩⟩
    have h8 : w2.heap.size ≤ g := hg
    show w.heap.size ≤ g
    omega
  clear hk3 hp3 hE3 H2 HE HR2
  have e0 := fun o => blk (i := 0) (H3.out o).2.2.1 rfl
  have e1 := fun o => blk (i := 1) (H3.out o).2.2.1 rfl
  have e2 := fun o => blk (i := 2) (H3.out o).2.2.1 rfl
  have e3 := fun o => blk (i := 3) (H3.out o).2.2.1 rfl
  have e4 := fun o => blk (i := 4) (H3.out o).2.2.1 rfl
  have HZ : Hid (APost B b ta tn tc T m X w (.returned (.slice (some ⟨w3.heap.size + 1, 0, none⟩) 2 2)) ((w3.alloc (.cells #[.int .i64 h3.kind, .int .i64 h3.num, .string (bs h3.text), .slice k3 n3 c3, .int .i64 h3.pl] 35)).alloc (.cells #[.int .i64 h1.kind, .int .i64 h1.num, .string (bs h1.text), .slice k1 n1 c1, .int .i64 h1.pl, .int .i64 h3.kind, .int .i64 h3.num, .string (bs h3.text), .slice k3 n3 c3, .int .i64 h3.pl] 35))) := by
    obtain ⟨q1, q2, _, q4, q5⟩ := H3.out (.cells #[.int .i64 h3.kind, .int .i64 h3.num, .string (bs h3.text), .slice k3 n3 c3, .int .i64 h3.pl] 35)
    have hsw : (w3.alloc (.cells #[.int .i64 h3.kind, .int .i64 h3.num, .string (bs h3.text), .slice k3 n3 c3, .int .i64 h3.pl] 35)).heap.size = w3.heap.size + 1 := by simp
    have hb9 := (Below.refl (w3.alloc (.cells #[.int .i64 h3.kind, .int .i64 h3.num, .string (bs h3.text), .slice k3 n3 c3, .int .i64 h3.pl] 35)).heap.size (w3.alloc (.cells #[.int .i64 h3.kind, .int .i64 h3.num, .string (bs h3.text), .slice k3 n3 c3, .int .i64 h3.pl] 35))).alloc (Nat.le_refl _) (.cells #[.int .i64 h1.kind, .int .i64 h1.num, .string (bs h1.text), .slice k1 n1 c1, .int .i64 h1.pl, .int .i64 h3.kind, .int .i64 h3.num, .string (bs h3.text), .slice k3 n3 c3, .int .i64 h3.pl] 35)
    obtain ⟨y1, y2, y3, y4⟩ := HY.out
    refine ⟨some ⟨w3.heap.size + 1, 0, none⟩, 2, 2, rfl, q1.then_below hb9, ?_, fun F hF => ⟨by decide, ?_⟩⟩
    · rw [y1, y2]
      cases hq : (lift bad2 ex l2).val.isNone with
      | true => rw [hq] at q2; exact (q2.below hb9).any _
      | false =>
        rw [hq] at q2
        rw [y3 hq, ← List.append_assoc]
        exact q2.below hb9
    · obtain ⟨a, c, ha, hc, rfl⟩ := y4 F hF
      obtain ⟨g1, g2⟩ := q4 a ha
      obtain ⟨g3, g4⟩ := q5 c hc
      subst g1
      subst g3
      have hN := two_new (o := true) (S := fun g => w.heap.size ≤ g) (kc := c1) (c2 := c3) (by show w.heap.size ≤ _; omega) g2 g4
      rw [hsw] at hN
      exact hN
  clear H3 HY
  go_wp2
  go_ret
  exact HZ.out
end Go.Proofs.Ytnnmhmlebffacaa
namespace Go.Proofs.Ytnnmhmlebffacaa
open Go.RowKit Go.Deep

def kindsB : List (List UInt8) := [[108, 101, 116], [97, 108, 112, 104, 97, 98, 101, 116], [109, 97, 116, 99, 104], [109, 105, 115, 109, 97, 116, 99, 104], [112, 97, 105, 114], [103, 97, 112], [109, 111, 100, 101], [98, 97, 110, 100], [99, 108, 105, 112], [108, 101, 97, 115, 116]]
def kindVals : Array Value := (kindsB.map fun l => Value.string (bs l)).toArray
theorem kind_cell (W : World) (b : Nat) (f : Nat × Nat) (h : W.heap[b]? = some (.cells kindVals 9 f)) (k : Nat) (hk : k < 10) : ∃ x, kindsB[k]? = some x ∧ W.cell? ⟨b, k, none⟩ = some (.string (bs x)) := by
  have hl : kindsB.length = 10 := rfl
  refine ⟨kindsB[k]'(by omega), List.getElem?_eq_getElem (by omega), ?_⟩
  rw [cell_of_row W b k _ 9 f h]
  simp [kindVals, hl, hk]
theorem kind_at {k : Nat} {x : List UInt8} (hx : kindsB[k]? = some x) : itemKindB x = (k : Int) + 1 := by
  have hk : k < 10 := (List.getElem?_eq_some_iff.1 hx).1
  have : k = 0 ∨ k = 1 ∨ k = 2 ∨ k = 3 ∨ k = 4 ∨ k = 5 ∨ k = 6 ∨ k = 7 ∨ k = 8 ∨ k = 9 := by omega
  rcases this with rfl | rfl | rfl | rfl | rfl | rfl | rfl | rfl | rfl | rfl <;> (cases hx; rfl)
theorem kind_take {S x : List UInt8} {k : Nat} (hx : kindsB[k]? = some x) (h : S ∉ kindsB.take k) (hne : S ≠ x) : S ∉ kindsB.take (k + 1) := by
  obtain ⟨hlt, he⟩ := List.getElem?_eq_some_iff.1 hx
  rw [List.take_succ_eq_append_getElem hlt, he]
  simp [h, hne]
theorem kind_not {S : List UInt8} (h : S ∉ kindsB) : itemKindB S = 0 := by
  simp only [kindsB, List.mem_cons, List.not_mem_nil, or_false, not_or] at h
  obtain ⟨h1, h2, h3, h4, h5, h6, h7, h8, h9, h10⟩ := h
  unfold itemKindB
  rw [if_neg h1, if_neg h2, if_neg h3, if_neg h4, if_neg h5, if_neg h6, if_neg h7, if_neg h8, if_neg h9, if_neg h10]
set_option maxRecDepth 20000 in
set_option maxHeartbeats 2000000 in
theorem kindR_calls (s : ByteArray) (w : World) :
    Calls Try.prog 43 #[.string s] w fun e w' => e = .returned (.int .i64 (itemKindB s.data.toList)) ∧ Below w.heap.size w w' := by
  have HA : Hid (∀ cs, cs = kindVals → (w.alloc (.cells cs 9 (0, 0))).heap[w.heap.size]? = some (.cells kindVals 9 (0, 0))) := fun cs h => by subst h; exact heap_alloc_new w _
  have HB : Hid (∀ o, Below w.heap.size w (w.alloc o)) := fun o => (Below.refl _ _).alloc (Nat.le_refl _) _
  go_enter Try.func43, Try.ntmps43
  go_wp2
  generalize hW : w.alloc _ = W at *
  have hans : W.heap[w.heap.size]? = some (.cells kindVals 9 (0, 0)) := by rw [← hW]; exact HA.out _ rfl
  have HBW : Hid (Below w.heap.size w W) := by rw [← hW]; exact HB.out _
  have HAn : Hid (W.heap[w.heap.size]? = some (.cells kindVals 9 (0, 0))) := hans
  clear hans hW HA HB
  go_loop [4] (fun i => ∃ k : Nat, k ≤ 10 ∧ i = .int .i64 k ∧ s.data.toList ∉ kindsB.take k) (fun i => 10 - (intOf i).toNat)
  case atStart => exact ⟨0, by omega, rfl, by simp⟩
  case round =>
    obtain ⟨k, hk, rfl, hn⟩ := hrel
    have HN : Hid (s.data.toList ∉ kindsB.take k) := hn
    clear hn
    by_cases hlt : k < 10
    · obtain ⟨x, hx, hc⟩ := kind_cell W w.heap.size (0, 0) HAn.out k hlt
      have hdk : decide ((k : Int) < 10) = true := by simp; omega
      by_cases he : s.data.toList = x
      · have hb : ((bs x).toList == s.toList) = true := by rw [bs_toList, ByteArray.toList_eq, he]; simp
        have HE : Hid (itemKindB s.data.toList = (k : Int) + 1) := by
          show _ = _
          rw [he]
          exact kind_at hx
        clear hx he HN
        go_wp2
        go_ret
        exact ⟨ret_int HE.out.symm, HBW.out⟩
      · have hb : ((bs x).toList == s.toList) = false := by
          rw [bs_toList, ByteArray.toList_eq, beq_eq_false_iff_ne]
          exact fun e => he e.symm
        have HS : Hid (s.data.toList ∉ kindsB.take (k + 1)) := kind_take hx HN.out he
        clear hx he HN
        go_wp2
        go_round
        case rel => exact ⟨k + 1, by omega, by go_num, HS.out⟩
        case measure => simp [intOf]; omega
    · have hdk : decide ((k : Int) < 10) = false := by simp; omega
      have HE : Hid (itemKindB s.data.toList = 0) := by
        show _ = _
        have h := HN.out
        rw [List.take_of_length_le (by show 10 ≤ k; omega)] at h
        exact kind_not h
      clear HN
      go_wp2
      go_ret
      exact ⟨ret_int HE.out.symm, HBW.out⟩
set_option maxRecDepth 20000 in
set_option maxHeartbeats 2000000 in
theorem deepR1_calls {o : Bool} {S : Nat → Prop} (it : It) (ka : Option Addr) (kc kk : Nat) (wo : World) (hkm : kc ≤ maxLen) (h : FoAt o S wo it.args ka kc) :
    Calls Try.prog 28 #[.agg #[.int .i64 it.kind, .string (bs it.name), .slice ka kc kk, .int .i64 it.pl]] wo fun e w' => e = .returned (.bool (deepW it)) ∧ Below wo.heap.size wo w' := by
  obtain ⟨g5, off5, hkb, hF5⟩ := foAt_addr h
  unfold maxLen at hkm
  have HD : Hid (∀ (e : Ex) (ka : Option Addr) (kn kc : Nat) (w : World), ExAt o S w e ka kn →
      Calls Try.prog 20 #[.agg #[.int .i64 e.1.kind, .int .i64 e.1.num, .string (bs e.1.text), .slice ka kn kc, .int .i64 e.1.pl]] w fun e' w' => e' = .returned (.int .i64 (wrap64 (depW e.2 + 1))) ∧ Below w.heap.size w w') := fun e ka kn kc w h1 => depthR_calls _ e ka kn kc w o S h1 (Nat.lt_succ_self _)
  have hbx : Below wo.heap.size wo (wo.alloc (.cells #[.int .i64 it.kind, .string (bs it.name), .slice ka kc kk, .int .i64 it.pl] 42)) := (Below.refl _ _).alloc (Nat.le_refl _) _
  have HI : Hid (FoAt o S (wo.alloc (.cells #[.int .i64 it.kind, .string (bs it.name), .slice ka kc kk, .int .i64 it.pl] 42)) it.args (some ⟨g5, off5 + 0 * 5, none⟩) (kc - 0)) := hF5.below hbx
  have HW0 : Hid (Below wo.heap.size wo (wo.alloc (.cells #[.int .i64 it.kind, .string (bs it.name), .slice ka kc kk, .int .i64 it.pl] 42)) ∧ (wo.alloc (.cells #[.int .i64 it.kind, .string (bs it.name), .slice ka kc kk, .int .i64 it.pl] 42)).heap[wo.heap.size]? = some (.cells #[.int .i64 it.kind, .string (bs it.name), .slice ka kc kk, .int .i64 it.pl] 42 (0, 0))) := ⟨hbx, heap_alloc_new wo _⟩
  clear hbx hF5 h
  go_enter Try.func28, Try.ntmps28
  go_wp2_with fail
  go_loopg [3] kc (fun k jv ws => ∃ (G : Fo) (j : Nat), jv = .int .i64 (j : Int) ∧ j + k = kc ∧ Hid (FoAt o S ws G (some ⟨g5, off5 + j * 5, none⟩) (kc - j) ∧ decide (32 < depW G) = deepW it) ∧ Hid (Below wo.heap.size wo ws ∧ ws.heap[wo.heap.size]? = some (.cells #[.int .i64 it.kind, .string (bs it.name), .slice ka kc kk, .int .i64 it.pl] 42 (0, 0))))
  case atStart => exact ⟨it.args, 0, rfl, by omega, ⟨HI.out, rfl⟩, HW0.out⟩
  case round =>
    clear HI HW0
    obtain ⟨G, j, rfl, hjk, HG, HB⟩ := hrel
    have p2 := blk (i := 2) HB.out.2 rfl
    by_cases hj : j < kc
    · have hdj : decide ((j : Int) < (kc : Int)) = true := by simp; omega
      obtain ⟨b0, o0, h2, k2, r2, ka2, kc2, kk2, rfl, -, hok, hkc2, ⟨e0, e1, e2, e3, e4⟩, hk2, hr2⟩ := foAt_head HG.out.1 hj
      have hkb2 := hkb (by omega)
      subst hkb2
      have HE2 : Hid (ExAt o S wr (h2, k2) ka2 kc2) := ⟨hok, hkc2, hk2⟩
      have HR2 : Hid (FoAt o S wr r2 (some ⟨g5, off5 + (j + 1) * 5, none⟩) (kc - (j + 1)) ∧ decide (32 < max (wrap64 (depW k2 + 1)) (depW r2)) = deepW it) := ⟨hr2, HG.out.2⟩
      clear HG hk2 hr2 hok hkc2
      go_wp2_with fail
      refine (HD.out (h2, k2) ka2 kc2 kk2 _ HE2.out).mono ?_
      rintro e' w3 ⟨rfl, hb3⟩
      have HR3 : Hid (FoAt o S w3 r2 (some ⟨g5, off5 + (j + 1) * 5, none⟩) (kc - (j + 1))) := HR2.out.1.below hb3
      have HB3 : Hid (Below wo.heap.size wo w3 ∧ w3.heap[wo.heap.size]? = some (.cells #[.int .i64 it.kind, .string (bs it.name), .slice (some ⟨g5, off5, none⟩) kc kk, .int .i64 it.pl] 42 (0, 0))) := ⟨HB.out.1.trans (hb3.mono HB.out.1.size), by rw [hb3.block _ (lt_block HB.out.2)]; exact HB.out.2⟩
      have HS3 : Hid (decide (32 < max (wrap64 (depW k2 + 1)) (depW r2)) = deepW it) := HR2.out.2
      clear hb3 HE2 HR2 HB p2
      generalize wrap64 (depW k2 + 1) = dk at *
      by_cases hdk : 32 < dk
      · have hdd : decide (32 < dk) = true := by simp; omega
        have HX : Hid (deepW it = true) := by
          have h1 := HS3.out
          rw [show decide (32 < max dk (depW r2)) = true by simp; omega] at h1
          exact h1.symm
        clear HS3 HR3
        go_wp2
        go_ret
        exact ⟨ret_bool HX.out.symm, HB3.out.1⟩
      · have hdd : decide (32 < dk) = false := by simp; omega
        have HG2 : Hid (decide (32 < depW r2) = deepW it) := by
          show _ = _
          rw [← HS3.out]
          congr 1
          simp only [eq_iff_iff]
          omega
        clear HS3
        go_wp2_with fail
        go_roundg (gk - 1)
        case measure => omega
        case rel => exact ⟨r2, j + 1, by go_num, by omega, ⟨HR3.out, HG2.out⟩, HB3.out⟩
    · have hdj : decide ((j : Int) < (kc : Int)) = false := by simp; omega
      have HX : Hid (deepW it = false ∧ Below wo.heap.size wo wr) := by
        obtain ⟨h1, h2⟩ := HG.out
        rw [show kc - j = 0 by omega] at h1
        have hG := foAt_end h1
        subst hG
        exact ⟨h2.symm.trans rfl, HB.out.1⟩
      clear HG HB
      go_wp2
      go_ret
      exact ⟨ret_bool HX.out.1.symm, HX.out.2⟩
end Go.Proofs.Ytnnmhmlebffacaa
