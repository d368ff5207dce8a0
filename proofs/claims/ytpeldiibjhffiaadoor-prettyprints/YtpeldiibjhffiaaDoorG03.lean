/-
  A statement that leaves its order open, whose last operation stores into a cell that an early one loads: the loads are taken first, under a condition on the world that need not hold behind the last operation. Terms. append on a row of the call's own, and where the new row lies: in the old one's block, or in a new one.
-/
import Derived.Deep.RegionHeld3
import Derived.Deep.LoopGhost
import Derived.ArgAppend
import Derived.Test.YtpeldiibjhffiaaDoorG02
import Derived.Test.YtpeldiibjhffiaaDoorG00
namespace Go.Proofs.YtpeldiibjhffiaaDoor

section
variable {P : Program} {ops : Array Oper} {Q : Exit → Act → World → Prop} {md : Region.Mode} {S : World → Prop} {x : Nat}

/-- Does operation 'j' wait for operation 'i', over others too? -/
def waitsB (md : Region.Mode) (ops : Array Oper) (i : Nat) : Nat → Nat → Bool
  | 0, _ => false
  | f + 1, j => match ops[j]? with
    | none => false
    | some o => o.after.toList.any fun e => Region.binds md e && (decide (e.on = i) || waitsB md ops i f e.on)
def closedB (md : Region.Mode) (ops : Array Oper) (listed : Array Bool) : Bool :=
  (List.range ops.size).all fun j => !(listed.getD j false) || match ops[j]? with
    | none => true
    | some o => o.after.toList.all fun e => !(Region.binds md e) || listed.getD e.on false
def Closed (md : Region.Mode) (ops : Array Oper) (listed : Array Bool) : Prop :=
  ∀ j o, ops[j]? = some o → listed.getD j false = true → ∀ e ∈ o.after, Region.binds md e = true → listed.getD e.on false = true
theorem closed_of {listed : Array Bool} (h : closedB md ops listed = true) : Closed md ops listed := by
  intro j o ho hl e he hb
  unfold closedB at h
  rw [List.all_eq_true] at h
  have hj := h j (List.mem_range.2 (Array.getElem?_eq_some_iff.1 ho).1)
  rw [hl, ho] at hj
  simp only [Bool.not_true, Bool.false_or, List.all_eq_true] at hj
  have := hj e (by simpa using he)
  rw [hb] at this
  simpa using this
theorem Closed.waits {listed : Array Bool} (h : Closed md ops listed) (i : Nat) : ∀ (f j : Nat), listed.getD j false = true → waitsB md ops i f j = true → listed.getD i false = true
  | 0, _, _, hw => by cases hw
  | f + 1, j, hl, hw => by
    unfold waitsB at hw
    split at hw
    · cases hw
    · rename_i o ho
      rw [List.any_eq_true] at hw
      obtain ⟨e, he, hb⟩ := hw
      simp only [Bool.and_eq_true, Bool.or_eq_true, decide_eq_true_eq] at hb
      have hl2 := h j o ho hl e (by simpa using he) hb.1
      rcases hb.2 with heq | hw2
      · rw [← heq]; exact hl2
      · exact h.waits i f e.on hl2 hw2
theorem Closed.ready {listed : Array Bool} (h : Closed md ops listed) {i j f : Nat} (hj : j ∈ Region.ready md ops listed) (hw : waitsB md ops i f j = true) : listed.getD i false = true := by
  obtain ⟨_, o, ho, hall⟩ := mem_ready.1 hj
  cases f with
  | zero => cases hw
  | succ f =>
    unfold waitsB at hw
    rw [ho] at hw
    simp only [List.any_eq_true] at hw
    obtain ⟨e, he, hb⟩ := hw
    simp only [Bool.and_eq_true, Bool.or_eq_true, decide_eq_true_eq] at hb
    have hl2 := hall e (by simpa using he) hb.1
    rcases hb.2 with heq | hw2
    · rw [← heq]; exact hl2
    · exact h.waits i f e.on hl2 hw2
theorem Closed.put {listed : Array Bool} (h : Closed md ops listed) {j : Nat} (hj : j ∈ Region.ready md ops listed) : Closed md ops (listed.setIfInBounds j true) := by
  intro k o ho hl e he hb
  obtain ⟨_, o', ho', hall⟩ := mem_ready.1 hj
  by_cases hk : j = k
  · subst hk
    rw [ho] at ho'; cases ho'
    exact getD_set_true (hall e he hb)
  · rw [getD_set_ne false hk] at hl
    exact getD_set_true (h k o ho hl e he hb)

/-- Whatever order is picked from here on, and 'S' holds behind every operation that is carried out, but for operation 'x'. -/
def wpAnyX (P : Program) (md : Region.Mode) (ops : Array Oper) (Q : Exit → Act → World → Prop) (S : World → Prop) (x : Nat) : Nat → Array Bool → Act → World → Prop
  | 0, listed, a, w => Region.ready md ops listed = [] ∧ Q .normal a w
  | fuel + 1, listed, a, w =>
    (Region.ready md ops listed = [] → Q .normal a w) ∧
    ∀ i ∈ Region.ready md ops listed, wpOp P ops Q i (fun a' w' => (i ≠ x → S w') ∧ wpAnyX P md ops Q S x fuel (listed.setIfInBounds i true) a' w') a w

theorem wpAny_of_X : ∀ (fuel : Nat) (listed : Array Bool) (a : Act) (w : World), wpAnyX P md ops Q S x fuel listed a w → wpAny P md ops Q fuel listed a w
  | 0, _, _, _, h => h
  | fuel + 1, _, _, _, h => ⟨h.1, fun i hi => wpOp_mono (fun a' w' h' => wpAny_of_X fuel _ a' w' h'.2) (h.2 i hi)⟩

theorem wpAnyX_first {i : Nat} {oi : Oper} {v : Value} {f : Nat} (hi : ops[i]? = some oi) (hsel : ∀ (j : Nat) (o : Oper) cs b, ops[j]? = some o → o.op ≠ .select cs b)
    (hQ : ∀ c a w, Q (.panic c) (a.put oi.dst v) w → Q (.panic c) a w) (hx : waitsB md ops i f x = true) :
    ∀ (fuel : Nat) (listed : Array Bool) (a : Act) (w : World), Closed md ops listed →
      (∀ j oj, ops[j]? = some oj → j ≠ i → listed.getD j true = false → (∀ e ∈ oj.after, Region.binds md e = true → e.on ≠ i) → oi.apart ops oj = true) →
      i ∈ Region.ready md ops listed → YieldsIf P ops S oi v a → S w →
      wpAnyX P md ops Q S x fuel (listed.setIfInBounds i true) (a.put oi.dst v) w → wpAnyX P md ops Q S x (fuel + 1) listed a w := by
  intro fuel
  induction fuel with
  | zero =>
    intro listed a w _ _ hr hy hS H
    refine ⟨fun h => (by rw [h] at hr; cases hr), fun j hj => ?_⟩
    by_cases hji : j = i
    · subst hji; exact hy.wpOp hi hS ⟨fun _ => hS, H⟩
    · have := ready_mono hj hji
      rw [H.1] at this
      cases this
  | succ fuel ih =>
    intro listed a w hcl hfree hr hy hS H
    refine ⟨fun h => (by rw [h] at hr; cases hr), fun j hj => ?_⟩
    by_cases hji : j = i
    · subst hji; exact hy.wpOp hi hS ⟨fun _ => hS, H⟩
    · have hjx : j ≠ x := by
        intro e
        subst e
        have h1 := hcl.ready hj hx
        have h0 := (mem_ready.1 hr).1
        rcases Nat.lt_or_ge i listed.size with h' | h'
        · simp [h'] at h0 h1; rw [h0] at h1; cases h1
        · simp [Array.getElem?_eq_none h'] at h1
      have h1 := H.2 j (ready_mono hj hji)
      obtain ⟨hjun, oj, hoj, hall⟩ := mem_ready.1 hj
      have hnot : ∀ e ∈ oj.after, Region.binds md e = true → e.on ≠ i := fun e he hb heq => by
        have h1 := hall e he hb
        have h0 := (mem_ready.1 hr).1
        rw [heq] at h1
        rcases Nat.lt_or_ge i listed.size with h' | h'
        · simp [h'] at h0 h1; rw [h0] at h1; cases h1
        · simp [Array.getElem?_eq_none h'] at h1
      have h2 := wpOp_putIf hoj (hfree j oj hoj hji hjun hnot) (fun cs b => hsel i oi cs b hi) (fun cs b => hsel j oj cs b hoj) hQ hy h1
      have hfree' : ∀ k ok, ops[k]? = some ok → k ≠ i → (listed.setIfInBounds j true).getD k true = false →
          (∀ e ∈ ok.after, Region.binds md e = true → e.on ≠ i) → oi.apart ops ok = true := fun k ok hk hki hun hno => by
        refine hfree k ok hk hki ?_ hno
        by_cases hjk : j = k
        · subst hjk; exact hjun
        · rw [getD_set_ne true hjk] at hun; exact hun
      refine wpOp_mono (fun a' w' h3 => ⟨h3.2.1, ih (listed.setIfInBounds j true) a' w' (hcl.put hj) hfree' (ready_mono hr (Ne.symm hji)) h3.1 (h3.2.1 hjx) ?_⟩) h2
      rw [Array.setIfInBounds_comm _ _ hji]
      exact h3.2.2

theorem wpAnyX_take {i : Nat} {oi : Oper} {v : Value} {fuel : Nat} {listed : Array Bool} {a : Act} {w : World} (hi : ops[i]? = some oi)
    (hs : Region.noSelect ops = true) (hc : closedB md ops listed = true) (hx : waitsB md ops i ops.size x = true) (hf : Region.free md ops listed i = true) (hr : (Region.ready md ops listed).contains i = true)
    (hQ : ∀ c a w, Q (.panic c) (a.put oi.dst v) w → Q (.panic c) a w) (hS : S w) (hy : YieldsIf P ops S oi v a)
    (h : wpAnyX P md ops Q S x fuel (listed.setIfInBounds i true) (a.put oi.dst v) w) : wpAnyX P md ops Q S x (fuel + 1) listed a w :=
  wpAnyX_first hi (Region.noSelect_spec hs) hQ hx fuel listed a w (closed_of hc) (Region.free_spec hi hf) (by simpa using hr) hy hS h

/-- One operation alone may come up. -/
theorem wpAnyX_one {i : Nat} {o : Oper} {fuel : Nat} {listed : Array Bool} {a : Act} {w : World} (ho : ops[i]? = some o) (hr : Region.ready md ops listed = [i])
    (h : ∀ K' : Act → World → Prop, Shut (∀ a w, (i ≠ x → S w) → wpAnyX P md ops Q S x fuel (listed.setIfInBounds i true) a w → K' a w) → if Region.wanted o (yielded ops a.tmps) = true then Oper.wp P o a w K' Q else K' (a.put o.dst undef) w) :
    wpAnyX P md ops Q S x (fuel + 1) listed a w := by
  refine ⟨fun h0 => absurd (hr.symm.trans h0) (by simp), fun j hj => ?_⟩
  rw [hr] at hj
  obtain rfl := List.mem_singleton.1 hj
  exact wpOp_step ho (fun K' hK => h K' (fun a w hS hW => hK a w ⟨hS, hW⟩))

theorem wpAnyX_done {listed : Array Bool} {a : Act} {w : World} (hr : Region.ready md ops listed = []) (h : Q .normal a w) : ∀ fuel, wpAnyX P md ops Q S x fuel listed a w
  | 0 => ⟨hr, h⟩
  | _ + 1 => ⟨fun _ => h, by rw [hr]; simp⟩

theorem wp_region_X {id : Nat} {a : Act} {w : World} (x : Nat) (S : World → Prop) (hm : P.follows .mixedOrders = true)
    (h : wpAnyX P .any ops Q S x ops.size (Array.replicate ops.size false) a w.drew) : (Code.region id ops true).wp P Q a w :=
  wp_region_any hm (wpAny_of_X _ _ _ _ h)
end
end Go.Proofs.YtpeldiibjhffiaaDoor
namespace Go.Proofs.YtpeldiibjhffiaaDoor
open Go.RowKit Go.Deep

/-- A contract as the walk wants it: an expression was read. -/
theorem ex_ok {b : Nat} {ta : Option Addr} {tn tc : Nat} {T : List Tk} {f : Int × Int} {x : Rs Ex} {W : World} {N : Nat} {args : Array Value} {a : Ex}
    (h : Calls Tryd.prog N args W (PPost b ta tn tc T f x (VEx W.heap.size) W)) (hx : x.val = some a) :
    Calls Tryd.prog N args W fun e w' => ∃ ka kn kc, e = .returned (.agg #[.int .i64 a.1.kind, .int .i64 a.1.num, .string (bs a.1.text), .slice ka kn kc, .int .i64 a.1.pl]) ∧ ExAt true (fun g => W.heap.size ≤ g) w' a ka kn ∧ Kp b W w' ∧ PAt b ta tn tc T x.rest (flt x.many f) w' := by
  refine (calls_ok h hx).mono ?_
  rintro e w' ⟨v, he, ⟨ka, kn, kc, hv, hE⟩, hK, hP⟩
  exact ⟨ka, kn, kc, by rw [he, hv]; rfl, hE, hK, hP⟩
/-- The beginning of a loop: the first expression lies in its variable. -/
theorem TL.start {b : Nat} {ta : Option Addr} {tn tc : Nat} {T : List Tk} {w w1 : World} {l : List Tk} {f : Int × Int} {e : Ex} {ka : Option Addr} {kn kc : Nat}
    (hb : b < w.heap.size) (hE : ExAt true (fun g => (w.alloc (.cells zero5 40)).heap.size ≤ g) w1 e ka kn) (hK : Kp b (w.alloc (.cells zero5 40)) w1) (hP : PAt b ta tn tc T l f w1) :
    TL b ta tn tc T w w.heap.size w1.heap.size l f e ka kn kc (w1.alloc (.cells (exArr e.1 ka kn kc) 40)) := by
  have hs : w.heap.size + 1 ≤ w1.heap.size := by have := hK.size; simp at this; omega
  have hbel : Below w1.heap.size w1 (w1.alloc (.cells (exArr e.1 ka kn kc) 40)) := (Below.refl _ _).alloc (Nat.le_refl _) _
  have h0 : w1.heap[w.heap.size]? = some (.cells zero5 40 (0, 0)) := by
    rw [hK.block w.heap.size (by simp) (by omega)]; exact heap_alloc_new w _
  refine ⟨hP.below hbel, ((Kp.refl b w).alloc _).trans (hK.then_below hbel), Nat.le_refl _, by omega, by omega, hb, heap_old h0, heap_alloc_new w1 _, ?_⟩
  refine (hE.base fun g h1 h2 => ?_).below hbel
  have h3 : (w.alloc (.cells zero5 40)).heap.size ≤ g := h2
  simp at h3
  exact ⟨by omega, by omega, by omega⟩
/-- What is still to come says what all says. -/
def Eqv {α : Type} (X Y : Rs α) (f f' : Int × Int) : Prop := X.val = Y.val ∧ X.rest = Y.rest ∧ flt X.many f = flt Y.many f'
set_option maxRecDepth 20000 in
set_option maxHeartbeats 2000000 in
theorem term_calls {b : Nat} {ta : Option Addr} {tn tc : Nat} {T : List Tk} (n : Nat)
    (HF : ∀ l f w, PAt b ta tn tc T l f w → l.length ≤ n → Calls Tryd.prog 92 #[.pointer (some ⟨b, 0, none⟩)] w (PPost b ta tn tc T f (facN n l) (VEx w.heap.size) w)) (l : List Tk) (f : Int × Int) (w : World) (h : PAt b ta tn tc T l f w) (hl : l.length ≤ n) :
    Calls Tryd.prog 88 #[.pointer (some ⟨b, 0, none⟩)] w (PPost b ta tn tc T f (termG (facN n) l) (VEx w.heap.size) w) := by
  have hres : Tryd.f88.results = #[.cell 2 40] := by kernel_rfl
  have HP : Hid (PAt b ta tn tc T l f w) := h
  have HA : Hid (PAt b ta tn tc T l f (w.alloc (.cells zero5 40))) := HP.out.below ((Below.refl _ _).alloc (Nat.le_refl _) _)
  have hlt := h.lt
  cases hx : (facN n l).val with
  | none =>
    have HN : Hid (Calls Tryd.prog 92 #[.pointer (some ⟨b, 0, none⟩)] (w.alloc (.cells zero5 40)) fun e w' => ∃ v, e = .panicked [{ v := .iface 32 v, recovered := false }] ∧ Kp b (w.alloc (.cells zero5 40)) w' ∧ PAt b ta tn tc T (facN n l).rest (70, plOf (facN n l).rest) w') := calls_no (HF l f _ HA.out hl) hx
    have HE : Hid (termG (facN n) l = ⟨none, (facN n l).rest, (facN n l).many⟩) := bind_none _ hx
    clear hx h HF HA
    generalize facN n l = x at *
    go_enter Tryd.func88, Tryd.ntmps88
    go_wp2_with fail
    refine HN.out.mono ?_
    rintro e w1 ⟨v, rfl, hk1, hp1⟩
    have HR : Hid (Kp b w w1 ∧ PAt b ta tn tc T x.rest (70, plOf x.rest) w1) := ⟨((Kp.refl b w).alloc _).trans hk1, hp1⟩
    clear hk1 hp1 HN
    refine ⟨rfl, ?_⟩
    rw [HE.out]
    exact ⟨HR.out.1, .inr ⟨rfl, ⟨_, rfl⟩, HR.out.2⟩⟩
  | some a =>
    have HN : Hid (Calls Tryd.prog 92 #[.pointer (some ⟨b, 0, none⟩)] (w.alloc (.cells zero5 40)) fun e w' => ∃ ka kn kc, e = .returned (.agg #[.int .i64 a.1.kind, .int .i64 a.1.num, .string (bs a.1.text), .slice ka kn kc, .int .i64 a.1.pl]) ∧ ExAt true (fun g => (w.alloc (.cells zero5 40)).heap.size ≤ g) w' a ka kn ∧ Kp b (w.alloc (.cells zero5 40)) w' ∧ PAt b ta tn tc T (facN n l).rest (flt (facN n l).many f) w') := ex_ok (HF l f _ HA.out hl) hx
    have HE : Hid (termG (facN n) l = ⟨(termGo (facN n) mx a (facN n l).rest).val, (termGo (facN n) mx a (facN n l).rest).rest, (facN n l).many ++ (termGo (facN n) mx a (facN n l).rest).many⟩) := bind_some _ hx
    have HLn : Hid ((facN n l).rest.length ≤ n) := Nat.le_trans (suf_len (fac_suf n l)) hl
    generalize facN n l = x at *
    generalize termG (facN n) l = X at *
    clear hx h HA
    go_enter Tryd.func88, Tryd.ntmps88
    go_wp2_with fail
    refine HN.out.mono ?_
    rintro e w1 ⟨ka, kn, kc, rfl, hE1, hk1, hp1⟩
    have HR : Hid (TL b ta tn tc T w w.heap.size w1.heap.size x.rest (flt x.many f) a ka kn kc (w1.alloc (.cells (exArr a.1 ka kn kc) 40))) := TL.start hlt hE1 hk1 hp1
    clear hE1 hk1 hp1 HN
    have HQ : Hid (Eqv X (termGo (facN n) mx a x.rest) f (flt x.many f)) := by
      show _ ∧ _ ∧ _
      rw [HE.out]
      exact ⟨rfl, rfl, flt_append _ _ _⟩
    have HM : Hid (x.rest.length ≤ mx) := HR.out.p.len
    clear HE
    go_wp2_with fail
    generalize flt x.many f = f1 at *
    generalize x.rest = l1 at *
    clear x
    go_loopg [] l1.length (fun k wr => ∃ l' f' e ka kn kc m, l'.length = k ∧ Hid (TL b ta tn tc T w w.heap.size w1.heap.size l' f' e ka kn kc wr) ∧ Hid (l'.length ≤ n ∧ l'.length ≤ m ∧ Eqv X (termGo (facN n) m e l') f f'))
    case atStart => exact ⟨l1, f1, a, ka, kn, kc, mx, rfl, HR.out, HLn.out, HM.out, HQ.out⟩
    case round =>
      clear HR HQ HLn HM
      obtain ⟨l', f', q, kb, km, kd, m, rfl, HT, HL⟩ := hrel

      obtain ⟨t, r, rfl⟩ := HT.out.p.here1
      cases hs : isT 6 [42] t with
      | false =>
        have HS : Hid (Calls Tryd.prog 87 #[.pointer (some ⟨b, 0, none⟩), .int .i64 6, .string ⟨#[42]⟩] wr fun e w' => e = .returned (.bool false) ∧ Below wr.heap.size wr w') := by
          have := sees_calls wr HT.out.p 6 ⟨#[42]⟩
          rw [show (⟨#[42]⟩ : ByteArray).data.toList = [42] from rfl, hs] at this; exact this
        have HX : Hid (Eqv X (pure' q (t :: r)) f f') := by
          obtain ⟨_, h2, h3⟩ := HL.out
          cases m with
          | zero => simp at h2
          | succ m => rw [termGo, if_neg (by rw [hs]; decide)] at h3; exact h3
        clear hs HL
        go_wp2_with fail
        refine HS.out.mono ?_
        rintro e w2 ⟨rfl, hb2⟩
        have HT2 : Hid (TL b ta tn tc T w w.heap.size w1.heap.size (t :: r) f' q kb km kd w2) := HT.out.next hb2
        clear hb2 HS HT
        obtain ⟨c0, c1, c2, c3, c4⟩ := HT2.out.cells
        obtain ⟨z0, z1, z2, z3, z4, zf⟩ := HT2.out.zeros
        have hne : ¬ w.heap.size = w1.heap.size := HT2.out.ne
        have HV : Hid (VEx w.heap.size q (.agg #[.int .i64 q.1.kind, .int .i64 q.1.num, .string (bs q.1.text), .slice kb km kd, .int .i64 q.1.pl]) (((((w2.setCell ⟨w.heap.size, 0, none⟩ (.int .i64 q.1.kind)).setCell ⟨w.heap.size, 1, none⟩ (.int .i64 q.1.num)).setCell ⟨w.heap.size, 2, none⟩ (.string (bs q.1.text))).setCell ⟨w.heap.size, 3, none⟩ (.slice kb km kd)).setCell ⟨w.heap.size, 4, none⟩ (.int .i64 q.1.pl))) := ⟨kb, km, kd, rfl, (HT2.out.done _ _ _ _ _ rfl).2.2⟩
        have HD : Hid (Kp b w (((((w2.setCell ⟨w.heap.size, 0, none⟩ (.int .i64 q.1.kind)).setCell ⟨w.heap.size, 1, none⟩ (.int .i64 q.1.num)).setCell ⟨w.heap.size, 2, none⟩ (.string (bs q.1.text))).setCell ⟨w.heap.size, 3, none⟩ (.slice kb km kd)).setCell ⟨w.heap.size, 4, none⟩ (.int .i64 q.1.pl)) ∧ PAt b ta tn tc T (t :: r) f' (((((w2.setCell ⟨w.heap.size, 0, none⟩ (.int .i64 q.1.kind)).setCell ⟨w.heap.size, 1, none⟩ (.int .i64 q.1.num)).setCell ⟨w.heap.size, 2, none⟩ (.string (bs q.1.text))).setCell ⟨w.heap.size, 3, none⟩ (.slice kb km kd)).setCell ⟨w.heap.size, 4, none⟩ (.int .i64 q.1.pl))) := ⟨(HT2.out.done _ _ _ _ _ rfl).1, (HT2.out.done _ _ _ _ _ rfl).2.1⟩
        clear HT2
        go_wp2
        refine bodyPost_ret (v := .agg #[.int .i64 q.1.kind, .int .i64 q.1.num, .string (bs q.1.text), .slice kb km kd, .int .i64 q.1.pl]) ?_ rfl ?_
        · simp only [results, hres]
          go_simp
        · refine ⟨HD.out.1, .inl ⟨q, _, HX.out.1, rfl, HV.out, ?_⟩⟩
          rw [HX.out.2.1, HX.out.2.2]
          exact (flt_nil f').symm ▸ HD.out.2
      | true =>
        have HS : Hid (Calls Tryd.prog 87 #[.pointer (some ⟨b, 0, none⟩), .int .i64 6, .string ⟨#[42]⟩] wr fun e w' => e = .returned (.bool true) ∧ Below wr.heap.size wr w') := by
          have := sees_calls wr HT.out.p 6 ⟨#[42]⟩
          rw [show (⟨#[42]⟩ : ByteArray).data.toList = [42] from rfl, hs] at this; exact this
        have hk : t.kind ≠ 1 := by
          intro e; unfold isT at hs; rw [e] at hs; simp at hs
        have HN : Hid (∀ w, PAt b ta tn tc T (t :: r) f' w → Calls Tryd.prog 86 #[.pointer (some ⟨b, 0, none⟩)] w fun e w' => e = .returned (.agg #[.int .i64 t.kind, .int .i64 t.num, .string (bs t.text), .int .i64 (t.pl : Int)]) ∧ Kp b w w' ∧ PAt b ta tn tc T r f' w') := fun w h => nextP_calls w h hk
        obtain ⟨m', HX⟩ : ∃ m', Hid (r.length ≤ m' ∧ r.length ≤ n ∧ Eqv X ((facN n r).bind fun e2 l2 => termGo (facN n) m' (hdB 7 t, ofL [q, e2]) l2) f f') := by
          obtain ⟨h1, h2, h3⟩ := HL.out
          cases m with
          | zero => simp at h2
          | succ m => rw [termGo, if_pos hs] at h3; exact ⟨m, by simp at h2; exact h2, by simp at h1; omega, h3⟩
        have hfd := fld48_3
        have HPl : Hid (t.pl ≤ 4000) := by
          obtain ⟨k, hk1, _, _⟩ := HT.out.p.block
          have hmem : t ∈ T := by
            have : t ∈ T.drop k := by rw [hk1]; simp
            exact List.mem_of_mem_drop this
          exact (HT.out.p.toks.fits t hmem).pl
        clear hs HL hk
        go_wp2_with fail
        refine HS.out.mono ?_
        rintro e w2 ⟨rfl, hb2⟩
        have HT2 : Hid (TL b ta tn tc T w w.heap.size w1.heap.size (t :: r) f' q kb km kd w2) := HT.out.next hb2
        clear hb2 HS HT
        go_wp2_with fail
        refine (HN.out _ HT2.out.p).mono ?_
        rintro e w3 ⟨rfl, hk3, hp3⟩
        have HT3 : Hid (TL b ta tn tc T w w.heap.size w1.heap.size r f' q kb km kd w3.drew) := (HT2.out.go hk3 hp3).next (Below.refl _ _).drew
        clear hk3 hp3 HN HT2
        go_wp2_with fail
        have HS0 : Hid (SC w1.heap.size q.1 kb km kd w3.drew) := HT3.out.sc
        cases hx : (facN n r).val with
        | none =>
          have HFa : Hid (Calls Tryd.prog 92 #[.pointer (some ⟨b, 0, none⟩)] w3.drew fun e w' => ∃ v, e = .panicked [{ v := .iface 32 v, recovered := false }] ∧ Hid (Kp b w3.drew w' ∧ PAt b ta tn tc T (facN n r).rest (70, plOf (facN n r).rest) w')) := calls_no (HF r f' _ HT3.out.p HX.out.2.1) hx
          have HY : Hid (X.val = none ∧ X.rest = (facN n r).rest) := by
            obtain ⟨_, _, h1, h2, _⟩ := HX.out
            rw [bind_none _ hx] at h1 h2
            exact ⟨h1, h2⟩
          clear hx HX HF
          have HZ : Hid (∀ v w', Hid (Kp b w3.drew w' ∧ PAt b ta tn tc T (facN n r).rest (70, plOf (facN n r).rest) w') → PPost b ta tn tc T f X (VEx w.heap.size) w (.panicked [{ v := .iface 32 v, recovered := false }]) w') := fun v w' hh =>
            ⟨HT3.out.kp.trans hh.out.1, .inr ⟨HY.out.1, ⟨v, rfl⟩, by rw [HY.out.2]; exact hh.out.2⟩⟩
          refine wp_region_X 6 (SC w1.heap.size q.1 kb km kd) (by kernel_rfl) ?_
          refine wpAnyX_take (i := 0) (v := .agg #[.int .i64 q.1.kind, .int .i64 q.1.num, .string (bs q.1.text), .slice kb km kd, .int .i64 q.1.pl]) rfl (by kernel_rfl) (by kernel_rfl) (by kernel_rfl) (by kernel_rfl) (by kernel_rfl) (fun _ _ _ h => h) HS0.out (Or.inl ⟨by rfl, by (intro W hW; obtain ⟨_, _, _, _, _⟩ := hW; go_simp)⟩) ?_
          simp only [Act.put]
          refine wpAnyX_take (i := 1) (v := .pointer (some ⟨b, 0, none⟩)) rfl (by kernel_rfl) (by kernel_rfl) (by kernel_rfl) (by kernel_rfl) (by kernel_rfl) (fun _ _ _ h => h) HS0.out (Or.inl ⟨by rfl, by (intro W hW; obtain ⟨_, _, _, _, _⟩ := hW; go_simp)⟩) ?_
          simp only [Act.put]
          refine wpAnyX_take (i := 4) (v := .int .i64 (t.pl : Int)) rfl (by kernel_rfl) (by kernel_rfl) (by kernel_rfl) (by kernel_rfl) (by kernel_rfl) (fun _ _ _ h => h) HS0.out (Or.inl ⟨by rfl, by (intro W hW; obtain ⟨_, _, _, _, _⟩ := hW; go_simp)⟩) ?_
          simp only [Act.put]
          refine wpAnyX_one (i := 2) rfl (by kernel_rfl) (fun K hK => ?_)
          go_simp
          refine HFa.out.mono ?_
          rintro e w4 ⟨v, rfl, HK4⟩
          exact ⟨rfl, HZ.out _ _ HK4⟩
        | some e2 =>
          have HFa : Hid (Calls Tryd.prog 92 #[.pointer (some ⟨b, 0, none⟩)] w3.drew fun e w' => ∃ k2 n2 c2, e = .returned (.agg #[.int .i64 e2.1.kind, .int .i64 e2.1.num, .string (bs e2.1.text), .slice k2 n2 c2, .int .i64 e2.1.pl]) ∧
              Hid (TL b ta tn tc T w w.heap.size w1.heap.size (facN n r).rest (flt (facN n r).many f') q kb km kd w' ∧ ExAt true (fun g => w.heap.size ≤ g ∧ g ≠ w.heap.size ∧ g ≠ w1.heap.size) w' e2 k2 n2)) := by
            refine (ex_ok (HF r f' w3.drew HT3.out.p HX.out.2.1) hx).mono ?_
            rintro e w' ⟨k2, n2, c2, rfl, hE, hK, hP⟩
            have hT := HT3.out.go hK hP
            refine ⟨k2, n2, c2, rfl, hT, hE.base fun g _ hg => ?_⟩
            have h1 := lt_block HT3.out.res
            have h2 := lt_block HT3.out.val
            have h3 : w3.drew.heap.size ≤ g := hg
            exact ⟨by omega, by omega, by omega⟩
          have HY : Hid ((facN n r).rest.length ≤ m' ∧ (facN n r).rest.length ≤ n ∧ (facN n r).rest.length < r.length + 1 ∧ Eqv X (termGo (facN n) m' (hdB 7 t, ofL [q, e2]) (facN n r).rest) f (flt (facN n r).many f')) := by
            obtain ⟨h0, h0', h1, h2, h3⟩ := HX.out
            rw [bind_some _ hx] at h1 h2 h3
            have := suf_len (fac_suf n r)
            refine ⟨by omega, by omega, by omega, h1, h2, ?_⟩
            rw [h3]; exact flt_append _ _ _
          clear hx HX HF
          generalize facN n r = y at *
          refine wp_region_X 6 (SC w1.heap.size q.1 kb km kd) (by kernel_rfl) ?_
          refine wpAnyX_take (i := 0) (v := .agg #[.int .i64 q.1.kind, .int .i64 q.1.num, .string (bs q.1.text), .slice kb km kd, .int .i64 q.1.pl]) rfl (by kernel_rfl) (by kernel_rfl) (by kernel_rfl) (by kernel_rfl) (by kernel_rfl) (fun _ _ _ h => h) HS0.out (Or.inl ⟨by rfl, by (intro W hW; obtain ⟨_, _, _, _, _⟩ := hW; go_simp)⟩) ?_
          simp only [Act.put]
          refine wpAnyX_take (i := 1) (v := .pointer (some ⟨b, 0, none⟩)) rfl (by kernel_rfl) (by kernel_rfl) (by kernel_rfl) (by kernel_rfl) (by kernel_rfl) (fun _ _ _ h => h) HS0.out (Or.inl ⟨by rfl, by (intro W hW; obtain ⟨_, _, _, _, _⟩ := hW; go_simp)⟩) ?_
          simp only [Act.put]
          refine wpAnyX_take (i := 4) (v := .int .i64 (t.pl : Int)) rfl (by kernel_rfl) (by kernel_rfl) (by kernel_rfl) (by kernel_rfl) (by kernel_rfl) (fun _ _ _ h => h) HS0.out (Or.inl ⟨by rfl, by (intro W hW; obtain ⟨_, _, _, _, _⟩ := hW; go_simp)⟩) ?_
          simp only [Act.put]
          refine wpAnyX_one (i := 2) rfl (by kernel_rfl) (fun K hK => ?_)
          go_simp
          refine HFa.out.mono ?_
          rintro e w4 ⟨k2, n2, c2, rfl, HT4⟩
          refine hK.out _ _ (fun _ => HT4.out.1.sc) ?_
          clear hK K HT3 HS0 HFa
          refine wpAnyX_one (i := 3) rfl (by kernel_rfl) (fun K hK => ?_)
          go_simp
          refine hK.out _ _ (fun _ => (HT4.out.1.next ((Below.refl _ _).alloc (Nat.le_refl _) _)).sc) ?_
          clear hK K
          have HT5 : Hid (∀ o, TL b ta tn tc T w w.heap.size w1.heap.size y.rest (flt y.many f') q kb km kd (w4.alloc o)) := fun o => HT4.out.1.next ((Below.refl _ _).alloc (Nat.le_refl _) _)
          have e0 := fun o => (HT5.out o).sc.1
          have e1 := fun o => (HT5.out o).sc.2.1
          have e3 := fun o => (HT5.out o).sc.2.2.1
          have e4 := fun o => (HT5.out o).sc.2.2.2.1
          have e5 := fun o => (HT5.out o).sc.2.2.2.2
          have ef := fun o i => (HT5.out o).frz i
          refine wpAnyX_one (i := 5) rfl (by kernel_rfl) (fun K hK => ?_)
          go_simp
          refine hK.out _ _ (fun _ => (HT5.out _).sc) ?_
          clear hK K
          refine wpAnyX_one (i := 6) rfl (by kernel_rfl) (fun K hK => ?_)
          go_simp
          refine hK.out _ _ (fun h => absurd rfl h) ?_
          clear hK K
          refine wpAnyX_done (by kernel_rfl) ?_ _
          have HT6 := HT4.out.1.put (c2 := c2) (k := 7) (t := t) HT4.out.2 (by omega) HPl.out
          have HH6 : Hid (TL b ta tn tc T w w.heap.size w1.heap.size y.rest (flt y.many f') (hdB 7 t, ofL [q, e2]) (some ⟨w4.heap.size, 0, none⟩) 2 2 _) := HT6
          clear HT6
          go_wp2_with fail
          go_roundg y.rest.length
          case measure => exact HY.out.2.2.1
          case rel => exact ⟨y.rest, flt y.many f', (hdB 7 t, ofL [q, e2]), some ⟨w4.heap.size, 0, none⟩, 2, 2, m', rfl, HH6, HY.out.2.1, HY.out.1, HY.out.2.2.2⟩
end Go.Proofs.YtpeldiibjhffiaaDoor
namespace Go.Proofs.YtpeldiibjhffiaaDoor
open Go.RowKit

theorem run_append_fresh {P : Program} (w : World) (base : Nat) (t ty e : TypeId) (i : TypeInfo) (z : Value) (size bytes : Nat) (ht : P.underlying t = some (.slice e)) (hi : P.info? e = some i) (hz : i.zero = some z)
    (hsize : i.size = size) (hby : i.bytes = bytes) (hzs : z.cells.size = size) (hsz : 0 < size)
    (v : Value) (n : Nat) (xs : List Value) (hown : w.ownsRow base e size v n xs)
    (a : Addr) (m c : Nat) (news : List Value) (hl : news.length = m * size) (hnews : ∀ j u, news[j]? = some u → w.cell? (a.add j) = some u) (h1 : ∀ u ∈ news, u.oneCell' = true)
    (h63 : n + m ≤ maxLen) (hbytes : (n + m) * bytes ≤ 140737488355328) (hbase : base ≤ w.heap.size) :
    ∃ v' w', (Builtin.append_ #[t, t] ty #[v, .slice (some a) m c]).run P w = .ok v' w' ∧ w'.ownsRow base e size v' (n + m) (xs ++ news) ∧ w.grownBy w' v.ownBlock ∧
      (∀ g, v'.ownBlock = some g → some g = v.ownBlock ∨ w.heap.size ≤ g) := by
  obtain ⟨v', w', hr, ho, hg, _⟩ := run_append_own w base t ty e i z size bytes ht hi hz hsize hby hzs hsz v n xs hown a m c news hl hnews h1 h63 hbytes hbase
  refine ⟨v', w', hr, ho, hg, ?_⟩
  rcases hown.2 with ⟨hv, h0⟩ | ⟨g0, cap, cur, hv, hb, hgr, hc1, hc2, hc3, hc4⟩
  · subst hv
    subst h0
    have hxs : xs = [] := List.eq_nil_of_length_eq_zero (by have := hown.1; simpa using this)
    subst hxs
    obtain ⟨v2, w2, hr2, ho2, _, _⟩ := run_append_own w w.heap.size t ty e i z size bytes ht hi hz hsize hby hzs hsz (.slice none 0 0) 0 [] (World.ownsRow_nil _ _ _ _) a m c news hl hnews h1 h63 hbytes (Nat.le_refl _)
    rw [hr] at hr2
    cases hr2
    exact fun g hg' => .inr (ho2.lt g hg').1
  · subst hv
    by_cases hroom : n + m ≤ cap
    · subst hsize
      have hsp : ∀ j, j < news.length → (w.cell? ⟨g0, 0 + n * i.size + j, none⟩).isSome = true := fun j hj => by
        rw [cell_of_row w g0 _ cur e (0, 0) hgr]
        rw [hl] at hj
        have h2 : (n + m) * i.size ≤ cap * i.size := Nat.mul_le_mul_right _ hroom
        rw [Nat.add_mul] at h2
        rw [Array.getElem?_eq_getElem (by omega)]; rfl
      have hr2 := run_append_room_cells (P := P) w t ty e i ht hi g0 0 n cap a m c news hl hnews h1 hroom hsp (fun j _ => frozen_of_row w g0 _ cur e hgr)
      rw [hr] at hr2
      cases hr2
      exact fun g hg' => .inl hg'.symm
    · obtain ⟨v2, w2, hr2, ho2, _⟩ := run_append_arg_grows (P := P) w t ty e i z size bytes ht hi hz hsize hby hzs hsz ⟨g0, 0, none⟩ n cap xs hown.1 (fun j u hj => hown.cells (g := g0) rfl j u hj) a m c news hl hnews (by omega) h63 hbytes
      rw [hr] at hr2
      cases hr2
      exact fun g hg' => .inr (ho2.lt g hg').1
theorem wp_append_fresh {P : Program} (w : World) {o : Oper} {a : Act} {K : Act → World → Prop} {Q : Exit → Act → World → Prop} (s x : Operand) (t : TypeId)
    (ho : o.op = .call { callee := .builtin .append, args := #[s, x], argTypes := #[t, t] })
    (base : Nat) (e : TypeId) (i : TypeInfo) (z : Value) (size bytes : Nat) (ht : P.underlying t = some (.slice e)) (hi : P.info? e = some i) (hz : i.zero = some z)
    (hsize : i.size = size) (hby : i.bytes = bytes) (hzs : z.cells.size = size) (hsz : 0 < size)
    (v : Value) (n : Nat) (xs : List Value) (hs : a.eval s = v) (hown : w.ownsRow base e size v n xs)
    (ad : Addr) (m c : Nat) (news : List Value) (hx : a.eval x = .slice (some ad) m c) (hl : news.length = m * size) (hnews : ∀ j u, news[j]? = some u → w.cell? (ad.add j) = some u) (h1 : ∀ u ∈ news, u.oneCell' = true)
    (h63 : n + m ≤ maxLen) (hbytes : (n + m) * bytes ≤ 140737488355328) (hbase : base ≤ w.heap.size)
    (h : ∀ v' w', w'.ownsRow base e size v' (n + m) (xs ++ news) → w.grownBy w' v.ownBlock → (∀ g, v'.ownBlock = some g → some g = v.ownBlock ∨ w.heap.size ≤ g) → K (a.put o.dst v') w') : Oper.wp P o a w K Q := by
  obtain ⟨v', w', hrun, r1, r2, r3⟩ := run_append_fresh (P := P) w base t o.type e i z size bytes ht hi hz hsize hby hzs hsz v n xs hown ad m c news hl hnews h1 h63 hbytes hbase
  unfold Oper.wp
  simp [execOp, ho, resolve, invoke, builtin, hs, hx, hrun, Result.andThen]
  exact h v' w' r1 r2 r3
theorem wpList_append_fresh {P : Program} {w : World} {ops : Array Oper} {rest : List Oper} {o : Oper} {a : Act} {Q : Exit → Act → World → Prop} (hgd : o.guard = none) (s x : Operand) (t : TypeId)
    (ho : o.op = .call { callee := .builtin .append, args := #[s, x], argTypes := #[t, t] })
    (base : Nat) (e : TypeId) (i : TypeInfo) (z : Value) (size bytes : Nat) (ht : P.underlying t = some (.slice e)) (hi : P.info? e = some i) (hz : i.zero = some z)
    (hsize : i.size = size) (hby : i.bytes = bytes) (hzs : z.cells.size = size) (hsz : 0 < size)
    (v : Value) (n : Nat) (xs : List Value) (hs : a.eval s = v) (hown : w.ownsRow base e size v n xs)
    (ad : Addr) (m c : Nat) (news : List Value) (hx : a.eval x = .slice (some ad) m c) (hl : news.length = m * size) (hnews : ∀ j u, news[j]? = some u → w.cell? (ad.add j) = some u) (h1 : ∀ u ∈ news, u.oneCell' = true)
    (h63 : n + m ≤ maxLen) (hbytes : (n + m) * bytes ≤ 140737488355328) (hbase : base ≤ w.heap.size)
    (h : ∀ v' w', w'.ownsRow base e size v' (n + m) (xs ++ news) → w.grownBy w' v.ownBlock → (∀ g, v'.ownBlock = some g → some g = v.ownBlock ∨ w.heap.size ≤ g) → wpList P ops Q rest (a.put o.dst v') w') : wpList P ops Q (o :: rest) a w :=
  wpList_plain hgd fun _ hK => wp_append_fresh w s x t ho base e i z size bytes ht hi hz hsize hby hzs hsz v n xs hs hown ad m c news hx hl hnews h1 h63 hbytes hbase fun v' w' h2 h3 h4 => hK _ _ (h v' w' h2 h3 h4)
end Go.Proofs.YtpeldiibjhffiaaDoor
