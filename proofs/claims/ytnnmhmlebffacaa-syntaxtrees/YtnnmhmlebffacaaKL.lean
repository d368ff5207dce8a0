/-
  What stands in memory while the Kids of min and max are read; how the rest of a rule says what the whole says.
-/
import Derived.Test.YtnnmhmlebffacaaTerm
import Derived.Test.YtnnmhmlebffacaaApp
namespace Go.Proofs.Ytnnmhmlebffacaa
open Go.RowKit Go.Deep

def pre {α : Type} (m : List Int) (x : Rs α) : Rs α := ⟨x.val, x.rest, m ++ x.many⟩
theorem pre_nil {α : Type} (x : Rs α) : pre [] x = x := rfl
theorem bind_pre {α β : Type} {x : Rs α} (f : α → List Tk → Rs β) {a : α} (h : x.val = some a) : x.bind f = pre x.many (f a x.rest) := bind_some f h
theorem pre_bind {α β : Type} (m : List Int) (x : Rs α) (f : α → List Tk → Rs β) : (pre m x).bind f = pre m (x.bind f) := by
  cases hx : x.val with
  | none => rw [bind_none _ hx, bind_none (x := pre m x) _ hx]; rfl
  | some a => rw [bind_pre _ hx, bind_pre (x := pre m x) _ hx]; simp [pre]
theorem close_pre {α : Type} (s : List UInt8) (m : List Int) (x : Rs α) : closeG s (pre m x) = pre m (closeG s x) := pre_bind _ _ _
theorem note_pre {α : Type} (c : Bool) (l : List Tk) (x : Rs α) : note c l x = pre (if c then [plOf l] else []) x := by
  cases c <;> rfl
theorem eqv_refl {α : Type} (X : Rs α) (f : Int × Int) : Eqv X X f f := ⟨rfl, rfl, rfl⟩
theorem eqv_pre {α : Type} {X Y : Rs α} {f f' : Int × Int} {m : List Int} (h : Eqv X (pre m Y) f f') : Eqv X Y f (flt m f') :=
  ⟨h.1, h.2.1, h.2.2.trans (flt_append _ _ _)⟩
theorem eqv_none {α β : Type} {X : Rs β} {x : Rs α} {F : α → List Tk → Rs β} {f f' : Int × Int} (h : Eqv X (x.bind F) f f') (hx : x.val = none) : X.val = none ∧ X.rest = x.rest := by
  rw [bind_none _ hx] at h
  exact ⟨h.1, h.2.1⟩
theorem eqv_some {α β : Type} {X : Rs β} {x : Rs α} {F : α → List Tk → Rs β} {f f' : Int × Int} (h : Eqv X (x.bind F) f f') {a : α} (hx : x.val = some a) : Eqv X (F a x.rest) f (flt x.many f') := by
  rw [bind_pre _ hx] at h
  exact eqv_pre h
theorem flt_id {α : Type} {x : Rs α} (h : x.many = []) (f : Int × Int) : flt x.many f = f := by rw [h, flt_nil]
theorem sign_many (s : List UInt8) (l : List Tk) : (signG s l).many = [] := by
  cases l with
  | nil => rfl
  | cons t r => show (if isT 6 s t = true then pure' () r else wrong' (t :: r)).many = []; split <;> rfl

structure KL (b : Nat) (ta : Option Addr) (tn tc : Nat) (T : List Tk) (w : World) (l : List Tk) (f : Int × Int) (xs : List Xs) (v : Value) (n : Nat) (W : World) : Prop where
  p : PAt b ta tn tc T l f W
  kp : Kp b w W
  nb : b < w.heap.size
  own : W.ownsRow w.heap.size 35 5 v n (xRow xs)
  ex : ∀ x ∈ xs, ExAt true (fun g => w.heap.size ≤ g ∧ some g ≠ v.ownBlock) W x.1 x.2.1 x.2.2.1
section
variable {b : Nat} {ta : Option Addr} {tn tc : Nat} {T : List Tk} {w : World} {l : List Tk} {f : Int × Int} {xs : List Xs} {v : Value} {n : Nat} {W W' : World}
theorem KL.go (h : KL b ta tn tc T w l f xs v n W) (hk : Kp b W W') {l' : List Tk} {f' : Int × Int} (hp : PAt b ta tn tc T l' f' W') : KL b ta tn tc T w l' f' xs v n W' :=
  ⟨hp, h.kp.trans hk, h.nb, owned_of_block h.own fun g cur hg hc => hk.block g (lt_block hc) (by have := (h.own.lt g hg).1; have := h.nb; omega), fun x hx => (h.ex x hx).kp hk (fun hb => by have := hb.1; have := h.nb; omega)⟩
theorem KL.next (h : KL b ta tn tc T w l f xs v n W) (hk : Below W.heap.size W W') : KL b ta tn tc T w l f xs v n W' := h.go (Kp.of_below hk) (h.p.below hk)
theorem KL.len (h : KL b ta tn tc T w l f xs v n W) : n = xs.length := by have := h.own.1; rw [xRow_length] at this; omega
theorem KL.size (h : KL b ta tn tc T w l f xs v n W) : w.heap.size ≤ W.heap.size := h.kp.size
/-- One more. -/
theorem KL.add (h : KL b ta tn tc T w l f xs v n W) {x : Xs} (hx : ExAt true (fun g => w.heap.size ≤ g ∧ some g ≠ v.ownBlock) W x.1 x.2.1 x.2.2.1) {v' : Value} {w4 : World}
    (ho : w4.ownsRow w.heap.size 35 5 v' (n + 1) (xRow xs ++ xsCells x)) (hg : W.grownBy w4 v.ownBlock) (hf : ∀ g, v'.ownBlock = some g → some g = v.ownBlock ∨ W.heap.size ≤ g) : KL b ta tn tc T w l f (xs ++ [x]) v' (n + 1) w4 := by
  have hnb := h.nb
  have hkeep : ∀ g, g < W.heap.size → (w.heap.size ≤ g ∧ some g ≠ v.ownBlock) → w4.heap[g]? = W.heap[g]? := fun g h1 h2 => hg.block g h1 h2.2
  have hbase : ∀ g, g < W.heap.size → (w.heap.size ≤ g ∧ some g ≠ v.ownBlock) → (w.heap.size ≤ g ∧ some g ≠ v'.ownBlock) := fun g h1 h2 => by
    refine ⟨h2.1, fun e => ?_⟩
    rcases hf g e.symm with h3 | h3
    · exact h2.2 h3
    · omega
  have hold : ∀ g, g < w.heap.size → w4.heap[g]? = W.heap[g]? := fun g hgw => hg.block g (Nat.lt_of_lt_of_le hgw h.kp.size) (fun e => by have := (h.own.lt g e.symm).1; omega)
  obtain ⟨kk, q1, q2, q3⟩ := h.p.block
  refine ⟨⟨⟨kk, q1, q2, by rw [hold b hnb]; exact q3⟩, ?_, h.p.low, h.p.last, h.p.few⟩, h.kp.grown hg (fun k hk => (h.own.lt k hk).1), hnb, by rw [xRow_snoc]; exact ho, fun y hy => ?_⟩
  · refine h.p.toks.keep fun a ha => hold a.block ?_
    have := h.p.low a ha
    omega
  · have hE : ExAt true (fun g => w.heap.size ≤ g ∧ some g ≠ v.ownBlock) W y.1 y.2.1 y.2.2.1 := by
      rcases List.mem_append.1 hy with hy | hy
      · exact h.ex y hy
      · rw [List.mem_singleton.1 hy]; exact hx
    have h1 : ExAt true (fun g => (w.heap.size ≤ g ∧ some g ≠ v.ownBlock) ∧ (w.heap.size ≤ g ∧ some g ≠ v'.ownBlock)) W y.1 y.2.1 y.2.2.1 := hE.base fun g h1 h2 => ⟨h2, hbase g h1 h2⟩
    exact (h1.keep fun g h2 h3 => hkeep g h2 h3.1).base fun g _ h2 => h2.2
/-- The list that was read. -/
theorem KL.done (h : KL b ta tn tc T w l f xs v n W) (hn : n ≤ maxLen) : VFo w.heap.size (ofL (xs.map (·.1))) v W := by
  obtain ⟨ao, cap, rfl⟩ := owned_shape h.own
  exact ⟨ao, n, cap, rfl, hn, (foAt_owned (fun g _ hg => hg) h.own fun x hx => (h.ex x hx).base fun g _ hg => hg.1).1⟩
/-- The first one. -/
theorem KL.start {x : Xs} (hb : b < w.heap.size) (hp : PAt b ta tn tc T l f W) (hk : Kp b w W) (hx : ExAt true (fun g => w.heap.size ≤ g) W x.1 x.2.1 x.2.2.1) :
    KL b ta tn tc T w l f [x] (.slice (some ⟨W.heap.size, 0, none⟩) 1 1) 1 (W.alloc (.cells (exArr x.1.1 x.2.1 x.2.2.1 x.2.2.2) 35 (0, 0))) := by
  have hbel : Below W.heap.size W (W.alloc (.cells (exArr x.1.1 x.2.1 x.2.2.1 x.2.2.2) 35 (0, 0))) := (Below.refl _ _).alloc (Nat.le_refl _) _
  refine ⟨hp.below hbel, hk.then_below hbel, hb, ⟨rfl, .inr ⟨W.heap.size, 1, _, rfl, hk.size, heap_alloc_new W _, Nat.le_refl _, by decide, rfl, rfl⟩⟩, fun y hy => ?_⟩
  rw [List.mem_singleton.1 hy]
  exact (hx.base fun g h1 h2 => ⟨h2, fun e => by have : g = W.heap.size := by simpa [Value.ownBlock] using e
                                                 omega⟩).below hbel
end
end Go.Proofs.Ytnnmhmlebffacaa
