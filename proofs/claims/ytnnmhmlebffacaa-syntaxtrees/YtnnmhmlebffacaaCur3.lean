/-
  What a rule of the parser leaves; sign.
-/
import Derived.Test.YtnnmhmlebffacaaCur2
import Derived.Deep.RegionHeld3
namespace Go.Proofs.Ytnnmhmlebffacaa
open Go.RowKit Go.Deep

/-- What a rule of the parser leaves: what was read, or a panic behind a fault that is noted. -/
def PPost (b : Nat) (ta : Option Addr) (tn tc : Nat) (T : List Tk) (f : Int × Int) {α : Type} (x : Rs α) (V : α → Value → World → Prop) (w : World) (e : Ending) (w' : World) : Prop :=
  Kp b w w' ∧ ((∃ a v, x.val = some a ∧ e = .returned v ∧ V a v w' ∧ PAt b ta tn tc T x.rest (flt x.many f) w') ∨
    (x.val = none ∧ (∃ v, e = .panicked [{ v := .iface 27 v, recovered := false }]) ∧ PAt b ta tn tc T x.rest (70, plOf x.rest) w'))
section
variable {b : Nat} {ta : Option Addr} {tn tc : Nat} {T : List Tk} {f : Int × Int} {α : Type} {x : Rs α} {V : α → Value → World → Prop} {w : World} {N : Nat} {args : Array Value}
theorem calls_ok (h : Calls Try.prog N args w (PPost b ta tn tc T f x V w)) {a : α} (hx : x.val = some a) :
    Calls Try.prog N args w fun e w' => ∃ v, e = .returned v ∧ V a v w' ∧ Kp b w w' ∧ PAt b ta tn tc T x.rest (flt x.many f) w' := by
  refine h.mono ?_
  rintro e w' ⟨hk, ⟨a', v, hv, he, hV, hP⟩ | ⟨hn, _⟩⟩
  · rw [hx] at hv; cases hv
    exact ⟨v, he, hV, hk, hP⟩
  · rw [hx] at hn; cases hn
theorem calls_no (h : Calls Try.prog N args w (PPost b ta tn tc T f x V w)) (hx : x.val = none) :
    Calls Try.prog N args w fun e w' => ∃ v, e = .panicked [{ v := .iface 27 v, recovered := false }] ∧ Kp b w w' ∧ PAt b ta tn tc T x.rest (70, plOf x.rest) w' := by
  refine h.mono ?_
  rintro e w' ⟨hk, ⟨a', v, hv, _⟩ | ⟨_, ⟨v, he⟩, hP⟩⟩
  · rw [hx] at hv; cases hv
  · exact ⟨v, he, hk, hP⟩
end
def VU (_ : Unit) (v : Value) (_ : World) : Prop := v = .tuple #[]
def VS (s : List UInt8) (v : Value) (_ : World) : Prop := v = .string (bs s)
def VEx (B : Nat) (a : Ex) (v : Value) (w : World) : Prop := ∃ ka kn kc, v = exV a.1 ka kn kc ∧ ExAt true (fun g => B ≤ g) w a ka kn
def VFo (B : Nat) (F : Fo) (v : Value) (w : World) : Prop := ∃ ao n c, v = .slice ao n c ∧ n ≤ maxLen ∧ FoAt true (fun g => B ≤ g) w F ao n

set_option maxRecDepth 20000 in
set_option maxHeartbeats 1000000 in
theorem signP_calls {b : Nat} {ta : Option Addr} {tn tc : Nat} {T l : List Tk} {f : Int × Int} (w : World) (s : ByteArray) (h : PAt b ta tn tc T l f w) :
    Calls Try.prog 64 #[.pointer (some ⟨b, 0, none⟩), .string s] w (PPost b ta tn tc T f (signG s.data.toList l) VU w) := by
  obtain ⟨t, r, rfl⟩ := h.here1
  have HP : Hid (PAt b ta tn tc T (t :: r) f w) := h
  cases hx : isT 6 s.data.toList t with
  | true =>
    have HS : Hid (∀ w, PAt b ta tn tc T (t :: r) f w → Calls Try.prog 86 #[.pointer (some ⟨b, 0, none⟩), .int .i64 6, .string s] w fun e w' => e = .returned (.bool true) ∧ Below w.heap.size w w') := fun w h => by
      have := sees_calls w h 6 s
      rw [hx] at this; exact this
    have hk : t.kind ≠ 1 := by
      intro e; unfold isT at hx; rw [e] at hx; simp at hx
    have HN : Hid (∀ w, PAt b ta tn tc T (t :: r) f w → Calls Try.prog 85 #[.pointer (some ⟨b, 0, none⟩)] w fun e w' => e = .returned (.agg #[.int .i64 t.kind, .int .i64 t.num, .string (bs t.text), .int .i64 (t.pl : Int)]) ∧ Kp b w w' ∧ PAt b ta tn tc T r f w') := fun w h => nextP_calls w h hk
    have HE : Hid (signG s.data.toList (t :: r) = pure' () r) := by show (if isT 6 s.data.toList t = true then pure' () r else wrong' (t :: r)) = _; rw [if_pos hx]
    clear hx hk h
    go_enter Try.func64, Try.ntmps64
    go_wp2_with fail
    refine (HS.out _ HP.out).mono ?_
    rintro e w1 ⟨rfl, hb1⟩
    have HB : Hid (Below w.heap.size w w1 ∧ PAt b ta tn tc T (t :: r) f w1) := ⟨hb1, HP.out.below hb1⟩
    clear hb1 HS
    go_wp2_with fail
    refine (HN.out _ HB.out.2).mono ?_
    rintro e w2 ⟨rfl, hk2, hp2⟩
    have HR : Hid (Kp b w w2 ∧ PAt b ta tn tc T r f w2) := ⟨(Kp.of_below HB.out.1).trans hk2, hp2⟩
    clear hk2 hp2 HB HN HP
    go_wp2
    go_end0
    rw [HE.out]
    exact ⟨HR.out.1, .inl ⟨(), _, rfl, rfl, rfl, by show PAt b ta tn tc T r (flt [] f) w2; rw [flt_nil]; exact HR.out.2⟩⟩
  | false =>
    have HS : Hid (∀ w, PAt b ta tn tc T (t :: r) f w → Calls Try.prog 86 #[.pointer (some ⟨b, 0, none⟩), .int .i64 6, .string s] w fun e w' => e = .returned (.bool false) ∧ Below w.heap.size w w') := fun w h => by
      have := sees_calls w h 6 s
      rw [hx] at this; exact this
    have HN : Hid (∀ w, PAt b ta tn tc T (t :: r) f w → Calls Try.prog 84 #[.pointer (some ⟨b, 0, none⟩)] w fun e w' => e = .returned (.agg #[.int .i64 70, .int .i64 (t.pl : Int)]) ∧ Kp b w w' ∧ PAt b ta tn tc T (t :: r) (70, t.pl) w') := fun w h => wrong_calls w h
    have HE : Hid (signG s.data.toList (t :: r) = wrong' (t :: r)) := by show (if isT 6 s.data.toList t = true then pure' () r else wrong' (t :: r)) = _; rw [if_neg (by rw [hx]; decide)]
    clear hx h
    go_enter Try.func64, Try.ntmps64
    go_wp2_with fail
    refine (HS.out _ HP.out).mono ?_
    rintro e w1 ⟨rfl, hb1⟩
    have HB : Hid (Below w.heap.size w w1 ∧ PAt b ta tn tc T (t :: r) f w1) := ⟨hb1, HP.out.below hb1⟩
    clear hb1 HS
    go_wp2_with fail
    refine (HN.out _ HB.out.2).mono ?_
    rintro e w2 ⟨rfl, hk2, hp2⟩
    have HR : Hid (Kp b w w2 ∧ PAt b ta tn tc T (t :: r) (70, t.pl) w2) := ⟨(Kp.of_below HB.out.1).trans hk2, hp2⟩
    clear hk2 hp2 HB HN HP
    go_wp2
    refine ⟨rfl, ?_⟩
    rw [HE.out]
    exact ⟨HR.out.1, .inr ⟨rfl, ⟨_, rfl⟩, HR.out.2⟩⟩
end Go.Proofs.Ytnnmhmlebffacaa
