/-
  A call of a function value in a drawn region.
-/
import Derived.Test.YtjpeoejielamiaaDrw
namespace Go.Proofs.Ytjpeoejielamiaa
open Go.RowKit

theorem step_fvD {P : Program} {ops : Array Oper} {o : Oper} {a : Act} {w : World} {K : Act → World → Prop} {Q : Exit → Act → World → Prop} {E : Prop} (d : Option Nat) (hd : o.dst = d)
    (hw : Region.wanted o (yielded ops a.tmps) = true) (t : Nat) (f : FuncId) (args : Array Operand) (tys : Array TypeId) (hop : o.op = Op.call { callee := Callee.value (.tmp t), args := args, argTypes := tys })
    (hcal : a.eval (.tmp t) = .func (.func f) #[] #[]) (hent : ∀ args W, (callFunc f args).run P W = .ok (.enter f args) W)
    (vs : Array Value) (hvs : args.map a.eval = vs) {R : Ending → World → Prop} (hc : Calls P f vs w R) (hR : ∀ e w', R e w' → ∃ v, e = .returned v ∧ K (a.put d v) w') :
    if Region.wanted o (yielded ops a.tmps) = true then Oper.wp P o a w K Q else E := by
  subst hd
  rw [if_pos hw]
  unfold Oper.wp
  have hrun : (execOp a.eval o).run P w = .ok (.enter f vs) w := by
    simp only [Act.eval] at hcal
    simp [execOp, hop, resolve, invoke, hvs, hcal, go_sem, hent, Act.eval]
  rw [hrun, Oper.upon_enter]
  refine hc.mono ?_
  intro e w' h
  obtain ⟨v, rfl, hk⟩ := hR e w' h
  exact hk
theorem enters_fn {P : Program} {f : FuncId} {fn : Func} (hf : P.funcs[f]? = some fn) (hname : (fn.name == "runtime.NumGoroutine") = false) (hbody : fn.body.isNone = false) : ∀ args W, (callFunc f args).run P W = .ok (.enter f args) W := by
  intro args W
  have h1 : ¬ fn.name = "runtime.NumGoroutine" := by simpa using hname
  have h2 : ¬ fn.body = none := fun e => by rw [e] at hbody; cases hbody
  simp [callFunc, hf, h1, h2]
end Go.Proofs.Ytjpeoejielamiaa
