/-
  A call of a function value in a drawn region. One instruction of a code that Check takes: what it does.
-/
import Derived.Test.YtnkfibahkmmnpaaGreatKc
import Derived.Test.YtnkfibahkmmnpaaGreatDrw
import Derived.Test.YtnkfibahkmmnpaaGreatKd
namespace Go.Proofs.YtnkfibahkmmnpaaGreat
open Go.RowKit

theorem step_fvD {P : Program} {ops : Array Oper} {o : Oper} {a : Act} {w : World} {K : Act → World → Prop} {Q : Exit → Act → World → Prop} {E : Prop} (d : Option Nat) (hd : o.dst = d)
    (hw : Region.wanted o (yielded ops a.tmps) = true) (t : Nat) (f : FuncId) (args : Array Operand) (tys : Array TypeId) (hop : o.op = Op.call { callee := Callee.value (.tmp t), args := args, argTypes := tys })
    (hcal : a.eval (.tmp t) = .func (.func f) #[] #[]) (hent : ∀ args W, (callFunc f args).run P W = .ok (.enter f args) W)
    (vs : Array Value) (hvs : args.map a.eval = vs) {R : Ending → World → Prop} (hc : Calls P f vs w R) (hR : ∀ e w', R e w' → ∃ v, e = .returned v ∧ K (a.put d v) w') :
    if Region.wanted o (yielded ops a.tmps) = true then Oper.wp P o a w K Q else E := by
  subst hd
  rw [if_pos hw]
  unfold Oper.wp
  have hrun : (execOp a.eval o).run P w = .ok (.enter f vs) w := by
    simp only [Act.eval] at hcal
    simp [execOp, hop, resolve, invoke, hvs, hcal, go_sem, hent, Act.eval]
  rw [hrun, Oper.upon_enter]
  refine hc.mono ?_
  intro e w' h
  obtain ⟨v, rfl, hk⟩ := hR e w' h
  exact hk
theorem enters_fn {P : Program} {f : FuncId} {fn : Func} (hf : P.funcs[f]? = some fn) (hname : (fn.name == "runtime.NumGoroutine") = false) (hbody : fn.body.isNone = false) : ∀ args W, (callFunc f args).run P W = .ok (.enter f args) W := by
  intro args W
  have h1 : ¬ fn.name = "runtime.NumGoroutine" := by simpa using hname
  have h2 : ¬ fn.body = none := fun e => by rw [e] at hbody; cases hbody
  simp [callFunc, hf, h1, h2]
end Go.Proofs.YtnkfibahkmmnpaaGreat
namespace Go.Proofs.YtnkfibahkmmnpaaGreat
open Go.RowKit

def qdA (q : Qd) : Value := .agg #[.int .i64 q.1, .int .i64 q.2.1, .int .i64 q.2.2.1, .int .i64 q.2.2.2]
def lettersB (c : Cd) (x : List Int) : Prop := ∀ k, k < x.length → 0 ≤ x.getD k 0 ∧ x.getD k 0 < c.letters
section
variable {dq : Nat → Option (Array Value × Nat)} {w0 w : World} {b g gs : Nat} {c : Cd} {s : Ls} {sx sy sa : Sl} {x y : List Int} {i j : Nat} {M : Ms}
theorem act_calls (hg : Gk c) (h : Rn dq w0 w b g gs c s sx sy sa x y i j M) {q : Qd} (hq : q ∈ c.cell) (hi : i ≤ x.length) (hj : j ≤ y.length) (hx : lettersB c x) (hy : lettersB c y) (hM : MOk M) :
    Calls Tryz.prog (53 + q.1.toNat) #[.pointer (some ⟨b, 0, none⟩), qdA q] w fun e w' => e = .returned (.tuple #[]) ∧ Rn dq w0 w' b g gs c s sx sy sa x y i j (actB c x y i j M q) := by
  have hn := hg.nam hq
  have hR := hg.rt
  have hb := hg.bit q hq
  have hk : c.consts.length = s.k.n := h.cd.consts.length
  have hP := hR.planes
  have hG := hR.regs
  have hL := hR.letters
  have hT : (s.t.n : Int) = c.letters * c.letters := by rw [← hg.tbl, ← h.cd.table.length]
  obtain ⟨o, p, r, t⟩ := q
  simp only at hn hb
  obtain ⟨⟨o1, o2⟩, ⟨p1, p2⟩, ⟨r1, r2⟩, t1, t2⟩ := hn
  obtain ⟨pn, rfl⟩ : ∃ n : Nat, p = n := ⟨p.toNat, by omega⟩
  obtain ⟨rn, rfl⟩ : ∃ n : Nat, r = n := ⟨r.toNat, by omega⟩
  have ho : o = 1 ∨ o = 2 ∨ o = 3 ∨ o = 4 ∨ o = 5 ∨ o = 6 ∨ o = 7 ∨ o = 8 := by omega
  rcases ho with rfl | rfl | rfl | rfl | rfl | rfl | rfl | rfl
  · have e1 : (limB c 1).1 = c.regs := rfl
    have e : actB c x y i j M ((1 : Int), (pn : Int), (rn : Int), t) = { M with regs := updC M.regs pn ct0 } := if_pos rfl
    rw [e]
    exact none_calls h 1 pn rn t (by omega)
  · have e1 : (limB c 2).1 = c.regs := rfl
    have e2 : (limB c 2).2.1 = (c.consts.length : Int) := rfl
    have e : actB c x y i j M ((2 : Int), (pn : Int), (rn : Int), t) = { M with regs := updC M.regs pn (if metB t (decide (i = 0)) (decide (j = 0)) then ⟨true, 0, c.consts.getD rn 0⟩ else ct0) } := (if_neg (show ¬ (2 : Int) = 1 by decide)).trans (if_pos rfl)
    rw [e]
    exact start_calls h 2 pn rn t (by omega) (by omega)
  · have e1 : (limB c 3).1 = c.regs := rfl
    have e : actB c x y i j M ((3 : Int), (pn : Int), (rn : Int), t) = { M with regs := updC M.regs pn ⟨(atB c.planes.toNat x.length y.length M.slots rn ((i : Int) - (backB t).1) ((j : Int) - (backB t).2)).has, 0, (atB c.planes.toNat x.length y.length M.slots rn ((i : Int) - (backB t).1) ((j : Int) - (backB t).2)).num⟩ } := (if_neg (show ¬ (3 : Int) = 1 by decide)).trans ((if_neg (show ¬ (3 : Int) = 2 by decide)).trans (if_pos rfl))
    rw [e]
    exact load_calls h 3 pn rn t (by omega) hi hj
  · have e1 : (limB c 4).1 = c.regs := rfl
    have e2 : (limB c 4).2.1 = (c.consts.length : Int) := rfl
    have e : actB c x y i j M ((4 : Int), (pn : Int), (rn : Int), t) = { M with regs := if (M.regs pn).has then updC M.regs pn ⟨(M.regs pn).has, (M.regs pn).mask, wrap64 ((M.regs pn).num + c.consts.getD rn 0)⟩ else M.regs } := (if_neg (show ¬ (4 : Int) = 1 by decide)).trans ((if_neg (show ¬ (4 : Int) = 2 by decide)).trans ((if_neg (show ¬ (4 : Int) = 3 by decide)).trans (if_pos rfl)))
    rw [e]
    exact add_calls h 4 pn rn t (by omega) (by omega)
  · have e1 : (limB c 5).1 = c.regs := rfl
    have e : actB c x y i j M ((5 : Int), (pn : Int), (rn : Int), t) = if i = 0 ∨ j = 0 then { M with regs := updC M.regs pn ⟨false, (M.regs pn).mask, 0⟩ } else { M with regs := if (M.regs pn).has then updC M.regs pn ⟨(M.regs pn).has, (M.regs pn).mask, wrap64 ((M.regs pn).num + c.table.getD (x.getD (i - 1) 0 * c.letters + y.getD (j - 1) 0).toNat 0)⟩ else M.regs } := (if_neg (show ¬ (5 : Int) = 1 by decide)).trans ((if_neg (show ¬ (5 : Int) = 2 by decide)).trans ((if_neg (show ¬ (5 : Int) = 3 by decide)).trans ((if_neg (show ¬ (5 : Int) = 4 by decide)).trans (if_pos rfl))))
    rw [e]
    exact table_calls h 5 pn rn t (by omega) hi hj (by omega) (fun h0 => hx _ (by omega)) (fun h0 => hy _ (by omega)) hT
  · have e1 : (limB c 6).1 = c.regs := rfl
    have e2 : (limB c 6).2.1 = c.regs := rfl
    have e : actB c x y i j M ((6 : Int), (pn : Int), (rn : Int), t) = { M with regs := updC M.regs pn (metC (M.regs pn) (M.regs rn) t) } := (if_neg (show ¬ (6 : Int) = 1 by decide)).trans ((if_neg (show ¬ (6 : Int) = 2 by decide)).trans ((if_neg (show ¬ (6 : Int) = 3 by decide)).trans ((if_neg (show ¬ (6 : Int) = 4 by decide)).trans ((if_neg (show ¬ (6 : Int) = 5 by decide)).trans (if_pos rfl)))))
    rw [e]
    exact amet_calls h 6 pn rn t (by omega) (by omega) ⟨t1, hb rfl⟩ (hM.regs pn)
  · have e1 : (limB c 7).1 = c.planes := rfl
    have e2 : (limB c 7).2.1 = c.regs := rfl
    have e : actB c x y i j M ((7 : Int), (pn : Int), (rn : Int), t) = { M with slots := updC M.slots (placeB c.planes.toNat y.length pn i j) (if (M.regs rn).has then M.regs rn else ct0) } := (if_neg (show ¬ (7 : Int) = 1 by decide)).trans ((if_neg (show ¬ (7 : Int) = 2 by decide)).trans ((if_neg (show ¬ (7 : Int) = 3 by decide)).trans ((if_neg (show ¬ (7 : Int) = 4 by decide)).trans ((if_neg (show ¬ (7 : Int) = 5 by decide)).trans ((if_neg (show ¬ (7 : Int) = 6 by decide)).trans (if_pos rfl))))))
    rw [e]
    exact store_calls h 7 pn rn t (by omega) (by omega) hi hj
  · have e1 : (limB c 8).1 = c.planes := rfl
    have e2 : (limB c 8).2.1 = (c.consts.length : Int) := rfl
    have e : actB c x y i j M ((8 : Int), (pn : Int), (rn : Int), t) = (if ((atB c.planes.toNat x.length y.length M.slots pn i j).has && metB t (decide (i = x.length)) (decide (j = y.length))) = true then { M with ends := endB M.ends pn i j (wrap64 ((atB c.planes.toNat x.length y.length M.slots pn i j).num + c.consts.getD rn 0)) } else M) := (if_neg (show ¬ (8 : Int) = 1 by decide)).trans ((if_neg (show ¬ (8 : Int) = 2 by decide)).trans ((if_neg (show ¬ (8 : Int) = 3 by decide)).trans ((if_neg (show ¬ (8 : Int) = 4 by decide)).trans ((if_neg (show ¬ (8 : Int) = 5 by decide)).trans ((if_neg (show ¬ (8 : Int) = 6 by decide)).trans (if_neg (show ¬ (8 : Int) = 7 by decide)))))))
    rw [e]
    exact end_calls h 8 pn rn t (by omega) (by omega)
theorem acts_get {k : Nat} (h1 : 1 ≤ k) (h8 : k ≤ 8) : actsV[k]? = some (.func (.func (53 + k)) #[] #[]) := by
  have : k = 1 ∨ k = 2 ∨ k = 3 ∨ k = 4 ∨ k = 5 ∨ k = 6 ∨ k = 7 ∨ k = 8 := by omega
  rcases this with rfl | rfl | rfl | rfl | rfl | rfl | rfl | rfl <;> rfl
theorem acts_enter {k : Nat} (h1 : 1 ≤ k) (h8 : k ≤ 8) : ∀ args W, (callFunc (53 + k) args).run Tryz.prog W = .ok (.enter (53 + k) args) W := by
  have : k = 1 ∨ k = 2 ∨ k = 3 ∨ k = 4 ∨ k = 5 ∨ k = 6 ∨ k = 7 ∨ k = 8 := by omega
  rcases this with rfl | rfl | rfl | rfl | rfl | rfl | rfl | rfl
  · exact enters_fn Tryz.func54 (by kernel_rfl) (by kernel_rfl)
  · exact enters_fn Tryz.func55 (by kernel_rfl) (by kernel_rfl)
  · exact enters_fn Tryz.func56 (by kernel_rfl) (by kernel_rfl)
  · exact enters_fn Tryz.func57 (by kernel_rfl) (by kernel_rfl)
  · exact enters_fn Tryz.func58 (by kernel_rfl) (by kernel_rfl)
  · exact enters_fn Tryz.func59 (by kernel_rfl) (by kernel_rfl)
  · exact enters_fn Tryz.func60 (by kernel_rfl) (by kernel_rfl)
  · exact enters_fn Tryz.func61 (by kernel_rfl) (by kernel_rfl)
set_option maxRecDepth 10000 in
theorem actsF_calls (w : World) : Calls Tryz.prog 30 #[] w fun e w' => ∃ t, e = .returned (.slice (some ⟨t, 0, none⟩) 9 9) ∧ w.heap.size ≤ t ∧ w'.heap[t]? = some (.cells actsV 133 (0, 0)) ∧ Below w.heap.size w w' := by
  go_enter Tryz.func30, Tryz.ntmps30
  go_wp2
  go_ret
  exact ⟨w.heap.size, rfl, Nat.le_refl _, heap_alloc_new w _, (Below.refl _ _).alloc (Nat.le_refl _) _⟩
end
end Go.Proofs.YtnkfibahkmmnpaaGreat
