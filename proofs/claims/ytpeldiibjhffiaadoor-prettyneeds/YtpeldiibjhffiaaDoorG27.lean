/-
  The tokens of an expression's text are read as it. The tokens of a tree's text are read as it.
-/
import Derived.Test.YtpeldiibjhffiaaDoorPrP
import Derived.Test.YtpeldiibjhffiaaDoorG22
import Derived.Test.YtpeldiibjhffiaaDoorG19
namespace Go.Proofs.YtpeldiibjhffiaaDoor
open Go.RowKit Go.Deep

def tk (k n : Int) (s : List UInt8) : Tk := ⟨k, n, s, 0⟩
def sg (s : List UInt8) : Tk := tk 6 0 s
/-- A kind and tokens. -/
abbrev Kz := Int × List Tk
def brT (asked : Int) (x : Kz) : List Tk := if asked ≤ firmB x.1 then x.2 else sg [40] :: (x.2 ++ [sg [41]])
def allT (sep : Tk) : Bool → List Kz → List Tk
  | _, [] => []
  | first, x :: r => (if first then [] else [sep]) ++ (x.2 ++ allT sep false r)
def kz (ks : List Kz) (i : Nat) : Kz := ks.getD i (0, [])
def exT (h : Hd) (ks : List Kz) : List Tk :=
  if h.kind = 1 then [tk 2 h.num []]
  else if h.kind = 2 then [tk 3 0 h.text]
  else if h.kind = 3 then [tk 5 0 h.text]
  else if h.kind = 4 then sg [45] :: brT 2 (kz ks 0)
  else if h.kind = 8 then tk 4 0 wMin :: sg [40] :: (allT (sg [44]) true ks ++ [sg [41]])
  else if h.kind = 9 then tk 4 0 wMax :: sg [40] :: (allT (sg [44]) true ks ++ [sg [41]])
  else brT (firmB h.kind) (kz ks 0) ++ (sg (sgnB h.kind) :: brT (firmB h.kind + 1) (kz ks 1))
/-- The tokens of a list of expressions. -/
def tkF : Fo → List Kz
  | .nil => []
  | .node _ _ h k r => (h.kind, exT h (tkF k)) :: tkF r
def tkE (e : Ex) : List Tk := exT e.1 (tkF e.2)
/-- The same without places. -/
def zH (h : Hd) : Hd := ⟨h.kind, h.num, h.text, 0⟩
def zF : Fo → Fo
  | .nil => .nil
  | .node _ _ h k r => nd (zH h) (zF k) (zF r)
def zE (e : Ex) : Ex := (zH e.1, zF e.2)
def zL : Fo → List Ex
  | .nil => []
  | .node _ _ h k r => zE (h, k) :: zL r
theorem ofL_zL : ∀ F : Fo, ofL (zL F) = zF F
  | .nil => rfl
  | .node _ _ h k r => by simp [zL, ofL, zF, zE, ofL_zL r]
theorem sameF_iff : ∀ (F G : Fo), sameF F G = true ↔ zF F = zF G
  | .nil, .nil => by simp [sameF, zF]
  | .nil, .node _ _ _ _ _ => by simp [sameF, zF, nd]
  | .node _ _ _ _ _, .nil => by simp [sameF, zF, nd]
  | .node _ _ h k r, .node _ _ h' k' r' => by
    have h1 := sameF_iff k k'
    have h2 := sameF_iff r r'
    simp only [sameF, Bool.and_eq_true, h1, h2, zF, nd, BT.node.injEq, true_and, sameH, decide_eq_true_eq, zH, Hd.mk.injEq, and_true]
theorem zF_zF : ∀ F : Fo, zF (zF F) = zF F
  | .nil => rfl
  | .node _ _ h k r => by simp [zF, nd, zH, zF_zF k, zF_zF r]
theorem zF_same (F : Fo) : sameF (zF F) F = true := (sameF_iff _ _).2 (zF_zF F)
/-- No sign of two goes on here. -/
def stop (r : List Tk) : Prop := sawG 6 [42] r = false ∧ sawG 6 [43] r = false ∧ sawG 6 [45] r = false
theorem pure_bind' {α β : Type} (a : α) (l : List Tk) (f : α → List Tk → Rs β) : (pure' a l).bind f = f a l := rfl
theorem term_stop {fac : List Tk → Rs Ex} {m : Nat} {e : Ex} {r : List Tk} (h : sawG 6 [42] r = false) : termGo fac m e r = pure' e r := by
  cases m with
  | zero => rfl
  | succ m =>
    cases r with
    | nil => rfl
    | cons t r => rw [termGo, if_neg (by simpa [sawG] using h)]
theorem expr_stop {trm : List Tk → Rs Ex} {m : Nat} {e : Ex} {r : List Tk} (h : sawG 6 [43] r = false) (h' : sawG 6 [45] r = false) : exprGo trm m e r = pure' e r := by
  cases m with
  | zero => rfl
  | succ m =>
    cases r with
    | nil => rfl
    | cons t r =>
      simp only [sawG] at h h'
      rw [exprGo, h, h']
      rfl
/-- What is read of an expression's tokens, how firm it may be. -/
structure Q (n d : Nat) (e : Ex) : Prop where
  fac : firmB e.1.kind = 2 → ∀ r, facN n (tkE e ++ r) = pure' (zE e) r
  term : 1 ≤ firmB e.1.kind → ∀ r, ∃ m, mx ≤ m + d ∧ termG (facN n) (tkE e ++ r) = termGo (facN n) m (zE e) r
  expr : ∀ r, sawG 6 [42] r = false → ∃ m, mx ≤ m + d ∧ exprG (facN n) (tkE e ++ r) = exprGo (termG (facN n)) m (zE e) r
theorem term_of_fac {fac : List Tk → Rs Ex} {x r : List Tk} {e : Ex} (h : fac (x ++ r) = pure' e r) : termG fac (x ++ r) = termGo fac mx e r := by
  unfold termG; rw [h]; rfl
theorem expr_of_term {fac : List Tk → Rs Ex} {x r : List Tk} {e : Ex} {m : Nat} (hr : sawG 6 [42] r = false) (h : termG fac (x ++ r) = termGo fac m e r) : exprG fac (x ++ r) = exprGo (termG fac) mx e r := by
  unfold exprG; rw [h, term_stop hr]; rfl
theorem Q_fac {n d : Nat} {e : Ex} (h : ∀ r, facN n (tkE e ++ r) = pure' (zE e) r) : Q n d e :=
  ⟨fun _ => h, fun _ r => ⟨mx, by omega, term_of_fac (h r)⟩, fun r hr => ⟨mx, by omega, expr_of_term hr (term_of_fac (h r))⟩⟩
theorem Q_term {n d : Nat} {e : Ex} (h2 : ¬ firmB e.1.kind = 2) (h : ∀ r, ∃ m, mx ≤ m + d ∧ termG (facN n) (tkE e ++ r) = termGo (facN n) m (zE e) r) : Q n d e :=
  ⟨fun h3 => absurd h3 h2, fun _ r => h r, fun r hr => ⟨mx, by omega, expr_of_term hr (h r).choose_spec.2⟩⟩
theorem Q.whole {n d : Nat} {e : Ex} (h : Q n d e) {r : List Tk} (hr : stop r) : exprG (facN n) (tkE e ++ r) = pure' (zE e) r := by
  obtain ⟨m, _, hm⟩ := h.expr r hr.1
  rw [hm, expr_stop hr.2.1 hr.2.2]
theorem stop_close (r : List Tk) : stop (sg [41] :: r) := ⟨rfl, rfl, rfl⟩
theorem brack {n d : Nat} {e : Ex} (h : Q n d e) (r : List Tk) : facN (n + 1) ((sg [40] :: (tkE e ++ [sg [41]])) ++ r) = pure' (zE e) r := by
  have h1 := h.whole (stop_close r)
  show closeG [41] (exprG (facN n) ((tkE e ++ [sg [41]]) ++ r)) = _
  rw [List.append_assoc]
  show closeG [41] (exprG (facN n) (tkE e ++ (sg [41] :: r))) = _
  rw [h1]
  rfl
theorem firm_cases (k : Int) : firmB k = 0 ∨ firmB k = 1 ∨ firmB k = 2 := by
  unfold firmB
  split
  · exact .inl rfl
  · split
    · exact .inr (.inl rfl)
    · exact .inr (.inr rfl)
theorem br2 {n d : Nat} {e : Ex} (h : Q n d e) (h' : Q (n + 1) d e) (r : List Tk) : facN (n + 1) (brT 2 (e.1.kind, tkE e) ++ r) = pure' (zE e) r := by
  unfold brT
  split
  · rename_i hf
    refine h'.fac ?_ r
    rcases firm_cases e.1.kind with h1 | h1 | h1 <;> simp only [h1] at hf ⊢ <;> omega
  · exact brack h r
theorem br1 {n d : Nat} {e : Ex} (h : Q n d e) (h' : Q (n + 1) d e) (r : List Tk) : ∃ m, mx ≤ m + d ∧ termG (facN (n + 1)) (brT 1 (e.1.kind, tkE e) ++ r) = termGo (facN (n + 1)) m (zE e) r := by
  unfold brT
  split
  · rename_i hf
    exact h'.term hf r
  · exact ⟨mx, by omega, term_of_fac (brack h r)⟩
def QF (n d : Nat) : Fo → Prop
  | .nil => True
  | .node _ _ h k r => Q n d (h, k) ∧ QF n d r
theorem sep_stop (ks : List Kz) (r : List Tk) : stop (allT (sg [44]) false ks ++ (sg [41] :: r)) := by
  cases ks with
  | nil => exact ⟨rfl, rfl, rfl⟩
  | cons x ks => exact ⟨rfl, rfl, rfl⟩
theorem kids_go {n d : Nat} : ∀ (F : Fo) (m : Nat) (acc : List Ex) (r : List Tk), QF n d F → lenF F ≤ m → acc.length + lenF F ≤ 8 →
    kidsGo (exprG (facN n)) m acc (allT (sg [44]) false (tkF F) ++ (sg [41] :: r)) = pure' (acc ++ zL F) (sg [41] :: r)
  | .nil, m, acc, r, _, _, _ => by
    cases m with
    | zero => simp [kidsGo, tkF, allT, zL]
    | succ m => simp [kidsGo, tkF, allT, zL, isT, sg, tk]
  | .node _ _ h k F, 0, acc, r, _, hm, _ => by simp [lenF] at hm
  | .node _ _ h k F, m + 1, acc, r, hq, hm, ha => by
    simp only [lenF] at hm ha
    have e1 : allT (sg [44]) false (tkF (.node 0 0 h k F)) ++ (sg [41] :: r) = sg [44] :: (tkE (h, k) ++ (allT (sg [44]) false (tkF F) ++ (sg [41] :: r))) := by
      simp [tkF, allT, tkE]
    show kidsGo (exprG (facN n)) (m + 1) acc (allT (sg [44]) false (tkF (.node 0 0 h k F)) ++ (sg [41] :: r)) = _
    rw [e1, kidsGo, if_pos (show isT 6 [44] (sg [44]) = true from rfl), show decide (acc.length = 8) = false from decide_eq_false (by omega)]
    show (exprG (facN n) _).bind _ = _
    rw [hq.1.whole (sep_stop _ _), pure_bind', kids_go F m (acc ++ [zE (h, k)]) r hq.2 (by omega) (by simp; omega)]
    simp [zL]
theorem kids_whole {n d : Nat} (F : Fo) (r : List Tk) (hq : QF n d F) (h1 : 1 ≤ lenF F) (h8 : lenF F ≤ 8) :
    kidsG (exprG (facN n)) (sg [40] :: (allT (sg [44]) true (tkF F) ++ [sg [41]]) ++ r) = pure' (zL F) r := by
  cases F with
  | nil => simp [lenF] at h1
  | node a b h k F =>
    simp only [lenF] at h1 h8
    have e1 : (sg [40] :: (allT (sg [44]) true (tkF (.node a b h k F)) ++ [sg [41]])) ++ r = sg [40] :: (tkE (h, k) ++ (allT (sg [44]) false (tkF F) ++ (sg [41] :: r))) := by
      simp [tkF, allT, tkE]
    rw [e1]
    show closeG [41] ((exprG (facN n) (tkE (h, k) ++ (allT (sg [44]) false (tkF F) ++ (sg [41] :: r)))).bind fun e l2 => kidsGo (exprG (facN n)) mx [e] l2) = _
    rw [hq.1.whole (sep_stop _ _), pure_bind', kids_go F mx [zE (h, k)] r hq.2 (by unfold mx; omega) (by simp; omega)]
    rfl
theorem len_one : ∀ {F : Fo}, lenF F = 1 → ∃ a b h k, F = .node a b h k .nil
  | .nil, h => by cases h
  | .node a b h k .nil, _ => ⟨a, b, h, k, rfl⟩
  | .node _ _ _ _ (.node _ _ _ _ _), h => by simp [lenF] at h
theorem len_two : ∀ {F : Fo}, lenF F = 2 → ∃ a b h k a' b' h' k', F = .node a b h k (.node a' b' h' k' .nil)
  | .nil, h => by cases h
  | .node _ _ _ _ .nil, h => by simp [lenF] at h
  | .node a b h k (.node a' b' h' k' .nil), _ => ⟨a, b, h, k, a', b', h', k', rfl⟩
  | .node _ _ _ _ (.node _ _ _ _ (.node _ _ _ _ _)), h => by simp [lenF] at h
theorem len_none : ∀ {F : Fo}, lenF F = 0 → F = .nil
  | .nil, _ => rfl
  | .node _ _ _ _ _, h => by simp [lenF] at h
theorem Q_leaf {n d : Nat} {h : Hd} (hh : hdRight h 0 = true) (hk : h.kind = 1 ∨ h.kind = 2 ∨ h.kind = 3) : Q (n + 1) d (h, .nil) := by
  refine Q_fac fun r => ?_
  obtain ⟨k, num, tx, pl⟩ := h
  simp only at hk
  rcases hk with rfl | rfl | rfl
  · simp [hdRight] at hh
    simp [tkE, exT, zE, zH, zF, facN, tk, hh]
  · simp [hdRight] at hh
    simp [tkE, exT, zE, zH, zF, facN, tk, hh]
  · simp [hdRight] at hh
    simp [tkE, exT, zE, zH, zF, facN, tk, hh]
theorem Q_neg {n d D : Nat} {h : Hd} {k : Fo} (hh : hdRight h (lenF k) = true) (hk : h.kind = 4) (h1 : QF n d k) (h2 : QF (n + 1) d k) : Q (n + 2) D (h, k) := by
  refine Q_fac fun r => ?_
  obtain ⟨kd, num, tx, pl⟩ := h
  simp only at hk
  subst hk
  simp [hdRight] at hh
  obtain ⟨hn, ht, hl⟩ := hh
  obtain ⟨a, b, h', k', rfl⟩ := len_one hl
  subst hn ht
  have e1 : tkE (⟨4, 0, [], pl⟩, .node a b h' k' .nil) = sg [45] :: brT 2 (h'.kind, tkE (h', k')) := by
    simp [tkE, exT, tkF, kz]
  rw [e1]
  show (facN (n + 1) (brT 2 (h'.kind, tkE (h', k')) ++ r)).map (fun e => (hdB 4 (sg [45]), ofL [e])) = _
  rw [br2 (e := (h', k')) h1.1 h2.1 r]
  rfl
theorem Q_many {n d D : Nat} {h : Hd} {k : Fo} (hh : hdRight h (lenF k) = true) (hk : h.kind = 8 ∨ h.kind = 9) (h1 : QF n d k) : Q (n + 1) D (h, k) := by
  refine Q_fac fun r => ?_
  obtain ⟨kd, num, tx, pl⟩ := h
  simp only at hk
  rcases hk with rfl | rfl
  · simp [hdRight] at hh
    obtain ⟨hn, ht, hl, hl8⟩ := hh
    subst hn ht
    have e1 : tkE (⟨8, 0, [], pl⟩, k) = tk 4 0 wMin :: sg [40] :: (allT (sg [44]) true (tkF k) ++ [sg [41]]) := by simp [tkE, exT]
    rw [e1]
    show (kidsG (exprG (facN n)) ((sg [40] :: (allT (sg [44]) true (tkF k) ++ [sg [41]])) ++ r)).map (fun ks => (hdB 8 (tk 4 0 wMin), ofL ks)) = _
    rw [kids_whole k r h1 hl hl8]
    show pure' (hdB 8 (tk 4 0 wMin), ofL (zL k)) r = _
    rw [ofL_zL]
    rfl
  · simp [hdRight] at hh
    obtain ⟨hn, ht, hl, hl8⟩ := hh
    subst hn ht
    have e1 : tkE (⟨9, 0, [], pl⟩, k) = tk 4 0 wMax :: sg [40] :: (allT (sg [44]) true (tkF k) ++ [sg [41]]) := by simp [tkE, exT]
    rw [e1]
    show (kidsG (exprG (facN n)) ((sg [40] :: (allT (sg [44]) true (tkF k) ++ [sg [41]])) ++ r)).map (fun ks => (hdB 9 (tk 4 0 wMax), ofL ks)) = _
    rw [kids_whole k r h1 hl hl8]
    show pure' (hdB 9 (tk 4 0 wMax), ofL (zL k)) r = _
    rw [ofL_zL]
    rfl
theorem Q_mul {n d : Nat} {h : Hd} {k : Fo} (hd : d + 1 ≤ 1000) (hh : hdRight h (lenF k) = true) (hk : h.kind = 7) (h1 : QF n d k) (h2 : QF (n + 1) d k) : Q (n + 1) (d + 1) (h, k) := by
  refine Q_term (by rw [show ((h, k) : Ex).1.kind = h.kind from rfl, hk]; decide) fun r => ?_
  obtain ⟨kd, num, tx, pl⟩ := h
  simp only at hk
  subst hk
  simp [hdRight] at hh
  obtain ⟨hn, ht, hl⟩ := hh
  obtain ⟨a, b, h', k', a2, b2, h2', k2', rfl⟩ := len_two hl
  subst hn ht
  have e1 : tkE (⟨7, 0, [], pl⟩, .node a b h' k' (.node a2 b2 h2' k2' .nil)) ++ r = brT 1 (h'.kind, tkE (h', k')) ++ (sg [42] :: (brT 2 (h2'.kind, tkE (h2', k2')) ++ r)) := by
    simp [tkE, exT, tkF, kz, firmB, sgnB]
  rw [e1]
  obtain ⟨m, hm, e2⟩ := br1 (e := (h', k')) h1.1 h2.1 (sg [42] :: (brT 2 (h2'.kind, tkE (h2', k2')) ++ r))
  rw [e2]
  unfold mx at hm
  cases m with
  | zero => omega
  | succ m =>
    refine ⟨m, by unfold mx; omega, ?_⟩
    rw [termGo, if_pos (show isT 6 [42] (sg [42]) = true from rfl), br2 (e := (h2', k2')) h1.2.1 h2.2.1 r, pure_bind']
    rfl
theorem Q_sum {n d : Nat} {h : Hd} {k : Fo} (hd : d + 1 ≤ 1000) (hh : hdRight h (lenF k) = true) (hk : h.kind = 5 ∨ h.kind = 6) (h1 : QF n d k) (h2 : QF (n + 1) d k) : Q (n + 1) (d + 1) (h, k) := by
  obtain ⟨kd, num, tx, pl⟩ := h
  simp only at hk
  have hf : firmB kd = 0 := by rcases hk with rfl | rfl <;> decide
  have hf2 : ¬ firmB kd = 2 := by rw [hf]; decide
  have hf1 : ¬ 1 ≤ firmB kd := by rw [hf]; decide
  refine ⟨fun h3 => absurd h3 hf2, fun h3 => absurd h3 hf1, fun r hr => ?_⟩
  have hh2 : num = 0 ∧ tx = [] ∧ lenF k = 2 := by
    rcases hk with rfl | rfl <;> simpa [hdRight] using hh
  obtain ⟨hn, ht, hl⟩ := hh2
  obtain ⟨a, b, h', k', a2, b2, h2', k2', rfl⟩ := len_two hl
  subst hn ht
  have e1 : tkE (⟨kd, 0, [], pl⟩, .node a b h' k' (.node a2 b2 h2' k2' .nil)) ++ r = tkE (h', k') ++ (sg (sgnB kd) :: (brT 1 (h2'.kind, tkE (h2', k2')) ++ r)) := by
    have e0 : brT 0 (h'.kind, tkE (h', k')) = tkE (h', k') := by
      unfold brT
      rw [if_pos (by rcases firm_cases h'.kind with h | h | h <;> simp only [h] <;> decide)]
    rcases hk with rfl | rfl
    · rw [← e0]; simp [tkE, exT, tkF, kz, firmB, sgnB]
    · rw [← e0]; simp [tkE, exT, tkF, kz, firmB, sgnB]
  rw [e1]
  obtain ⟨m, hm, e2⟩ := h2.1.expr (sg (sgnB kd) :: (brT 1 (h2'.kind, tkE (h2', k2')) ++ r)) (by rcases hk with rfl | rfl <;> rfl)
  rw [e2]
  obtain ⟨m', _, e3⟩ := br1 (e := (h2', k2')) h1.2.1 h2.2.1 r
  unfold mx at hm
  cases m with
  | zero => omega
  | succ m =>
    refine ⟨m, by unfold mx; omega, ?_⟩
    rw [exprGo, if_pos (by rcases hk with rfl | rfl <;> rfl), e3, term_stop hr, pure_bind']
    rcases hk with rfl | rfl <;> rfl
/-- Tokens of right expressions are read as these. -/
theorem q_all : ∀ (F : Fo) (d n : Nat), d ≤ 1000 → rgtF d F = true → 2 * d ≤ n → QF n d F
  | .nil, _, _, _, _, _ => trivial
  | .node _ _ h k r, d, n, h1000, hr, hn => by
    simp only [rgtF, Bool.and_eq_true, decide_eq_true_eq] at hr
    obtain ⟨h0, hh, hk, hrr⟩ := hr
    refine ⟨?_, q_all r d n h1000 hrr hn⟩
    obtain ⟨d, rfl⟩ : ∃ d', d = d' + 1 := ⟨d - 1, by omega⟩
    simp only [Nat.add_sub_cancel] at hk
    obtain ⟨n, rfl⟩ : ∃ n', n = n' + 2 := ⟨n - 2, by omega⟩
    have K := fun m hm => q_all k d m (by omega) hk hm
    by_cases c1 : h.kind = 1 ∨ h.kind = 2 ∨ h.kind = 3
    · have hl : lenF k = 0 := by
        rcases c1 with c | c | c <;> simp [hdRight, c] at hh <;> omega
      rw [len_none hl] at hh ⊢
      exact Q_leaf hh c1
    by_cases c4 : h.kind = 4
    · exact Q_neg hh c4 (K n (by omega)) (K (n + 1) (by omega))
    by_cases c8 : h.kind = 8 ∨ h.kind = 9
    · exact Q_many hh c8 (K (n + 1) (by omega))
    by_cases c7 : h.kind = 7
    · exact Q_mul (by omega) hh c7 (K (n + 1) (by omega)) (K (n + 2) (by omega))
    by_cases c5 : h.kind = 5 ∨ h.kind = 6
    · exact Q_sum (by omega) hh c5 (K (n + 1) (by omega)) (K (n + 2) (by omega))
    exfalso
    have : hdRight h (lenF k) = false := by
      unfold hdRight
      rw [if_neg (by omega), if_neg (by omega), if_neg (by omega), if_neg (by omega), if_neg (by omega), if_neg (by omega)]
    rw [this] at hh; cases hh
end Go.Proofs.YtpeldiibjhffiaaDoor
namespace Go.Proofs.YtpeldiibjhffiaaDoor
open Go.RowKit Go.Deep

def sepT (k : Int) : Tk := if k = 8 then sg [46, 46] else sg [44]
def wLet : List UInt8 := [108, 101, 116]
def wMode : List UInt8 := [109, 111, 100, 101]
def headT (i : It) : List Tk := if i.kind = 1 then [tk 4 0 wLet, tk 3 0 i.name, sg [61]] else if i.kind = 7 then [tk 4 0 wMode, tk 4 0 i.name] else [tk 4 0 (wordI i.kind)]
/-- The tokens of an item. -/
def itT (i : It) : List Tk := headT i ++ (allT (sepT i.kind) true (tkF i.args) ++ [sg [59]])
def zI (i : It) : It := ⟨i.kind, i.name, zF i.args, 0⟩
theorem stop_end (r : List Tk) : stop (sg [59] :: r) := ⟨rfl, rfl, rfl⟩
theorem one_read {n d a b : Nat} {h : Hd} {k : Fo} (hq : QF n d (.node a b h k .nil)) (r : List Tk) : oneG (exprG (facN n)) (tkE (h, k) ++ (sg [59] :: r)) = pure' (zF (.node a b h k .nil)) (sg [59] :: r) := by
  unfold oneG
  rw [hq.1.whole (stop_end r)]
  rfl
theorem both_read {n d a b a' b' : Nat} {h h' : Hd} {k k' : Fo} (s : List UInt8) (hs : ∀ r, stop (sg s :: r)) (hq : QF n d (.node a b h k (.node a' b' h' k' .nil))) (r : List Tk) :
    bothG (exprG (facN n)) s (tkE (h, k) ++ (sg s :: (tkE (h', k') ++ (sg [59] :: r)))) = pure' (zF (.node a b h k (.node a' b' h' k' .nil))) (sg [59] :: r) := by
  unfold bothG
  rw [hq.1.whole (hs _), pure_bind']
  have e1 : signG s (sg s :: (tkE (h', k') ++ (sg [59] :: r))) = pure' () (tkE (h', k') ++ (sg [59] :: r)) := by
    show (if isT 6 s (sg s) = true then pure' () (tkE (h', k') ++ (sg [59] :: r)) else _) = _
    rw [if_pos (by simp [isT, sg, tk])]
  rw [e1, pure_bind', hq.2.1.whole (stop_end r)]
  rfl
theorem item_core {ex : List Tk → Rs Ex} {w : List UInt8} {l : List Tk} {k : Int} {b : List UInt8 × Fo} {r : List Tk} (hw : itemKindB w = k) (hk : k ≠ 0) (hb : bodyG ex k l = pure' b (sg [59] :: r)) :
    itemG ex (tk 4 0 w :: l) = pure' ⟨k, b.1, b.2, 0⟩ r := by
  subst hw
  show (if (4 : Int) = 4 ∧ itemKindB w ≠ 0 then (closeG [59] (bodyG ex (itemKindB w) l)).map (fun b => (⟨itemKindB w, b.1, b.2, ((0 : Nat) : Int)⟩ : It)) else _) = _
  rw [if_pos ⟨rfl, hk⟩]
  show Rs.map (closeG [59] (bodyG ex (itemKindB w) l)) _ = _
  rw [hb]
  rfl
theorem body_one {ex : List Tk → Rs Ex} {k : Int} {l r : List Tk} {F : Fo} (hk : k = 2 ∨ k = 3 ∨ k = 4 ∨ k = 10) (h : oneG ex l = pure' F r) : bodyG ex k l = pure' ([], F) r := by
  unfold bodyG
  rw [if_neg (by omega), if_neg (by omega), if_neg (by omega), if_neg (by omega), h]
  rfl
theorem body_two {ex : List Tk → Rs Ex} {k : Int} {l r : List Tk} {F : Fo} (hk : k = 5 ∨ k = 6 ∨ k = 9) (h : bothG ex [44] l = pure' F r) : bodyG ex k l = pure' ([], F) r := by
  unfold bodyG
  rw [if_neg (by omega), if_neg (by omega), if_neg (by omega), if_pos (by omega), h]
  rfl
theorem body_band {ex : List Tk → Rs Ex} {l r : List Tk} {F : Fo} (h : bothG ex [46, 46] l = pure' F r) : bodyG ex 8 l = pure' ([], F) r := by
  unfold bodyG
  rw [if_neg (by omega), if_neg (by omega), if_pos rfl, h]
  rfl
theorem body_let {ex : List Tk → Rs Ex} {s : List UInt8} {l r : List Tk} {F : Fo} (h : oneG ex l = pure' F r) : bodyG ex 1 (tk 3 0 s :: sg [61] :: l) = pure' (s, F) r := by
  unfold bodyG
  rw [if_pos rfl]
  show ((oneG ex l).bind fun f l3 => pure' (s, f) l3) = _
  rw [h]
  rfl
theorem body_mode {ex : List Tk → Rs Ex} {s : List UInt8} {r : List Tk} (h : isWayB s = true) : bodyG ex 7 (tk 4 0 s :: r) = pure' (s, .nil) r := by
  unfold bodyG
  rw [if_neg (by omega), if_pos rfl]
  have e : wayG (tk 4 0 s :: r) = pure' s r := by
    show (if (4 : Int) = 4 ∧ isWayB s = true then pure' s r else _) = _
    rw [if_pos ⟨rfl, h⟩]
  rw [e]
  rfl
theorem it_args {i : It} (h : itRight i = true) : rgtF 32 i.args = true := by
  unfold itRight at h
  split at h
  · simp only [Bool.and_eq_true] at h; exact h.2.2
  split at h
  · simp only [Bool.and_eq_true, decide_eq_true_eq] at h; rw [len_none h.2]; rfl
  split at h
  · simp only [Bool.and_eq_true] at h; exact h.2.2
  split at h
  · simp only [Bool.and_eq_true] at h; exact h.2.2
  · cases h
theorem word_kind {k : Int} (h : k = 2 ∨ k = 3 ∨ k = 4 ∨ k = 5 ∨ k = 6 ∨ k = 8 ∨ k = 9 ∨ k = 10) : itemKindB (wordI k) = k := by
  rcases h with rfl | rfl | rfl | rfl | rfl | rfl | rfl | rfl <;> rfl
theorem item_read {i : It} (hi : itRight i = true) (r : List Tk) : itemG (exprG (facN mx)) (itT i ++ r) = pure' (zI i) r := by
  have hq : QF mx 32 i.args := q_all i.args 32 mx (by omega) (it_args hi) (by unfold mx; omega)
  obtain ⟨k, name, args, pl⟩ := i
  simp only at hq
  by_cases c1 : k = 1
  · subst c1
    have hi' : nameB name = true ∧ lenF args = 1 := by simp [itRight] at hi; exact ⟨hi.1, hi.2.1⟩
    obtain ⟨a, b, h, kk, rfl⟩ := len_one hi'.2
    have e1 : itT ⟨1, name, .node a b h kk .nil, pl⟩ ++ r = tk 4 0 wLet :: tk 3 0 name :: sg [61] :: (tkE (h, kk) ++ (sg [59] :: r)) := by
      simp [itT, headT, tkF, allT, tkE]
    rw [e1, item_core (k := 1) (b := (name, zF (.node a b h kk .nil))) (r := r) rfl (by omega) (body_let (one_read hq r))]
    rfl
  by_cases c7 : k = 7
  · subst c7
    have hi' : isWayB name = true ∧ lenF args = 0 := by simpa [itRight] using hi
    obtain rfl := len_none hi'.2
    have e1 : itT ⟨7, name, .nil, pl⟩ ++ r = tk 4 0 wMode :: tk 4 0 name :: (sg [59] :: r) := by
      simp [itT, headT, tkF, allT]
    rw [e1, item_core (k := 7) (b := (name, .nil)) (r := r) rfl (by omega) (body_mode hi'.1)]
    rfl
  by_cases c2 : k = 2 ∨ k = 3 ∨ k = 4 ∨ k = 10
  · have hi' : name = [] ∧ lenF args = 1 := by
      unfold itRight at hi
      rw [if_neg c1, if_neg c7, if_pos c2] at hi
      simp only [Bool.and_eq_true, decide_eq_true_eq] at hi
      exact ⟨hi.1, hi.2.1⟩
    obtain ⟨hn, hl⟩ := hi'
    subst hn
    obtain ⟨a, b, h, kk, rfl⟩ := len_one hl
    have e1 : itT ⟨k, [], .node a b h kk .nil, pl⟩ ++ r = tk 4 0 (wordI k) :: (tkE (h, kk) ++ (sg [59] :: r)) := by
      simp [itT, headT, tkF, allT, tkE, c1, c7]
    rw [e1, item_core (k := k) (b := ([], zF (.node a b h kk .nil))) (r := r) (word_kind (by omega)) (by omega) (body_one c2 (one_read hq r))]
    rfl
  by_cases c5 : k = 5 ∨ k = 6 ∨ k = 8 ∨ k = 9
  · have hi' : name = [] ∧ lenF args = 2 := by
      unfold itRight at hi
      rw [if_neg c1, if_neg c7, if_neg c2, if_pos c5] at hi
      simp only [Bool.and_eq_true, decide_eq_true_eq] at hi
      exact ⟨hi.1, hi.2.1⟩
    obtain ⟨hn, hl⟩ := hi'
    subst hn
    obtain ⟨a, b, h, kk, a', b', h', kk', rfl⟩ := len_two hl
    have e1 : itT ⟨k, [], .node a b h kk (.node a' b' h' kk' .nil), pl⟩ ++ r = tk 4 0 (wordI k) :: (tkE (h, kk) ++ (sepT k :: (tkE (h', kk') ++ (sg [59] :: r)))) := by
      simp [itT, headT, tkF, allT, tkE, c1, c7]
    rw [e1]
    by_cases c8 : k = 8
    · subst c8
      rw [show sepT 8 = sg [46, 46] from rfl, item_core (k := 8) (b := ([], zF (.node a b h kk (.node a' b' h' kk' .nil)))) (r := r) (word_kind (by omega)) (by omega) (body_band (both_read [46, 46] (fun _ => ⟨rfl, rfl, rfl⟩) hq r))]
      rfl
    · rw [show sepT k = sg [44] from if_neg c8, item_core (k := k) (b := ([], zF (.node a b h kk (.node a' b' h' kk' .nil)))) (r := r) (word_kind (by omega)) (by omega) (body_two (by omega) (both_read [44] (fun _ => ⟨rfl, rfl, rfl⟩) hq r))]
      rfl
  exfalso
  unfold itRight at hi
  rw [if_neg c1, if_neg c7, if_neg c2, if_neg c5] at hi
  cases hi
theorem it_head (i : It) : ∃ t r, itT i = t :: r ∧ ¬ t.kind = 1 := by
  unfold itT headT
  split
  · exact ⟨_, _, rfl, by show ¬ (4 : Int) = 1; decide⟩
  split
  · exact ⟨_, _, rfl, by show ¬ (4 : Int) = 1; decide⟩
  · exact ⟨_, _, rfl, by show ¬ (4 : Int) = 1; decide⟩
theorem source_read (q : Nat) : ∀ (L : List It) (m : Nat) (acc : List It), L.all itRight = true → L.length ≤ m → acc.length + L.length ≤ 100 →
    sourceGo (exprG (facN mx)) m acc (L.flatMap itT ++ [endTk q]) = pure' (acc ++ L.map zI) [endTk q]
  | [], m, acc, _, _, _ => by
    cases m with
    | zero => simp [sourceGo]
    | succ m => simp [sourceGo, endTk]
  | i :: L, 0, acc, _, h, _ => by simp at h
  | i :: L, m + 1, acc, hr, hm, ha => by
    simp only [List.all_cons, Bool.and_eq_true] at hr
    simp only [List.length_cons] at hm ha
    obtain ⟨t, r, e1, ht⟩ := it_head i
    have e2 : (i :: L).flatMap itT ++ [endTk q] = t :: (r ++ (L.flatMap itT ++ [endTk q])) := by
      simp [List.flatMap_cons, e1]
    have e3 : t :: (r ++ (L.flatMap itT ++ [endTk q])) = itT i ++ (L.flatMap itT ++ [endTk q]) := by rw [e1]; rfl
    rw [e2, sourceGo, if_neg ht, show decide (acc.length = 100) = false from decide_eq_false (by omega)]
    show (itemG (exprG (facN mx)) (t :: (r ++ (L.flatMap itT ++ [endTk q])))).bind _ = _
    rw [e3, item_read hr.1, pure_bind', source_read q L m (acc ++ [zI i]) hr.2 (by omega) (by simp; omega)]
    simp
theorem rgt_dep : ∀ (F : Fo) (d : Nat), rgtF d F = true → depF F ≤ d
  | .nil, _, _ => Nat.zero_le _
  | .node _ _ h k r, d, hr => by
    simp only [rgtF, Bool.and_eq_true, decide_eq_true_eq] at hr
    have h1 := rgt_dep k (d - 1) hr.2.2.1
    have h2 := rgt_dep r d hr.2.2.2
    simp only [depF]
    omega
theorem dep_z : ∀ F : Fo, depF (zF F) = depF F
  | .nil => rfl
  | .node _ _ h k r => by simp [zF, nd, depF, dep_z k, dep_z r]
theorem deep_right : ∀ L : List It, L.all itRight = true → deepR (L.map zI) = (0, 0)
  | [], _ => rfl
  | i :: L, h => by
    simp only [List.all_cons, Bool.and_eq_true] at h
    have h1 := rgt_dep _ _ (it_args h.1)
    have h2 : deepW (zI i) = false := by
      show decide (32 < depW (zF i.args)) = false
      have h3 : depF (zF i.args) ≤ 32 := by rw [dep_z]; exact h1
      rw [depW_eq _ (by omega)]
      exact decide_eq_false (by omega)
    rw [List.map_cons, deepR_cons, h2]
    exact deep_right L h.2
/-- What is read of a right tree's tokens. -/
theorem end_read {L : List It} (h : treeRight L = true) (q : Nat) : endW (sourceG (L.flatMap itT ++ [endTk q])) = (L.map zI, 0, 0) := by
  unfold treeRight at h
  simp only [Bool.and_eq_true, decide_eq_true_eq] at h
  have e1 : sourceG (L.flatMap itT ++ [endTk q]) = pure' (L.map zI) [endTk q] := source_read q L mx [] h.2 (by unfold mx; omega) (by simpa using h.1)
  rw [e1]
  unfold endW
  show (if (flt [] (0, 0)).1 ≠ 0 then _ else if (deepR (L.map zI)).1 ≠ 0 then _ else (L.map zI, 0, 0)) = _
  rw [flt_nil, if_neg (by simp), deep_right L h.2, if_neg (by simp)]
end Go.Proofs.YtpeldiibjhffiaaDoor
