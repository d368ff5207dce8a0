/-
  The text of an expression as the argument of each sign, and alone: what is read of it. Whatever tokens are read as an expression are at least as many as those of its text. An expression's text in pieces: where its brackets stand, and what is left without a pair of them.
-/
import Derived.Test.YtpeldiibjhffiaaDoorG37
import Derived.Test.YtpeldiibjhffiaaDoorG33
namespace Go.Proofs.YtpeldiibjhffiaaDoor
open Go.RowKit Go.Deep

def wLeast : List UInt8 := [108, 101, 97, 115, 116]
def brK (A : List Tk) : List Tk := sg [40] :: (A ++ [sg [41]])
def kT1 (A B : List Tk) : List Tk := tk 4 0 wLeast :: (brK A ++ (sg [42] :: (brK B ++ [sg [59]])))
def kT2 (A B : List Tk) : List Tk := tk 4 0 wLeast :: (brK A ++ (sg [45] :: (brK B ++ [sg [59]])))
def kT3 (A : List Tk) : List Tk := tk 4 0 wLeast :: (A ++ [sg [59]])
def kT4 (B : List Tk) : List Tk := tk 4 0 wLeast :: (sg [45] :: (brK B ++ [sg [59]]))
def kT (A B : List Tk) : List Tk := kT1 A B ++ (kT2 A B ++ (kT3 A ++ kT4 B))
/-- The text that is read. -/
def kB (s t : List UInt8) : List UInt8 :=
  [108, 101, 97, 115, 116, 32, 40] ++ (s ++ ([41, 32, 42, 32, 40] ++ (t ++ ([41, 59, 32, 108, 101, 97, 115, 116, 32, 40] ++ (s ++ ([41, 32, 45, 32, 40] ++ (t ++ ([41, 59, 32, 108, 101, 97, 115, 116, 32] ++ (s ++ ([59, 32, 108, 101, 97, 115, 116, 32, 45, 40] ++ (t ++ [41, 59])))))))))))
def hK (k : Int) : Hd := ⟨k, 0, [], 0⟩
/-- The tree that is asked for. -/
def kI (a b : Ex) : List It := [⟨10, [], ofL [(hK 7, ofL [a, b])], 0⟩, ⟨10, [], ofL [(hK 6, ofL [a, b])], 0⟩, ⟨10, [], ofL [a], 0⟩, ⟨10, [], ofL [(hK 4, ofL [b])], 0⟩]
theorem term_step {fac : List Tk → Rs Ex} {m : Nat} (hm : 1 ≤ m) {e e2 : Ex} {r r2 : List Tk} (h : fac r = pure' e2 r2) : termGo fac m e (sg [42] :: r) = termGo fac (m - 1) (hK 7, ofL [e, e2]) r2 := by
  cases m with
  | zero => omega
  | succ m =>
    rw [termGo, if_pos (show isT 6 [42] (sg [42]) = true from rfl), h]
    rfl
theorem expr_step {trm : List Tk → Rs Ex} {m : Nat} (hm : 1 ≤ m) {e e2 : Ex} {r r2 : List Tk} (h : trm r = pure' e2 r2) : exprGo trm m e (sg [45] :: r) = exprGo trm (m - 1) (hK 6, ofL [e, e2]) r2 := by
  cases m with
  | zero => omega
  | succ m =>
    rw [exprGo, if_pos (show (isT 6 [43] (sg [45]) || isT 6 [45] (sg [45])) = true from rfl), h]
    rfl
theorem ex_mul {n d : Nat} {a b : Ex} (ha : Q n d a) (hb : Q n d b) (r : List Tk) : exprG (facN (n + 1)) (brK (tkE a) ++ (sg [42] :: (brK (tkE b) ++ (sg [59] :: r)))) = pure' (hK 7, ofL [zE a, zE b]) (sg [59] :: r) := by
  have h1 := term_of_fac (brack ha (sg [42] :: (brK (tkE b) ++ (sg [59] :: r))))
  have h2 : facN (n + 1) (brK (tkE b) ++ (sg [59] :: r)) = pure' (zE b) (sg [59] :: r) := brack hb (sg [59] :: r)
  unfold exprG
  rw [show brK (tkE a) = sg [40] :: (tkE a ++ [sg [41]]) from rfl, h1, term_step (by unfold mx; omega) h2, term_stop (stop_end r).1]
  show exprGo (termG (facN (n + 1))) mx _ (sg [59] :: r) = _
  rw [expr_stop (stop_end r).2.1 (stop_end r).2.2]
theorem ex_sub {n d : Nat} {a b : Ex} (ha : Q n d a) (hb : Q n d b) (r : List Tk) : exprG (facN (n + 1)) (brK (tkE a) ++ (sg [45] :: (brK (tkE b) ++ (sg [59] :: r)))) = pure' (hK 6, ofL [zE a, zE b]) (sg [59] :: r) := by
  have h1 := term_of_fac (brack ha (sg [45] :: (brK (tkE b) ++ (sg [59] :: r))))
  have h2 : termG (facN (n + 1)) (brK (tkE b) ++ (sg [59] :: r)) = pure' (zE b) (sg [59] :: r) := by
    have := term_of_fac (brack hb (sg [59] :: r))
    rw [term_stop (stop_end r).1] at this
    exact this
  unfold exprG
  rw [show brK (tkE a) = sg [40] :: (tkE a ++ [sg [41]]) from rfl, h1, term_stop (show sawG 6 [42] (sg [45] :: (brK (tkE b) ++ (sg [59] :: r))) = false from rfl)]
  show exprGo (termG (facN (n + 1))) mx (zE a) (sg [45] :: (brK (tkE b) ++ (sg [59] :: r))) = _
  rw [expr_step (by unfold mx; omega) h2, expr_stop (stop_end r).2.1 (stop_end r).2.2]
theorem ex_neg {n d : Nat} {b : Ex} (hb : Q n d b) (r : List Tk) : exprG (facN (n + 2)) (sg [45] :: (brK (tkE b) ++ (sg [59] :: r))) = pure' (hK 4, ofL [zE b]) (sg [59] :: r) := by
  have h2 := brack hb (sg [59] :: r)
  have h3 : facN (n + 2) ((sg [45] :: brK (tkE b)) ++ (sg [59] :: r)) = pure' (hK 4, ofL [zE b]) (sg [59] :: r) := by
    show (facN (n + 1) (brK (tkE b) ++ (sg [59] :: r))).map (fun e => (hdB 4 (sg [45]), ofL [e])) = _
    rw [show brK (tkE b) = sg [40] :: (tkE b ++ [sg [41]]) from rfl, h2]
    rfl
  have h4 := expr_of_term (stop_end r).1 (term_of_fac h3)
  rw [expr_stop (stop_end r).2.1 (stop_end r).2.2] at h4
  exact h4
theorem one_of {ex : List Tk → Rs Ex} {e : Ex} {l r : List Tk} (h : ex l = pure' e r) : oneG ex l = pure' (ofL [e]) r := by
  unfold oneG
  rw [h]
  rfl
theorem item_least {ex : List Tk → Rs Ex} {l r : List Tk} {e : Ex} (h : ex l = pure' e (sg [59] :: r)) : itemG ex (tk 4 0 wLeast :: l) = pure' ⟨10, [], ofL [e], 0⟩ r :=
  item_core (k := 10) (b := ([], ofL [e])) rfl (by omega) (body_one (by omega) (one_of h))
theorem src_step {ex : List Tk → Rs Ex} {m : Nat} (hm : 1 ≤ m) {acc : List It} (ha : acc.length < 100) {w : List UInt8} {l r : List Tk} {i : It} (h : itemG ex (tk 4 0 w :: l) = pure' i r) : sourceGo ex m acc (tk 4 0 w :: l) = sourceGo ex (m - 1) (acc ++ [i]) r := by
  cases m with
  | zero => omega
  | succ m =>
    rw [sourceGo, if_neg (show ¬ (tk 4 0 w).kind = 1 by show ¬ (4 : Int) = 1; decide), show decide (acc.length = 100) = false from decide_eq_false (by omega)]
    show (itemG ex (tk 4 0 w :: l)).bind _ = _
    rw [h]
    rfl
theorem k_source {a b : Ex} (ha : ∀ n, 64 ≤ n → Q n 32 a) (hb : ∀ n, 64 ≤ n → Q n 32 b) (q : Nat) : sourceG (kT (tkE a) (tkE b) ++ [endTk q]) = pure' (kI (zE a) (zE b)) [endTk q] := by
  have e1 : kT (tkE a) (tkE b) ++ [endTk q] = tk 4 0 wLeast :: (brK (tkE a) ++ (sg [42] :: (brK (tkE b) ++ (sg [59] :: (tk 4 0 wLeast :: (brK (tkE a) ++ (sg [45] :: (brK (tkE b) ++ (sg [59] :: (tk 4 0 wLeast :: (tkE a ++ (sg [59] :: (tk 4 0 wLeast :: (sg [45] :: (brK (tkE b) ++ (sg [59] :: [endTk q])))))))))))))))) := by
    simp [kT, kT1, kT2, kT3, kT4]
  rw [e1]
  show sourceGo (exprG (facN mx)) mx [] _ = _
  have m1 : mx = 4000 + 1 := rfl
  have m2 : mx = 3999 + 2 := rfl
  rw [src_step (by unfold mx; omega) (by simp) (item_least (by rw [m1]; exact ex_mul (ha 4000 (by omega)) (hb 4000 (by omega)) _)),
    src_step (by unfold mx; omega) (by simp) (item_least (by rw [m1]; exact ex_sub (ha 4000 (by omega)) (hb 4000 (by omega)) _)),
    src_step (by unfold mx; omega) (by simp) (item_least ((ha mx (by unfold mx; omega)).whole (stop_end _))),
    src_step (by unfold mx; omega) (by simp) (item_least (by rw [m2]; exact ex_neg (hb 3999 (by omega)) _))]
  rfl
theorem Q_of {a : Ex} (ha : rgtF 32 (ofL [a]) = true) (n : Nat) (hn : 64 ≤ n) : Q n 32 a := (q_all (ofL [a]) 32 n (by omega) ha (by omega)).1
theorem depK_of {a : Ex} (ha : rgtF 32 (ofL [a]) = true) : depF a.2 + 1 ≤ 32 := by
  have := rgt_dep _ _ ha
  simp only [ofL, nd, depF] at this
  omega
theorem deep_if {F : Fo} {k : Nat} (h : depF F = k) (hk : k ≤ 100) : deepW ⟨10, [], F, 0⟩ = decide (32 < k) := by
  show decide (32 < depW F) = _
  rw [depW_eq _ (by omega), h]
  rw [decide_eq_decide]
  omega
theorem k_deep {a b : Ex} (ha : depF a.2 + 1 ≤ 32) (hb : depF b.2 + 1 ≤ 32) : (deepR (kI (zE a) (zE b))).1 = if 32 ≤ max (depF a.2 + 1) (depF b.2 + 1) then 71 else 0 := by
  have d1 : depF (ofL [(hK 7, ofL [zE a, zE b])]) = max (depF a.2 + 1) (depF b.2 + 1) + 1 := by
    simp only [ofL, nd, depF, zE, dep_z]; omega
  have d2 : depF (ofL [(hK 6, ofL [zE a, zE b])]) = max (depF a.2 + 1) (depF b.2 + 1) + 1 := by
    simp only [ofL, nd, depF, zE, dep_z]; omega
  have d3 : depF (ofL [zE a]) = depF a.2 + 1 := by
    simp only [ofL, nd, depF, zE, dep_z]; omega
  have d4 : depF (ofL [(hK 4, ofL [zE b])]) = depF b.2 + 1 + 1 := by
    simp only [ofL, nd, depF, zE, dep_z]; omega
  unfold kI
  rw [deepR_cons, deepR_cons, deepR_cons, deepR_cons, deep_if d1 (by omega), deep_if d2 (by omega), deep_if d3 (by omega), deep_if d4 (by omega)]
  by_cases h : 32 ≤ max (depF a.2 + 1) (depF b.2 + 1)
  · rw [if_pos h, if_pos (by simpa using (show 32 < max (depF a.2 + 1) (depF b.2 + 1) + 1 by omega))]
  · rw [if_neg h, show decide (32 < max (depF a.2 + 1) (depF b.2 + 1) + 1) = false from decide_eq_false (by omega), show decide (32 < depF a.2 + 1) = false from decide_eq_false (by omega), show decide (32 < depF b.2 + 1 + 1) = false from decide_eq_false (by omega)]
    rfl
theorem ok_tx {a : Ex} (ha : rgtF 32 (ofL [a]) = true) : Ok (txE a) (tkE a) := (al_right (ofL [a]) 32 ha).1.2
theorem k_scan {s t : List UInt8} {A B : List Tk} (hA : Ok s A) (hB : Ok t B) : Sn (kB s t) (kT A B) := by
  have w1 : ∀ {X : List UInt8} {T : List Tk}, Sn X T → Sn ([108, 101, 97, 115, 116] ++ (32 :: X)) (tk 4 0 wLeast :: T) := fun h => Sn_word (w := wLeast) rfl (bd_mark (c := 32) rfl) (Sn_blank (c := 32) rfl h)
  have b1 : ∀ {X : List UInt8} {T : List Tk} {x : List UInt8} {y : List Tk}, Ok x y → Sn X T → Sn (40 :: (x ++ (41 :: X))) (sg [40] :: (y ++ (sg [41] :: T))) := fun ho h => Sn_mark (c := 40) rfl (ho _ _ (bd_mark (c := 41) rfl) (Sn_mark (c := 41) rfl h))
  have e4 : Sn ([108, 101, 97, 115, 116] ++ (32 :: 45 :: 40 :: (t ++ (41 :: [59])))) (tk 4 0 wLeast :: sg [45] :: sg [40] :: (B ++ (sg [41] :: [sg [59]]))) := w1 (Sn_mark (c := 45) rfl (b1 hB (Sn_mark (c := 59) rfl Sn_nil)))
  have e3 := w1 (hA _ _ (bd_mark (c := 59) rfl) (Sn_mark (c := 59) rfl (Sn_blank (c := 32) rfl e4)))
  have e2 := w1 (b1 hA (Sn_blank (c := 32) rfl (Sn_mark (c := 45) rfl (Sn_blank (c := 32) rfl (b1 hB (Sn_mark (c := 59) rfl (Sn_blank (c := 32) rfl e3)))))))
  have e1 := w1 (b1 hA (Sn_blank (c := 32) rfl (Sn_mark (c := 42) rfl (Sn_blank (c := 32) rfl (b1 hB (Sn_mark (c := 59) rfl (Sn_blank (c := 32) rfl e2)))))))
  simpa [kB, kT, kT1, kT2, kT3, kT4, brK] using e1
/-- What is read of the text. -/
theorem kids_parse {a b : Ex} (ha : rgtF 32 (ofL [a]) = true) (hb : rgtF 32 (ofL [b]) = true) (hlen : (kB (txE a) (txE b)).length ≤ 4000) :
    (32 ≤ max (depF a.2 + 1) (depF b.2 + 1) → (parseW (kB (txE a) (txE b))).2.1 = 71) ∧ (¬ 32 ≤ max (depF a.2 + 1) (depF b.2 + 1) → (parseW (kB (txE a) (txE b))).2.1 = 0 ∧ sameI (parseW (kB (txE a) (txE b))).1 (kI a b) = true) := by
  have hS := k_scan (ok_tx ha) (ok_tx hb)
  generalize kB (txE a) (txE b) = S at *
  have h0 := hS 0
  unfold tz at h0
  rw [Nat.zero_add] at h0
  have e : scanB S = ((tokB (skipB S) (S.drop (skipB S))).1 ++ [endTk S.length], 0, 0) := by
    unfold scanB
    rw [if_neg (by omega)]
    unfold finB
    rw [if_pos h0.1]
  unfold parseW
  rw [e, if_neg (by simp)]
  have h1 : ((tokB (skipB S) (S.drop (skipB S))).1 ++ [endTk S.length]).map strip = (kT (tkE a) (tkE b) ++ [endTk S.length]).map strip := by
    rw [List.map_append, List.map_append, h0.2]
  obtain ⟨h2, h3⟩ := end_same h1
  have hd := k_deep (depK_of ha) (depK_of hb)
  have he : endW (sourceG (kT (tkE a) (tkE b) ++ [endTk S.length])) = if (deepR (kI (zE a) (zE b))).1 ≠ 0 then ([], deepR (kI (zE a) (zE b))) else (kI (zE a) (zE b), 0, 0) := by
    rw [k_source (Q_of ha) (Q_of hb)]
    unfold endW
    show (if (flt [] (0, 0)).1 ≠ 0 then _ else if (deepR (kI (zE a) (zE b))).1 ≠ 0 then _ else _) = _
    rw [flt_nil, if_neg (by simp)]
  rw [he] at h2 h3
  refine ⟨fun h => ?_, fun h => ?_⟩
  · rw [if_pos h] at hd
    rw [← h3, if_pos (by rw [hd]; decide)]
    exact hd
  · rw [if_neg h] at hd
    rw [if_neg (by rw [hd]; decide)] at h2 h3
    refine ⟨h3.symm, ?_⟩
    rw [sameI_iff] at h2 ⊢
    rw [← h2]
    simp [kI, zI, zF, ofL, nd, zE, zF_zF, zH, hK]
end Go.Proofs.YtpeldiibjhffiaaDoor
namespace Go.Proofs.YtpeldiibjhffiaaDoor
open Go.RowKit Go.Deep

def cE (e : Ex) : Nat := (tkE e).length
def cB (asked : Int) (e : Ex) : Nat := (brT asked (e.1.kind, tkE e)).length
theorem cB_le (a : Int) (e : Ex) : cB a e ≤ cE e + 2 := by
  unfold cB cE brT
  split <;> simp
theorem cB_ge (a : Int) (e : Ex) : cE e ≤ cB a e := by
  unfold cB cE brT
  split <;> simp
  omega
theorem cB_12 (e : Ex) : cB 1 e ≤ cB 2 e := by
  unfold cB brT
  rcases firm_cases e.1.kind with h | h | h <;> simp [h]
  omega
theorem cB_2 {e : Ex} (h : firmB e.1.kind = 2) : cB 2 e = cE e := by
  unfold cB cE brT
  simp [h]
theorem cB_1 {e : Ex} (h : firmB e.1.kind = 1) : cB 1 e = cE e := by
  unfold cB cE brT
  simp [h]
theorem c_mul (t : Tk) (a b : Ex) : cB 1 (hdB 7 t, ofL [a, b]) = cB 1 a + 1 + cB 2 b := by
  rw [cB_1 rfl]
  unfold cE cB
  have e1 : tkE (hdB 7 t, ofL [a, b]) = brT 1 (a.1.kind, tkE a) ++ (sg [42] :: brT 2 (b.1.kind, tkE b)) := by
    simp [tkE, exT, hdB, ofL, nd, tkF, kz, firmB, sgnB]
  rw [e1]
  simp
  omega
theorem c_sum (t : Tk) (a b : Ex) (k : Int) (hk : k = 5 ∨ k = 6) : cE (hdB k t, ofL [a, b]) = cE a + 1 + cB 1 b := by
  unfold cE cB
  have e0 : brT 0 (a.1.kind, tkE a) = tkE a := by
    unfold brT
    rw [if_pos (by rcases firm_cases a.1.kind with h | h | h <;> simp only [h] <;> decide)]
  have e1 : tkE (hdB k t, ofL [a, b]) = tkE a ++ (sg (sgnB k) :: brT 1 (b.1.kind, tkE b)) := by
    rw [← e0]
    rcases hk with rfl | rfl <;> simp [tkE, exT, hdB, ofL, nd, tkF, kz, firmB, sgnB]
  rw [e1]
  simp
  omega
theorem c_neg (t : Tk) (a : Ex) : cB 2 (hdB 4 t, ofL [a]) = 1 + cB 2 a := by
  rw [cB_2 rfl]
  unfold cE cB
  have e1 : tkE (hdB 4 t, ofL [a]) = sg [45] :: brT 2 (a.1.kind, tkE a) := by
    simp [tkE, exT, hdB, ofL, nd, tkF, kz]
  rw [e1]
  simp
  omega
def cT (ks : List Ex) : Nat := (allT (sg [44]) true (tkF (ofL ks))).length
theorem all_false (x : List Ex) (e : Ex) : (allT (sg [44]) false (tkF (ofL (x ++ [e])))).length = (allT (sg [44]) false (tkF (ofL x))).length + 1 + cE e := by
  induction x with
  | nil => simp [ofL, nd, tkF, allT, cE, tkE]; omega
  | cons a x ih =>
    simp only [List.cons_append, ofL, nd, tkF, allT, List.length_append, ih]
    omega
theorem cT_more {ks : List Ex} (h : ks ≠ []) (e : Ex) : cT (ks ++ [e]) = cT ks + 1 + cE e := by
  cases ks with
  | nil => exact absurd rfl h
  | cons a x =>
    unfold cT
    simp only [List.cons_append, ofL, nd, tkF, allT, List.length_append, all_false]
    omega
theorem cT_one (e : Ex) : cT [e] = cE e := by simp [cT, ofL, nd, tkF, allT, cE, tkE]
theorem c_many (t : Tk) (ks : List Ex) (k : Int) (hk : k = 8 ∨ k = 9) : cB 2 (hdB k t, ofL ks) = cT ks + 3 := by
  rcases hk with rfl | rfl
  · rw [cB_2 rfl]; simp [cE, tkE, exT, hdB, cT]
  · rw [cB_2 rfl]; simp [cE, tkE, exT, hdB, cT]
/-- What is read costs so many tokens. -/
def Cs {α : Type} (x : Rs α) (l : Nat) (c : α → Nat) : Prop := ∀ a, x.val = some a → x.rest.length + c a ≤ l
theorem Cs_pure {α : Type} {a : α} {l : List Tk} {n : Nat} {c : α → Nat} (h : l.length + c a ≤ n) : Cs (pure' a l) n c := fun b hb => by
  cases hb; exact h
theorem Cs_wrong {α : Type} {l : List Tk} {n : Nat} {c : α → Nat} : Cs (wrong' l) n c := fun b hb => by cases hb
theorem Cs_bind {α β : Type} {x : Rs α} {f : α → List Tk → Rs β} {n : Nat} {c : β → Nat} (h : ∀ a, x.val = some a → Cs (f a x.rest) n c) : Cs (x.bind f) n c := fun b hb => by
  cases hx : x.val with
  | none => rw [bind_none f hx] at hb; cases hb
  | some a =>
    rw [bind_some f hx] at hb ⊢
    exact h a hx b hb
theorem Cs_map {α β : Type} {x : Rs α} {f : α → β} {n : Nat} {c : β → Nat} (h : ∀ a, x.val = some a → x.rest.length + c (f a) ≤ n) : Cs (x.map f) n c := fun b hb => by
  cases hx : x.val with
  | none => simp [Rs.map, hx] at hb
  | some a =>
    simp [Rs.map, hx] at hb
    subst hb
    exact h a hx
theorem Cs_note {α : Type} {b : Bool} {l : List Tk} {x : Rs α} {n : Nat} {c : α → Nat} (h : Cs x n c) : Cs (note b l x) n c := by
  unfold note
  split
  · exact h
  · exact h
theorem Cs_sign {s : List UInt8} {l : List Tk} : Cs (signG s l) l.length (fun _ => 1) := by
  cases l with
  | nil => exact Cs_wrong
  | cons t r =>
    show Cs (if isT 6 s t = true then pure' () r else wrong' (t :: r)) _ _
    split
    · exact Cs_pure (by simp)
    · exact Cs_wrong
theorem Cs_close {α : Type} {s : List UInt8} {x : Rs α} {n : Nat} {c : α → Nat} (h : Cs x n c) : Cs (closeG s x) n (fun a => c a + 1) :=
  Cs_bind fun a ha => Cs_bind fun u hu => Cs_pure (by
    have h1 := h a ha
    have h2 : (signG s x.rest).rest.length + 1 ≤ x.rest.length := Cs_sign u hu
    show (signG s x.rest).rest.length + (c a + 1) ≤ n
    omega)
section
variable {fac : List Tk → Rs Ex}
theorem termGo_cost (hf : ∀ l, Cs (fac l) l.length (cB 2)) : ∀ (m : Nat) (e : Ex) (l : List Tk), Cs (termGo fac m e l) (l.length + cB 1 e) (cB 1)
  | 0, e, l => Cs_pure (by omega)
  | _ + 1, e, [] => Cs_pure (by omega)
  | m + 1, e, t :: r => by
    rw [termGo]
    split
    · refine Cs_bind fun e2 h2 => fun e' h' => ?_
      have h3 := hf r e2 h2
      have h4 := termGo_cost hf m (hdB 7 t, ofL [e, e2]) (fac r).rest e' h'
      rw [c_mul] at h4
      simp only [List.length_cons]
      omega
    · exact Cs_pure (by omega)
theorem term_cost (hf : ∀ l, Cs (fac l) l.length (cB 2)) (l : List Tk) : Cs (termG fac l) l.length (cB 1) :=
  Cs_bind fun e he e' h' => by
    have h1 := hf l e he
    have h2 := termGo_cost hf mx e _ e' h'
    have h3 := cB_12 e
    omega
theorem exprGo_cost (hf : ∀ l, Cs (fac l) l.length (cB 1)) : ∀ (m : Nat) (e : Ex) (l : List Tk), Cs (exprGo fac m e l) (l.length + cE e) cE
  | 0, e, l => Cs_pure (by omega)
  | _ + 1, e, [] => Cs_pure (by omega)
  | m + 1, e, t :: r => by
    rw [exprGo]
    split
    · refine Cs_bind fun e2 h2 => fun e' h' => ?_
      have h3 := hf r e2 h2
      have h4 := exprGo_cost hf m (hdB (if isT 6 [45] t then 6 else 5) t, ofL [e, e2]) (fac r).rest e' h'
      rw [c_sum _ _ _ _ (by split <;> simp)] at h4
      simp only [List.length_cons]
      omega
    · exact Cs_pure (by omega)
theorem expr_cost (hf : ∀ l, Cs (fac l) l.length (cB 2)) (l : List Tk) : Cs (exprG fac l) l.length cE :=
  Cs_bind fun e he e' h' => by
    have h1 := term_cost hf l e he
    have h2 := exprGo_cost (term_cost hf) mx e _ e' h'
    have h3 := cB_ge 1 e
    omega
theorem kidsGo_cost (hf : ∀ l, Cs (fac l) l.length cE) : ∀ (m : Nat) (ks : List Ex) (l : List Tk), ks ≠ [] → Cs (kidsGo fac m ks l) (l.length + cT ks) cT
  | 0, ks, l, _ => Cs_pure (by omega)
  | _ + 1, ks, [], _ => Cs_pure (by omega)
  | m + 1, ks, t :: r, hk => by
    rw [kidsGo]
    split
    · refine Cs_note (Cs_bind fun e2 h2 => fun e' h' => ?_)
      have h3 := hf r e2 h2
      have h4 := kidsGo_cost hf m (ks ++ [e2]) (fac r).rest (by simp) e' h'
      rw [cT_more hk] at h4
      simp only [List.length_cons]
      omega
    · exact Cs_pure (by omega)
theorem kids_cost (hf : ∀ l, Cs (fac l) l.length cE) (l : List Tk) : Cs (kidsG fac l) l.length (fun ks => cT ks + 2) := by
  refine Cs_bind fun u hu => fun ks hks => ?_
  have h1 := Cs_sign u hu
  have h2 : Cs ((fac (signG [40] l).rest).bind fun e l2 => kidsGo fac mx [e] l2) (signG [40] l).rest.length cT := Cs_bind fun e he ks' hk' => by
    have h3 := hf _ e he
    have h4 := kidsGo_cost hf mx [e] _ (by simp) ks' hk'
    rw [cT_one] at h4
    omega
  have h5 := Cs_close h2 ks hks
  simp only at h5 h1 ⊢
  omega
end
theorem fac_cost : ∀ (n : Nat) (l : List Tk), Cs (facN n l) l.length (cB 2)
  | 0, l => Cs_wrong
  | _ + 1, [] => Cs_wrong
  | n + 1, t :: r => by
    have h := fac_cost n
    rw [facN]
    split
    · exact Cs_pure (by rw [cB_2 rfl]; simp [cE, tkE, exT])
    split
    · exact Cs_pure (by rw [cB_2 rfl]; simp [cE, tkE, exT])
    split
    · exact Cs_pure (by rw [cB_2 rfl]; simp [cE, tkE, exT])
    split
    · refine Cs_map fun e he => ?_
      have := h r e he
      rw [c_neg]
      simp only [List.length_cons]
      omega
    split
    · intro e he
      have := Cs_close (s := [41]) (expr_cost h r) e he
      have h2 := cB_le 2 e
      simp only [List.length_cons] at this ⊢
      omega
    split
    · refine Cs_map fun e he => ?_
      have := kids_cost (expr_cost h) r e he
      rw [c_many _ _ _ (by simp)]
      simp only [List.length_cons] at this ⊢
      omega
    split
    · refine Cs_map fun e he => ?_
      have := kids_cost (expr_cost h) r e he
      rw [c_many _ _ _ (by simp)]
      simp only [List.length_cons] at this ⊢
      omega
    · exact Cs_wrong
theorem one_cost {ex : List Tk → Rs Ex} (h : ∀ l, Cs (ex l) l.length cE) (l : List Tk) : Cs (oneG ex l) l.length (fun F => (allT (sg [44]) true (tkF F)).length) :=
  Cs_bind fun e he => Cs_pure (by
    have h1 := h l e he
    have h2 := cT_one e
    unfold cT at h2
    omega)
/-- An item of the word least: what its expression costs. -/
theorem item_cost {ex : List Tk → Rs Ex} (h : ∀ l, Cs (ex l) l.length cE) (l : List Tk) (i : It) (hi : (itemG ex l).val = some i) (hk : i.kind = 10) : (itemG ex l).rest.length + ((allT (sg [44]) true (tkF i.args)).length + 2) ≤ l.length := by
  cases l with
  | nil => cases hi
  | cons t r =>
    have e1 : itemG ex (t :: r) = if t.kind = 4 ∧ itemKindB t.text ≠ 0 then (closeG [59] (bodyG ex (itemKindB t.text) r)).map (fun b => (⟨itemKindB t.text, b.1, b.2, (t.pl : Int)⟩ : It)) else wrong' (t :: r) := rfl
    rw [e1] at hi ⊢
    split at hi
    · rename_i hc
      rw [if_pos hc]
      have hb : Cs (bodyG ex 10 r) r.length (fun b => (allT (sg [44]) true (tkF b.2)).length) := by
        unfold bodyG
        rw [if_neg (by omega), if_neg (by omega), if_neg (by omega), if_neg (by omega)]
        exact Cs_bind fun F hF => Cs_pure (one_cost h r F hF)
      generalize itemKindB t.text = k at *
      cases hx : (closeG [59] (bodyG ex k r)).val with
      | none => simp [Rs.map, hx] at hi
      | some b =>
        simp [Rs.map, hx] at hi
        subst hi
        simp only at hk
        subst hk
        have := Cs_close (s := [59]) hb b hx
        simp only [List.length_cons, Rs.map] at this ⊢
        omega
    · cases hi
theorem note_val {α : Type} (b : Bool) (l : List Tk) (x : Rs α) : (note b l x).val = x.val ∧ (note b l x).rest = x.rest := by
  unfold note
  split <;> exact ⟨rfl, rfl⟩
theorem source_grows (ex : List Tk → Rs Ex) : ∀ (m : Nat) (acc : List It) (l : List Tk) (L : List It), (sourceGo ex m acc l).val = some L → ∃ M, L = acc ++ M
  | 0, acc, l, L, h => by cases h; exact ⟨[], by simp⟩
  | _ + 1, acc, [], L, h => by cases h; exact ⟨[], by simp⟩
  | m + 1, acc, t :: r, L, h => by
    rw [sourceGo] at h
    split at h
    · cases h; exact ⟨[], by simp⟩
    · rw [(note_val _ _ _).1] at h
      cases hx : (itemG ex (t :: r)).val with
      | none => rw [bind_none _ hx] at h; cases h
      | some i =>
        rw [bind_some _ hx] at h
        obtain ⟨M, hM⟩ := source_grows ex m _ _ L h
        exact ⟨i :: M, by rw [hM]; simp⟩
/-- A source that is read as one item of the word least: how many tokens it has at least. -/
theorem source_cost {ex : List Tk → Rs Ex} (h : ∀ l, Cs (ex l) l.length cE) (m : Nat) (l : List Tk) (i : It) (hl : (sourceGo ex m [] l).val = some [i]) (hk : i.kind = 10) : (allT (sg [44]) true (tkF i.args)).length + 2 ≤ l.length := by
  cases m with
  | zero => cases hl
  | succ m =>
    cases l with
    | nil => cases hl
    | cons t r =>
      rw [sourceGo] at hl
      split at hl
      · cases hl
      · rw [(note_val _ _ _).1] at hl
        cases hx : (itemG ex (t :: r)).val with
        | none => rw [bind_none _ hx] at hl; cases hl
        | some j =>
          rw [bind_some _ hx] at hl
          obtain ⟨M, hM⟩ := source_grows ex m _ _ _ hl
          have hj : i = j := by simp at hM; exact hM.1
          subst hj
          have := item_cost h _ i hx hk
          omega
theorem tk_zF : ∀ F : Fo, tkF (zF F) = tkF F
  | .nil => rfl
  | .node _ _ h k r => by
    simp only [zF, nd, tkF, tk_zF k, tk_zF r]
    rfl
/-- Tokens that are fewer are not read as the same. -/
theorem few_not {S : List UInt8} {T : List Tk} {e : Ex} (hlen : S.length ≤ 4000) (hS : Sn S T) (hT : T.length + 1 < (tkE e).length + 2) : ¬ ((parseW S).2.1 = 0 ∧ sameI (parseW S).1 [⟨10, [], ofL [e], 0⟩] = true) := by
  rintro ⟨h1, h2⟩
  have h0 := hS 0
  unfold tz at h0
  rw [Nat.zero_add] at h0
  have es : scanB S = ((tokB (skipB S) (S.drop (skipB S))).1 ++ [endTk S.length], 0, 0) := by
    unfold scanB
    rw [if_neg (by omega)]
    unfold finB
    rw [if_pos h0.1]
  have hl : (tokB (skipB S) (S.drop (skipB S))).1.length = T.length := by
    have := congrArg List.length h0.2
    simpa using this
  unfold parseW at h1 h2
  rw [es, if_neg (by simp)] at h1 h2
  generalize (tokB (skipB S) (S.drop (skipB S))).1 = M at *
  have hc := source_cost (ex := exprG (facN mx)) (expr_cost (fac_cost mx)) mx (M ++ [endTk S.length])
  change ∀ i, (sourceG (M ++ [endTk S.length])).val = some [i] → _ at hc
  generalize sourceG (M ++ [endTk S.length]) = x at *
  unfold endW at h1 h2
  cases hx : x.val with
  | none => rw [hx] at h1; simp at h1
  | some its =>
    rw [hx] at h1 h2
    simp only at h1 h2
    split at h1
    · rename_i hn; exact absurd h1 hn
    · rename_i hn
      rw [if_neg hn] at h2
      split at h1
      · rename_i hn2; exact absurd h1 hn2
      · rename_i hn2
        rw [if_neg hn2, sameI_iff] at h2
        simp only [List.map_cons, List.map_nil] at h2
        obtain ⟨i, rfl⟩ : ∃ i, its = [i] := by
          cases its with
          | nil => simp at h2
          | cons i r =>
            cases r with
            | nil => exact ⟨i, rfl⟩
            | cons _ _ => simp at h2
        simp only [List.map_cons, List.map_nil, List.cons.injEq, and_true, zI, It.mk.injEq] at h2
        have h3 := hc i hx h2.1
        have h4 : tkF i.args = tkF (ofL [e]) := by rw [← tk_zF, h2.2.2, tk_zF]
        rw [h4] at h3
        have h5 := cT_one e
        unfold cT cE at h5
        rw [h5] at h3
        simp at h3
        omega
end Go.Proofs.YtpeldiibjhffiaaDoor
namespace Go.Proofs.YtpeldiibjhffiaaDoor
open Go.RowKit Go.Deep

/-- A piece of a text. -/
abbrev Pc := Option (Sum Bool (Sum UInt8 (Sum (List UInt8) (List UInt8 × Tk))))
def pB : Pc → List UInt8
  | none => [32]
  | some (.inl o) => [if o then 40 else 41]
  | some (.inr (.inl c)) => [c]
  | some (.inr (.inr (.inl t))) => 34 :: (t ++ [34])
  | some (.inr (.inr (.inr (w, _)))) => w
def pT : Pc → List Tk
  | none => []
  | some (.inl o) => [sg [if o then 40 else 41]]
  | some (.inr (.inl c)) => [sg [c]]
  | some (.inr (.inr (.inl t))) => [tk 5 0 t]
  | some (.inr (.inr (.inr (_, t)))) => [t]
def okP : Pc → Prop
  | none => True
  | some (.inl _) => True
  | some (.inr (.inl c)) => isMark c = true ∧ c ≠ 40 ∧ c ≠ 41
  | some (.inr (.inr (.inl t))) => txB t = true
  | some (.inr (.inr (.inr (w, t)))) => (∀ c ∈ w, isPart c = true) ∧ ∀ s T, bd s → Sn s T → Sn (w ++ s) (t :: T)
def hf : List Pc → Prop
  | some (.inr (.inr (.inr (_, _)))) :: _ => False
  | _ => True
def okL : List Pc → Prop
  | [] => True
  | p :: ps => okP p ∧ ((∀ w t, p = some (.inr (.inr (.inr (w, t)))) → hf ps) ∧ okL ps)
def flat (ps : List Pc) : List UInt8 := ps.flatMap pB
def toks (ps : List Pc) : List Tk := ps.flatMap pT
theorem flat_cons (p : Pc) (ps : List Pc) : flat (p :: ps) = pB p ++ flat ps := rfl
theorem toks_cons (p : Pc) (ps : List Pc) : toks (p :: ps) = pT p ++ toks ps := rfl
theorem flat_app (a b : List Pc) : flat (a ++ b) = flat a ++ flat b := by simp [flat]
theorem toks_app (a b : List Pc) : toks (a ++ b) = toks a ++ toks b := by simp [toks]
theorem tx_no {t : List UInt8} (h : txB t = true) : ∀ c ∈ t, c ≠ 34 := by
  rw [← tx_is] at h
  unfold isTxtB at h
  simp only [Bool.and_eq_true, decide_eq_true_eq, List.all_eq_true] at h
  intro c hc
  have := h.1 c hc
  simp only [inText', Bool.and_eq_true, bne_iff_ne, ne_eq] at this
  exact this.2
theorem mark_part {c : UInt8} (h : isMark c = true) : isPart c = false := by
  simp only [isMark, Bool.or_eq_true, beq_iff_eq] at h
  rcases h with ((((((rfl | rfl) | rfl) | rfl) | rfl) | rfl) | rfl) | rfl <;> decide
theorem bd_flat {ps : List Pc} {s : List UInt8} (h : okL ps) (hh : hf ps) (hs : bd s) : bd (flat ps ++ s) := by
  cases ps with
  | nil => exact hs
  | cons p ps =>
    rw [flat_cons]
    rcases p with _ | (o | (c | (t | ⟨w, t⟩)))
    · exact bd_mark (c := 32) rfl
    · cases o <;> exact bd_mark rfl
    · exact bd_mark (mark_part h.1.1)
    · exact bd_mark (c := 34) rfl
    · exact absurd hh id
theorem sn_flat : ∀ (ps : List Pc) (s : List UInt8) (T : List Tk), okL ps → bd s → Sn s T → Sn (flat ps ++ s) (toks ps ++ T)
  | [], s, T, _, _, hs => hs
  | p :: ps, s, T, h, hb, hs => by
    have h1 := sn_flat ps s T h.2.2 hb hs
    rw [flat_cons, toks_cons, List.append_assoc, List.append_assoc]
    rcases p with _ | (o | (c | (t | ⟨w, t⟩)))
    · exact Sn_blank (c := 32) rfl h1
    · cases o <;> exact Sn_mark rfl h1
    · exact Sn_mark h.1.1 h1
    · exact Sn_text h.1 h1
    · exact h.1.2 _ _ (bd_flat h.2.2 (h.2.1 w t rfl) hb) h1
/-- How deep brackets are behind pieces. -/
def bal : List Pc → Nat → Option Nat
  | [], d => some d
  | some (.inl true) :: ps, d => bal ps (d + 1)
  | some (.inl false) :: _, 0 => none
  | some (.inl false) :: ps, d + 1 => bal ps d
  | none :: ps, d => bal ps d
  | some (.inr (.inl _)) :: ps, d => bal ps d
  | some (.inr (.inr (.inl _))) :: ps, d => bal ps d
  | some (.inr (.inr (.inr (_, _)))) :: ps, d => bal ps d
theorem bal_app : ∀ (a b : List Pc) (d : Nat), bal (a ++ b) d = (bal a d).bind (bal b)
  | [], b, d => rfl
  | some (.inl true) :: a, b, d => by simpa [bal] using bal_app a b (d + 1)
  | some (.inl false) :: a, b, 0 => rfl
  | some (.inl false) :: a, b, d + 1 => by simpa [bal] using bal_app a b d
  | none :: a, b, d => by simpa [bal] using bal_app a b d
  | some (.inr (.inl _)) :: a, b, d => by simpa [bal] using bal_app a b d
  | some (.inr (.inr (.inl _))) :: a, b, d => by simpa [bal] using bal_app a b d
  | some (.inr (.inr (.inr (_, _)))) :: a, b, d => by simpa [bal] using bal_app a b d
/-- Pieces of a text with its tokens. -/
structure Pz (x : List UInt8) (y : List Tk) (ps : List Pc) : Prop where
  fl : flat ps = x
  tk : toks ps = y
  ok : ∀ B, okL B → hf B → okL (ps ++ B)
  ba : ∀ d, bal ps d = some d
theorem pz_br {x : List UInt8} {y : List Tk} {ps : List Pc} (h : Pz x y ps) : Pz ([40] ++ (x ++ [41])) (sg [40] :: (y ++ [sg [41]])) (some (.inl true) :: (ps ++ [some (.inl false)])) where
  fl := by rw [flat_cons, flat_app, h.fl]; rfl
  tk := by rw [toks_cons, toks_app, h.tk]; rfl
  ok := fun B hB hh => by
    refine ⟨trivial, fun _ _ e => by (cases e), ?_⟩
    show okL (ps ++ [some (.inl false)] ++ B)
    rw [List.append_assoc]
    exact h.ok _ ⟨trivial, fun _ _ e => by (cases e), hB⟩ trivial
  ba := fun d => by
    show bal (ps ++ [some (.inl false)]) (d + 1) = _
    rw [bal_app, h.ba]
    rfl
/-- Pieces of each of a list's texts. -/
def AP : List Kt → List Kz → Prop
  | [], [] => True
  | x :: r, y :: q => (x.1 = y.1 ∧ ∃ ps, Pz x.2 y.2 ps) ∧ AP r q
  | _, _ => False
theorem pz_nil : Pz [] [] [] := ⟨rfl, rfl, fun _ h _ => h, fun _ => rfl⟩
theorem AP_get : ∀ {ks : List Kt} {qs : List Kz} (i : Nat), AP ks qs → (kt ks i).1 = (kz qs i).1 ∧ ∃ ps, Pz (kt ks i).2 (kz qs i).2 ps
  | [], [], i, _ => by
    have h1 : kt [] i = (0, []) := by cases i <;> rfl
    have h2 : kz [] i = (0, []) := by cases i <;> rfl
    rw [h1, h2]
    exact ⟨rfl, [], pz_nil⟩
  | [], _ :: _, _, h => by cases h
  | _ :: _, [], _, h => by cases h
  | x :: ks, y :: qs, 0, h => h.1
  | x :: ks, y :: qs, i + 1, h => AP_get (ks := ks) (qs := qs) i h.2
theorem pz_brB (asked : Int) {x : Kt} {y : Kz} (hk : x.1 = y.1) (h : ∃ ps, Pz x.2 y.2 ps) : ∃ ps, Pz (brB asked x) (brT asked y) ps := by
  unfold brB brT
  rw [hk]
  obtain ⟨ps, h⟩ := h
  split
  · exact ⟨ps, h⟩
  · exact ⟨_, pz_br h⟩
/-- One behind the other, the second one with no run ahead. -/
theorem pz_cat {x x' : List UInt8} {y y' : List Tk} {ps qs : List Pc} (h : Pz x y ps) (h' : Pz x' y' qs) (hh : ∀ B, hf B → hf (qs ++ B)) : Pz (x ++ x') (y ++ y') (ps ++ qs) where
  fl := by rw [flat_app, h.fl, h'.fl]
  tk := by rw [toks_app, h.tk, h'.tk]
  ok := fun B hB hb => by
    rw [List.append_assoc]
    exact h.ok _ (h'.ok B hB hb) (hh B hb)
  ba := fun d => by rw [bal_app, h.ba]; exact h'.ba d
/-- A blank or a mark ahead. -/
theorem pz_bl {x : List UInt8} {y : List Tk} {ps : List Pc} (h : Pz x y ps) : Pz (32 :: x) y (none :: ps) where
  fl := by rw [flat_cons, h.fl]; rfl
  tk := by rw [toks_cons, h.tk]; rfl
  ok := fun B hB hb => ⟨trivial, fun _ _ e => by (cases e), h.ok B hB hb⟩
  ba := fun d => h.ba d
theorem pz_mk {c : UInt8} (hc : isMark c = true ∧ c ≠ 40 ∧ c ≠ 41) {x : List UInt8} {y : List Tk} {ps : List Pc} (h : Pz x y ps) : Pz (c :: x) (sg [c] :: y) (some (.inr (.inl c)) :: ps) where
  fl := by rw [flat_cons, h.fl]; rfl
  tk := by rw [toks_cons, h.tk]; rfl
  ok := fun B hB hb => ⟨hc, fun _ _ e => by (cases e), h.ok B hB hb⟩
  ba := fun d => h.ba d
theorem pz_rn {w : List UInt8} {t : Tk} (h1 : ∀ c ∈ w, isPart c = true) (h2 : ∀ s T, bd s → Sn s T → Sn (w ++ s) (t :: T)) : Pz w [t] [some (.inr (.inr (.inr (w, t))))] where
  fl := by simp [flat, pB]
  tk := rfl
  ok := fun B hB hb => ⟨⟨h1, h2⟩, fun _ _ _ => hb, hB⟩
  ba := fun _ => rfl
theorem pz_tx {t : List UInt8} (h : txB t = true) : Pz ([34] ++ (t ++ [34])) [tk 5 0 t] [some (.inr (.inr (.inl t)))] where
  fl := by simp [flat, pB]
  tk := rfl
  ok := fun B hB hb => ⟨h, fun _ _ e => by (cases e), hB⟩
  ba := fun _ => rfl
theorem pz_all : ∀ (ks : List Kt) (qs : List Kz) (b : Bool), AP ks qs → ∃ ps, Pz (allB [44, 32] b ks) (allT (sg [44]) b qs) ps ∧ (b = false → ∀ B, hf B → hf (ps ++ B))
  | [], [], b, _ => ⟨[], pz_nil, fun _ _ h => h⟩
  | [], _ :: _, _, h => by cases h
  | _ :: _, [], _, h => by cases h
  | x :: ks, y :: qs, b, h => by
    obtain ⟨ps, h1, h2⟩ := pz_all ks qs false h.2
    obtain ⟨_, rs, h3⟩ := h.1
    have h4 := pz_cat h3 h1 (h2 rfl)
    cases b with
    | true => exact ⟨rs ++ ps, by simpa [allB, allT] using h4, fun h => by cases h⟩
    | false => exact ⟨some (.inr (.inl 44)) :: none :: (rs ++ ps), by simpa [allB, allT] using pz_mk (c := 44) (by decide) (pz_bl h4), fun _ _ _ => trivial⟩
theorem pz_many {w : List UInt8} (hw : wordB w = true) {ks : List Kt} {qs : List Kz} (h : AP ks qs) : ∃ ps, Pz (w ++ ([40] ++ (allB [44, 32] true ks ++ [41]))) (tk 4 0 w :: sg [40] :: (allT (sg [44]) true qs ++ [sg [41]])) ps := by
  obtain ⟨ps, h1, _⟩ := pz_all ks qs true h
  have hp : ∀ c ∈ w, isPart c = true := fun c hc => by
    have h2 := words_small w (by simpa [wordB] using hw)
    exact small_part (List.all_eq_true.1 h2.2 c hc)
  exact ⟨_, pz_cat (pz_rn hp (fun s T hb hs => Sn_word hw hb hs)) (pz_br h1) (fun _ _ => trivial)⟩
theorem pz_ex {h : Hd} {n : Nat} (hh : hdRight h n = true) {ks : List Kt} {qs : List Kz} (hal : AP ks qs) : ∃ ps, Pz (exB h ks) (exT h qs) ps := by
  unfold hdRight at hh
  unfold exB exT
  by_cases c1 : h.kind = 1
  · rw [if_pos c1] at hh ⊢
    rw [if_pos c1]
    simp only [Bool.and_eq_true, decide_eq_true_eq] at hh
    refine ⟨_, pz_rn (fun c hc => dig_part (dec_all _ c hc)) fun s T hb hs => ?_⟩
    have h1 := Sn_num (n := h.num.toNat) (by unfold maxC; omega) hb hs
    rw [show ((h.num.toNat : Nat) : Int) = h.num from by omega] at h1
    exact h1
  rw [if_neg c1] at hh ⊢
  rw [if_neg c1]
  by_cases c2 : h.kind = 2
  · rw [if_pos c2] at hh ⊢
    rw [if_pos c2]
    simp only [Bool.and_eq_true, decide_eq_true_eq] at hh
    refine ⟨_, pz_rn (fun c hc => ?_) fun s T hb hs => Sn_name hh.2.1 hb hs⟩
    have hw := hh.2.1
    unfold nameB at hw
    simp only [Bool.and_eq_true, decide_eq_true_eq, Bool.not_eq_true'] at hw
    have h3 := hw.2.2.2
    generalize h.text = w at *
    cases w with
    | nil => cases hc
    | cons a v =>
      simp only [lettersB, Bool.and_eq_true] at h3
      rcases List.mem_cons.1 hc with rfl | hc
      · exact small_part h3.1
      · have h4 := List.all_eq_true.1 h3.2 c hc
        simp only [restOk, Bool.or_eq_true, beq_iff_eq] at h4
        unfold isPart
        rcases h4 with (h4 | h4) | h4 <;> simp [h4]
  rw [if_neg c2] at hh ⊢
  rw [if_neg c2]
  by_cases c3 : h.kind = 3
  · rw [if_pos c3] at hh ⊢
    rw [if_pos c3]
    simp only [Bool.and_eq_true, decide_eq_true_eq] at hh
    exact ⟨_, pz_tx hh.2.1⟩
  rw [if_neg c3] at hh ⊢
  rw [if_neg c3]
  by_cases c4 : h.kind = 4
  · rw [if_pos c4, if_pos c4]
    have h0 := AP_get 0 hal
    obtain ⟨ps, h1⟩ := pz_brB 2 h0.1 h0.2
    exact ⟨_, pz_mk (c := 45) (by decide) h1⟩
  rw [if_neg c4] at hh
  rw [if_neg c4, if_neg c4]
  by_cases c8 : h.kind = 8
  · rw [if_pos c8, if_pos c8]
    exact pz_many (w := wMin) rfl hal
  rw [if_neg c8, if_neg c8]
  by_cases c9 : h.kind = 9
  · rw [if_pos c9, if_pos c9]
    exact pz_many (w := wMax) rfl hal
  rw [if_neg c9, if_neg c9]
  have c5 : h.kind = 5 ∨ h.kind = 6 ∨ h.kind = 7 := by
    split at hh
    · assumption
    · split at hh
      · omega
      · cases hh
  have h0 := AP_get 0 hal
  have h1 := AP_get 1 hal
  obtain ⟨ps, h2⟩ := pz_brB (firmB h.kind) h0.1 h0.2
  obtain ⟨qs', h3⟩ := pz_brB (firmB h.kind + 1) h1.1 h1.2
  rcases c5 with c | c | c <;> rw [c] at h2 h3 ⊢
  · exact ⟨_, by simpa [sgnB] using pz_cat h2 (pz_bl (pz_mk (c := 43) (by decide) (pz_bl h3))) (fun _ _ => trivial)⟩
  · exact ⟨_, by simpa [sgnB] using pz_cat h2 (pz_bl (pz_mk (c := 45) (by decide) (pz_bl h3))) (fun _ _ => trivial)⟩
  · exact ⟨_, by simpa [sgnB] using pz_cat h2 (pz_bl (pz_mk (c := 42) (by decide) (pz_bl h3))) (fun _ _ => trivial)⟩
theorem ap_right : ∀ (F : Fo) (d : Nat), rgtF d F = true → AP (txF F) (tkF F)
  | .nil, _, _ => trivial
  | .node _ _ h k r, d, hr => by
    simp only [rgtF, Bool.and_eq_true, decide_eq_true_eq] at hr
    exact ⟨⟨rfl, pz_ex hr.2.1 (ap_right k (d - 1) hr.2.2.1)⟩, ap_right r d hr.2.2.2⟩
theorem pz_of {a : Ex} (ha : rgtF 32 (ofL [a]) = true) : ∃ ps, Pz (txE a) (tkE a) ps := (ap_right (ofL [a]) 32 ha).1.2
/-- An even number of quotes. -/
def ev (s : List UInt8) : Prop := s.count 34 % 2 = 0
theorem no_count {w : List UInt8} (h : ∀ c ∈ w, c ≠ 34) : w.count 34 = 0 := List.count_eq_zero.2 fun hm => h 34 hm rfl
theorem part_ne {c : UInt8} (h : isPart c = true) : c ≠ 34 ∧ c ≠ 40 ∧ c ≠ 41 := by
  refine ⟨?_, ?_, ?_⟩ <;> rintro rfl <;> revert h <;> decide
theorem ev_piece {p : Pc} (h : okP p) : ev (pB p) := by
  unfold ev
  rcases p with _ | (o | (c | (t | ⟨w, t⟩)))
  · rfl
  · cases o <;> rfl
  · have : c ≠ 34 := by rintro rfl; exact absurd h.1 (by decide)
    simp [pB, this]
  · simp [pB, List.count_append, no_count (tx_no h)]
  · rw [show pB (some (.inr (.inr (.inr (w, t))))) = w from rfl, no_count fun c hc => (part_ne (h.1 c hc)).1]
/-- A bracket outside of texts is a piece. -/
theorem at_piece : ∀ (ps : List Pc) (i : Nat) (c : UInt8), okL ps → ev ((flat ps).take i) → (flat ps)[i]? = some c → c = 40 ∨ c = 41 → ∃ A B, ps = A ++ some (.inl (decide (c = 40))) :: B ∧ (flat A).length = i
  | [], i, c, _, _, h, _ => by simp [flat] at h
  | p :: ps, i, c, hok, hev, hc, h4 => by
    rw [flat_cons] at hev hc
    by_cases hi : i < (pB p).length
    · rw [List.getElem?_append_left hi] at hc
      have h1 : ∀ q, pB p = [q] → q = c ∧ i = 0 := fun q hq => by
        rw [hq] at hc hi
        simp at hi
        subst hi
        simpa using hc
      rcases p with _ | (o | (q | (t | ⟨w, t⟩)))
      · obtain ⟨rfl, _⟩ := h1 32 rfl; rcases h4 with h | h <;> cases h
      · obtain ⟨h2, rfl⟩ := h1 _ rfl
        refine ⟨[], ps, ?_, rfl⟩
        cases o
        · subst h2; rfl
        · subst h2; rfl
      · obtain ⟨rfl, _⟩ := h1 q rfl
        rcases h4 with h | h
        · exact absurd h hok.1.2.1
        · exact absurd h hok.1.2.2
      · exfalso
        have h34 : c ≠ 34 := by rcases h4 with h | h <;> subst h <;> decide
        simp only [pB] at hc hi hev
        cases i with
        | zero => simp at hc; exact h34 hc.symm
        | succ i =>
          simp only [List.getElem?_cons_succ] at hc
          simp at hi
          by_cases hl : i < t.length
          · unfold ev at hev
            rw [List.take_append_of_le_length (by simp; omega), List.take_succ_cons, List.take_append_of_le_length (by omega), List.count_cons, no_count (w := t.take i) (fun d hd => tx_no hok.1 d (List.mem_of_mem_take hd))] at hev
            simp at hev
          · have : i = t.length := by omega
            subst this
            simp at hc
            exact h34 hc.symm
      · exfalso
        have := part_ne (hok.1.1 c (List.mem_of_getElem? hc))
        rcases h4 with h | h
        · exact this.2.1 h
        · exact this.2.2 h
    · have hi' : (pB p).length ≤ i := by omega
      rw [List.getElem?_append_right hi'] at hc
      have hev' : ev ((flat ps).take (i - (pB p).length)) := by
        have h2 := ev_piece hok.1
        unfold ev at *
        rw [List.take_append, List.take_of_length_le hi', List.count_append] at hev
        omega
      obtain ⟨A, B, h2, h3⟩ := at_piece ps _ c hok.2.2 hev' hc h4
      exact ⟨p :: A, B, by rw [h2]; rfl, by rw [flat_cons, List.length_append, h3]; omega⟩
theorem ok_back : ∀ (A B : List Pc), okL (A ++ B) → okL B
  | [], _, h => h
  | _ :: A, B, h => ok_back A B h.2.2
theorem ok_blank (o : Bool) : ∀ (A B : List Pc), okL (A ++ some (.inl o) :: B) → okL (A ++ none :: B)
  | [], B, h => ⟨trivial, fun _ _ e => by (cases e), h.2.2⟩
  | p :: A, B, h => by
    refine ⟨h.1, fun w t e => ?_, ok_blank o A B h.2.2⟩
    have := h.2.1 w t e
    cases A with
    | nil => trivial
    | cons q A => rcases q with _ | (_ | (_ | (_ | _))) <;> exact this
/-- The place of the bracket that ends one. -/
def tg (c : UInt8) (q : Bool) : Bool := if c = 34 then !q else q
theorem tg_34 (q : Bool) : tg 34 q = !q := rfl
theorem tg_ne {c : UInt8} (h : c ≠ 34) (q : Bool) : tg c q = q := if_neg h
def clo : Bool → Int → List UInt8 → Option Nat
  | _, _, [] => none
  | q, o, c :: r =>
    if tg c q = false ∧ c = 40 then (clo q (o + 1) r).map (· + 1)
    else if tg c q = false ∧ c = 41 then (if o - 1 = 0 then some 0 else (clo q (o - 1) r).map (· + 1))
    else (clo (tg c q) o r).map (· + 1)
theorem clo_is : ∀ (s : List UInt8) (q : Bool) (o : Int) (k : Nat), clo q o s = some k → s[k]? = some 41 ∧ (q.toNat + (s.take k).count 34) % 2 = 0
  | [], q, o, k, h => by cases h
  | c :: r, q, o, k, h => by
    rw [clo] at h
    split at h
    · rename_i hc
      obtain ⟨hq, rfl⟩ := hc
      obtain ⟨k, hk, rfl⟩ := Option.map_eq_some_iff.1 h
      have := clo_is r q _ k hk
      simpa using this
    · split at h
      · rename_i hc
        obtain ⟨hq, rfl⟩ := hc
        rw [tg_ne (by decide)] at hq
        subst hq
        split at h
        · cases h; simp
        · obtain ⟨k, hk, rfl⟩ := Option.map_eq_some_iff.1 h
          have := clo_is r false _ k hk
          simpa using this
      · obtain ⟨k, hk, rfl⟩ := Option.map_eq_some_iff.1 h
        have := clo_is r _ _ k hk
        refine ⟨by simpa using this.1, ?_⟩
        have h2 := this.2
        rw [List.take_succ_cons, List.count_cons]
        by_cases h34 : c = 34
        · subst h34
          rw [tg_34] at h2
          cases q <;> simp at h2 ⊢ <;> omega
        · rw [tg_ne h34] at h2
          simp [h34, h2]
theorem clo_skip : ∀ (w r : List UInt8) (o : Int), (∀ c ∈ w, c ≠ 34 ∧ c ≠ 40 ∧ c ≠ 41) → (clo false o (w ++ r)).isSome = (clo false o r).isSome
  | [], r, o, _ => rfl
  | c :: w, r, o, h => by
    have h1 := h c (by simp)
    have h2 := clo_skip w r o fun d hd => h d (by simp [hd])
    rw [List.cons_append, clo, if_neg (by simp [h1]), if_neg (by simp [h1]), tg_ne h1.1, Option.isSome_map, h2]
theorem clo_text : ∀ (t r : List UInt8) (o : Int), (∀ c ∈ t, c ≠ 34) → (clo true o (t ++ 34 :: r)).isSome = (clo false o r).isSome
  | [], r, o, _ => by
    rw [List.nil_append, clo, if_neg (by simp), if_neg (by simp), tg_34, Option.isSome_map]
    rfl
  | c :: t, r, o, h => by
    have h1 := h c (by simp)
    have h2 := clo_text t r o fun d hd => h d (by simp [hd])
    rw [List.cons_append, clo, if_neg (by simp [tg_ne h1]), if_neg (by simp [tg_ne h1]), tg_ne h1, Option.isSome_map, h2]
theorem clo_some : ∀ (B : List Pc) (d o e : Nat), okL B → 1 ≤ o → bal B (d + o) = some e → e ≤ d → (clo false (o : Int) (flat B)).isSome = true
  | [], d, o, e, _, h1, h, he => by simp [bal] at h; omega
  | some (.inl true) :: B, d, o, e, hok, h1, h, he => by
    have h2 := clo_some B d (o + 1) e hok.2.2 (by omega) h he
    rw [flat_cons]
    show (clo false (o : Int) (40 :: flat B)).isSome = true
    rw [clo, if_pos (by decide)]
    simpa using h2
  | some (.inl false) :: B, d, o, e, hok, h1, h, he => by
    rw [flat_cons]
    show (clo false (o : Int) (41 :: flat B)).isSome = true
    rw [clo, if_neg (by decide), if_pos (by decide)]
    by_cases ho : o = 1
    · subst ho; rfl
    · obtain ⟨o, rfl⟩ : ∃ p, o = p + 1 := ⟨o - 1, by omega⟩
      rw [if_neg (by omega), Option.isSome_map]
      have h2 := clo_some B d o e hok.2.2 (by omega) h he
      rw [show ((o + 1 : Nat) : Int) - 1 = (o : Int) by omega]
      exact h2
  | none :: B, d, o, e, hok, h1, h, he => by
    rw [flat_cons, clo_skip _ _ _ (by decide)]
    exact clo_some B d o e hok.2.2 h1 h he
  | some (.inr (.inl c)) :: B, d, o, e, hok, h1, h, he => by
    rw [flat_cons, clo_skip _ _ _ (fun q hq => by
      have hm := hok.1
      simp only [pB, List.mem_singleton] at hq
      subst hq
      exact ⟨by rintro rfl; exact absurd hm.1 (by decide), hm.2⟩)]
    exact clo_some B d o e hok.2.2 h1 h he
  | some (.inr (.inr (.inl t))) :: B, d, o, e, hok, h1, h, he => by
    rw [flat_cons]
    show (clo false (o : Int) (34 :: (t ++ [34]) ++ flat B)).isSome = true
    rw [List.cons_append, clo, if_neg (by decide), if_neg (by decide), Option.isSome_map, List.append_assoc]
    show (clo true (o : Int) (t ++ 34 :: flat B)).isSome = true
    rw [clo_text _ _ _ (tx_no hok.1)]
    exact clo_some B d o e hok.2.2 h1 h he
  | some (.inr (.inr (.inr (w, t)))) :: B, d, o, e, hok, h1, h, he => by
    rw [flat_cons, show pB (some (.inr (.inr (.inr (w, t))))) = w from rfl, clo_skip _ _ _ (fun q hq => part_ne (hok.1.1 q hq))]
    exact clo_some B d o e hok.2.2 h1 h he
/-- A bracket that opens outside of texts is closed; without the two the text is read as another one, or as none. -/
theorem need {a : Ex} (ha : rgtF 32 (ofL [a]) = true) (hlen : (txE a).length ≤ 600) {i : Nat} (hev : ev ((txE a).take i)) (h40 : (txE a)[i]? = some 40) :
    ∃ k, clo false 0 ((txE a).drop i) = some k ∧ 0 < k ∧ i + k < (txE a).length ∧
      ∀ S, S = [108, 101, 97, 115, 116, 32] ++ ((txE a).take i ++ ([32] ++ (((txE a).take (i + k)).drop (i + 1) ++ ([32] ++ ((txE a).drop (i + k + 1) ++ [59]))))) →
        ¬ ((parseW S).2.1 = 0 ∧ sameI (parseW S).1 [⟨10, [], ofL [a], 0⟩] = true) := by
  obtain ⟨ps, hp⟩ := pz_of ha
  have hok : okL ps := by simpa using hp.ok [] trivial trivial
  have hfl := hp.fl
  rw [← hfl] at hev h40
  obtain ⟨A, B, hps, hA⟩ := at_piece ps i 40 hok hev h40 (.inl rfl)
  rw [show decide ((40 : UInt8) = 40) = true from rfl] at hps
  have hs : txE a = flat A ++ (40 :: flat B) := by rw [← hfl, hps, flat_app, flat_cons]; rfl
  have hd : (txE a).drop i = 40 :: flat B := by rw [hs, ← hA, List.drop_left]
  have hokB : okL B := by rw [hps] at hok; exact (ok_back A _ hok).2.2
  have hcl : (clo false ((1 : Nat) : Int) (flat B)).isSome = true := by
    have h1 := hp.ba 0
    rw [hps, bal_app] at h1
    cases hb : bal A 0 with
    | none => rw [hb] at h1; cases h1
    | some d =>
      rw [hb] at h1
      exact clo_some B d 1 0 hokB (by omega) h1 (by omega)
  obtain ⟨k, hk⟩ := Option.isSome_iff_exists.1 hcl
  have hk1 : clo false 0 ((txE a).drop i) = some (k + 1) := by
    rw [hd, clo, if_pos (by decide)]
    show (clo false (0 + 1) (flat B)).map (· + 1) = _
    rw [show (0 + 1 : Int) = ((1 : Nat) : Int) from rfl, hk]
    rfl
  obtain ⟨h41, hc⟩ := clo_is _ _ _ _ hk
  have hev2 : ev ((flat B).take k) := by unfold ev; simpa using hc
  obtain ⟨A2, B2, hB, hA2⟩ := at_piece B k 41 hokB hev2 h41 (.inr rfl)
  rw [show decide ((41 : UInt8) = 40) = false from rfl] at hB
  have hfB : flat B = flat A2 ++ (41 :: flat B2) := by rw [hB, flat_app, flat_cons]; rfl
  have hs2 : txE a = flat A ++ (40 :: (flat A2 ++ (41 :: flat B2))) := by rw [hs, hfB]
  have hlen2 : (txE a).length = i + (k + 1) + (flat B2).length + 1 := by rw [hs2]; simp [hA, hA2]; omega
  refine ⟨k + 1, hk1, by omega, by omega, fun S hS => ?_⟩
  have e1 : (txE a).take i = flat A := by rw [hs2, ← hA, List.take_left]
  have e2 : ((txE a).take (i + (k + 1))).drop (i + 1) = flat A2 := by
    rw [hs2, ← hA, ← hA2]
    have : flat A ++ (40 :: (flat A2 ++ (41 :: flat B2))) = (flat A ++ [40]) ++ (flat A2 ++ (41 :: flat B2)) := by simp
    rw [this, show (flat A).length + ((flat A2).length + 1) = (flat A ++ [40]).length + (flat A2).length by simp; omega, List.take_length_add_append, List.take_left, show (flat A).length + 1 = (flat A ++ [40]).length by simp, List.drop_left]
  have e3 : (txE a).drop (i + (k + 1) + 1) = flat B2 := by
    rw [hs2, ← hA, ← hA2]
    have : flat A ++ (40 :: (flat A2 ++ (41 :: flat B2))) = (flat A ++ (40 :: (flat A2 ++ [41]))) ++ flat B2 := by simp
    rw [this, show (flat A).length + ((flat A2).length + 1) + 1 = (flat A ++ (40 :: (flat A2 ++ [41]))).length by simp; omega, List.drop_left]
  rw [e1, e2, e3] at hS
  have hok2 : okL (A ++ none :: (A2 ++ none :: B2)) := by
    rw [hps, hB] at hok
    have h1 := ok_blank true A _ hok
    have h2 : okL ((A ++ none :: A2) ++ some (.inl false) :: B2) := by simpa using h1
    have h3 := ok_blank false _ _ h2
    simpa using h3
  have hsn := sn_flat _ [59] [sg [59]] hok2 (bd_mark (c := 59) rfl) (Sn_mark (c := 59) rfl Sn_nil)
  have hsn2 := Sn_word (w := wLeast) rfl (bd_mark (c := 32) rfl) (Sn_blank (c := 32) rfl hsn)
  have hS2 : S = wLeast ++ (32 :: (flat (A ++ none :: (A2 ++ none :: B2)) ++ [59])) := by
    rw [hS, flat_app, flat_cons, flat_app, flat_cons]
    simp [wLeast, pB]
  rw [← hS2] at hsn2
  have hl1 : (flat A).length + (flat A2).length + (flat B2).length ≤ 600 := by
    rw [hs2] at hlen; simp at hlen; omega
  refine few_not ?_ hsn2 ?_
  · rw [hS]; simp; omega
  · have ht : (tkE a).length = (toks (A ++ some (.inl true) :: (A2 ++ some (.inl false) :: B2))).length := by rw [← hB, ← hps, hp.tk]
    rw [ht]
    simp only [toks_app, toks_cons, List.length_append, List.length_cons, pT, List.length_nil]
    omega
end Go.Proofs.YtpeldiibjhffiaaDoor
