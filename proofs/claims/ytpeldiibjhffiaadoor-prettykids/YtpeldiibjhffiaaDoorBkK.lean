/-
  The text of an expression as the argument of each sign, and alone: what is read of it.
-/
import Derived.Test.YtpeldiibjhffiaaDoorG37
import Derived.Test.YtpeldiibjhffiaaDoorG33
namespace Go.Proofs.YtpeldiibjhffiaaDoor
open Go.RowKit Go.Deep

def wLeast : List UInt8 := [108, 101, 97, 115, 116]
def brK (A : List Tk) : List Tk := sg [40] :: (A ++ [sg [41]])
def kT1 (A B : List Tk) : List Tk := tk 4 0 wLeast :: (brK A ++ (sg [42] :: (brK B ++ [sg [59]])))
def kT2 (A B : List Tk) : List Tk := tk 4 0 wLeast :: (brK A ++ (sg [45] :: (brK B ++ [sg [59]])))
def kT3 (A : List Tk) : List Tk := tk 4 0 wLeast :: (A ++ [sg [59]])
def kT4 (B : List Tk) : List Tk := tk 4 0 wLeast :: (sg [45] :: (brK B ++ [sg [59]]))
def kT (A B : List Tk) : List Tk := kT1 A B ++ (kT2 A B ++ (kT3 A ++ kT4 B))
/-- The text that is read. -/
def kB (s t : List UInt8) : List UInt8 :=
  [108, 101, 97, 115, 116, 32, 40] ++ (s ++ ([41, 32, 42, 32, 40] ++ (t ++ ([41, 59, 32, 108, 101, 97, 115, 116, 32, 40] ++ (s ++ ([41, 32, 45, 32, 40] ++ (t ++ ([41, 59, 32, 108, 101, 97, 115, 116, 32] ++ (s ++ ([59, 32, 108, 101, 97, 115, 116, 32, 45, 40] ++ (t ++ [41, 59])))))))))))
def hK (k : Int) : Hd := ⟨k, 0, [], 0⟩
/-- The tree that is asked for. -/
def kI (a b : Ex) : List It := [⟨10, [], ofL [(hK 7, ofL [a, b])], 0⟩, ⟨10, [], ofL [(hK 6, ofL [a, b])], 0⟩, ⟨10, [], ofL [a], 0⟩, ⟨10, [], ofL [(hK 4, ofL [b])], 0⟩]
theorem term_step {fac : List Tk → Rs Ex} {m : Nat} (hm : 1 ≤ m) {e e2 : Ex} {r r2 : List Tk} (h : fac r = pure' e2 r2) : termGo fac m e (sg [42] :: r) = termGo fac (m - 1) (hK 7, ofL [e, e2]) r2 := by
  cases m with
  | zero => omega
  | succ m =>
    rw [termGo, if_pos (show isT 6 [42] (sg [42]) = true from rfl), h]
    rfl
theorem expr_step {trm : List Tk → Rs Ex} {m : Nat} (hm : 1 ≤ m) {e e2 : Ex} {r r2 : List Tk} (h : trm r = pure' e2 r2) : exprGo trm m e (sg [45] :: r) = exprGo trm (m - 1) (hK 6, ofL [e, e2]) r2 := by
  cases m with
  | zero => omega
  | succ m =>
    rw [exprGo, if_pos (show (isT 6 [43] (sg [45]) || isT 6 [45] (sg [45])) = true from rfl), h]
    rfl
theorem ex_mul {n d : Nat} {a b : Ex} (ha : Q n d a) (hb : Q n d b) (r : List Tk) : exprG (facN (n + 1)) (brK (tkE a) ++ (sg [42] :: (brK (tkE b) ++ (sg [59] :: r)))) = pure' (hK 7, ofL [zE a, zE b]) (sg [59] :: r) := by
  have h1 := term_of_fac (brack ha (sg [42] :: (brK (tkE b) ++ (sg [59] :: r))))
  have h2 : facN (n + 1) (brK (tkE b) ++ (sg [59] :: r)) = pure' (zE b) (sg [59] :: r) := brack hb (sg [59] :: r)
  unfold exprG
  rw [show brK (tkE a) = sg [40] :: (tkE a ++ [sg [41]]) from rfl, h1, term_step (by unfold mx; omega) h2, term_stop (stop_end r).1]
  show exprGo (termG (facN (n + 1))) mx _ (sg [59] :: r) = _
  rw [expr_stop (stop_end r).2.1 (stop_end r).2.2]
theorem ex_sub {n d : Nat} {a b : Ex} (ha : Q n d a) (hb : Q n d b) (r : List Tk) : exprG (facN (n + 1)) (brK (tkE a) ++ (sg [45] :: (brK (tkE b) ++ (sg [59] :: r)))) = pure' (hK 6, ofL [zE a, zE b]) (sg [59] :: r) := by
  have h1 := term_of_fac (brack ha (sg [45] :: (brK (tkE b) ++ (sg [59] :: r))))
  have h2 : termG (facN (n + 1)) (brK (tkE b) ++ (sg [59] :: r)) = pure' (zE b) (sg [59] :: r) := by
    have := term_of_fac (brack hb (sg [59] :: r))
    rw [term_stop (stop_end r).1] at this
    exact this
  unfold exprG
  rw [show brK (tkE a) = sg [40] :: (tkE a ++ [sg [41]]) from rfl, h1, term_stop (show sawG 6 [42] (sg [45] :: (brK (tkE b) ++ (sg [59] :: r))) = false from rfl)]
  show exprGo (termG (facN (n + 1))) mx (zE a) (sg [45] :: (brK (tkE b) ++ (sg [59] :: r))) = _
  rw [expr_step (by unfold mx; omega) h2, expr_stop (stop_end r).2.1 (stop_end r).2.2]
theorem ex_neg {n d : Nat} {b : Ex} (hb : Q n d b) (r : List Tk) : exprG (facN (n + 2)) (sg [45] :: (brK (tkE b) ++ (sg [59] :: r))) = pure' (hK 4, ofL [zE b]) (sg [59] :: r) := by
  have h2 := brack hb (sg [59] :: r)
  have h3 : facN (n + 2) ((sg [45] :: brK (tkE b)) ++ (sg [59] :: r)) = pure' (hK 4, ofL [zE b]) (sg [59] :: r) := by
    show (facN (n + 1) (brK (tkE b) ++ (sg [59] :: r))).map (fun e => (hdB 4 (sg [45]), ofL [e])) = _
    rw [show brK (tkE b) = sg [40] :: (tkE b ++ [sg [41]]) from rfl, h2]
    rfl
  have h4 := expr_of_term (stop_end r).1 (term_of_fac h3)
  rw [expr_stop (stop_end r).2.1 (stop_end r).2.2] at h4
  exact h4
theorem one_of {ex : List Tk → Rs Ex} {e : Ex} {l r : List Tk} (h : ex l = pure' e r) : oneG ex l = pure' (ofL [e]) r := by
  unfold oneG
  rw [h]
  rfl
theorem item_least {ex : List Tk → Rs Ex} {l r : List Tk} {e : Ex} (h : ex l = pure' e (sg [59] :: r)) : itemG ex (tk 4 0 wLeast :: l) = pure' ⟨10, [], ofL [e], 0⟩ r :=
  item_core (k := 10) (b := ([], ofL [e])) rfl (by omega) (body_one (by omega) (one_of h))
theorem src_step {ex : List Tk → Rs Ex} {m : Nat} (hm : 1 ≤ m) {acc : List It} (ha : acc.length < 100) {w : List UInt8} {l r : List Tk} {i : It} (h : itemG ex (tk 4 0 w :: l) = pure' i r) : sourceGo ex m acc (tk 4 0 w :: l) = sourceGo ex (m - 1) (acc ++ [i]) r := by
  cases m with
  | zero => omega
  | succ m =>
    rw [sourceGo, if_neg (show ¬ (tk 4 0 w).kind = 1 by show ¬ (4 : Int) = 1; decide), show decide (acc.length = 100) = false from decide_eq_false (by omega)]
    show (itemG ex (tk 4 0 w :: l)).bind _ = _
    rw [h]
    rfl
theorem k_source {a b : Ex} (ha : ∀ n, 64 ≤ n → Q n 32 a) (hb : ∀ n, 64 ≤ n → Q n 32 b) (q : Nat) : sourceG (kT (tkE a) (tkE b) ++ [endTk q]) = pure' (kI (zE a) (zE b)) [endTk q] := by
  have e1 : kT (tkE a) (tkE b) ++ [endTk q] = tk 4 0 wLeast :: (brK (tkE a) ++ (sg [42] :: (brK (tkE b) ++ (sg [59] :: (tk 4 0 wLeast :: (brK (tkE a) ++ (sg [45] :: (brK (tkE b) ++ (sg [59] :: (tk 4 0 wLeast :: (tkE a ++ (sg [59] :: (tk 4 0 wLeast :: (sg [45] :: (brK (tkE b) ++ (sg [59] :: [endTk q])))))))))))))))) := by
    simp [kT, kT1, kT2, kT3, kT4]
  rw [e1]
  show sourceGo (exprG (facN mx)) mx [] _ = _
  have m1 : mx = 4000 + 1 := rfl
  have m2 : mx = 3999 + 2 := rfl
  rw [src_step (by unfold mx; omega) (by simp) (item_least (by rw [m1]; exact ex_mul (ha 4000 (by omega)) (hb 4000 (by omega)) _)),
    src_step (by unfold mx; omega) (by simp) (item_least (by rw [m1]; exact ex_sub (ha 4000 (by omega)) (hb 4000 (by omega)) _)),
    src_step (by unfold mx; omega) (by simp) (item_least ((ha mx (by unfold mx; omega)).whole (stop_end _))),
    src_step (by unfold mx; omega) (by simp) (item_least (by rw [m2]; exact ex_neg (hb 3999 (by omega)) _))]
  rfl
theorem Q_of {a : Ex} (ha : rgtF 32 (ofL [a]) = true) (n : Nat) (hn : 64 ≤ n) : Q n 32 a := (q_all (ofL [a]) 32 n (by omega) ha (by omega)).1
theorem depK_of {a : Ex} (ha : rgtF 32 (ofL [a]) = true) : depF a.2 + 1 ≤ 32 := by
  have := rgt_dep _ _ ha
  simp only [ofL, nd, depF] at this
  omega
theorem deep_if {F : Fo} {k : Nat} (h : depF F = k) (hk : k ≤ 100) : deepW ⟨10, [], F, 0⟩ = decide (32 < k) := by
  show decide (32 < depW F) = _
  rw [depW_eq _ (by omega), h]
  rw [decide_eq_decide]
  omega
theorem k_deep {a b : Ex} (ha : depF a.2 + 1 ≤ 32) (hb : depF b.2 + 1 ≤ 32) : (deepR (kI (zE a) (zE b))).1 = if 32 ≤ max (depF a.2 + 1) (depF b.2 + 1) then 71 else 0 := by
  have d1 : depF (ofL [(hK 7, ofL [zE a, zE b])]) = max (depF a.2 + 1) (depF b.2 + 1) + 1 := by
    simp only [ofL, nd, depF, zE, dep_z]; omega
  have d2 : depF (ofL [(hK 6, ofL [zE a, zE b])]) = max (depF a.2 + 1) (depF b.2 + 1) + 1 := by
    simp only [ofL, nd, depF, zE, dep_z]; omega
  have d3 : depF (ofL [zE a]) = depF a.2 + 1 := by
    simp only [ofL, nd, depF, zE, dep_z]; omega
  have d4 : depF (ofL [(hK 4, ofL [zE b])]) = depF b.2 + 1 + 1 := by
    simp only [ofL, nd, depF, zE, dep_z]; omega
  unfold kI
  rw [deepR_cons, deepR_cons, deepR_cons, deepR_cons, deep_if d1 (by omega), deep_if d2 (by omega), deep_if d3 (by omega), deep_if d4 (by omega)]
  by_cases h : 32 ≤ max (depF a.2 + 1) (depF b.2 + 1)
  · rw [if_pos h, if_pos (by simpa using (show 32 < max (depF a.2 + 1) (depF b.2 + 1) + 1 by omega))]
  · rw [if_neg h, show decide (32 < max (depF a.2 + 1) (depF b.2 + 1) + 1) = false from decide_eq_false (by omega), show decide (32 < depF a.2 + 1) = false from decide_eq_false (by omega), show decide (32 < depF b.2 + 1 + 1) = false from decide_eq_false (by omega)]
    rfl
theorem ok_tx {a : Ex} (ha : rgtF 32 (ofL [a]) = true) : Ok (txE a) (tkE a) := (al_right (ofL [a]) 32 ha).1.2
theorem k_scan {s t : List UInt8} {A B : List Tk} (hA : Ok s A) (hB : Ok t B) : Sn (kB s t) (kT A B) := by
  have w1 : ∀ {X : List UInt8} {T : List Tk}, Sn X T → Sn ([108, 101, 97, 115, 116] ++ (32 :: X)) (tk 4 0 wLeast :: T) := fun h => Sn_word (w := wLeast) rfl (bd_mark (c := 32) rfl) (Sn_blank (c := 32) rfl h)
  have b1 : ∀ {X : List UInt8} {T : List Tk} {x : List UInt8} {y : List Tk}, Ok x y → Sn X T → Sn (40 :: (x ++ (41 :: X))) (sg [40] :: (y ++ (sg [41] :: T))) := fun ho h => Sn_mark (c := 40) rfl (ho _ _ (bd_mark (c := 41) rfl) (Sn_mark (c := 41) rfl h))
  have e4 : Sn ([108, 101, 97, 115, 116] ++ (32 :: 45 :: 40 :: (t ++ (41 :: [59])))) (tk 4 0 wLeast :: sg [45] :: sg [40] :: (B ++ (sg [41] :: [sg [59]]))) := w1 (Sn_mark (c := 45) rfl (b1 hB (Sn_mark (c := 59) rfl Sn_nil)))
  have e3 := w1 (hA _ _ (bd_mark (c := 59) rfl) (Sn_mark (c := 59) rfl (Sn_blank (c := 32) rfl e4)))
  have e2 := w1 (b1 hA (Sn_blank (c := 32) rfl (Sn_mark (c := 45) rfl (Sn_blank (c := 32) rfl (b1 hB (Sn_mark (c := 59) rfl (Sn_blank (c := 32) rfl e3)))))))
  have e1 := w1 (b1 hA (Sn_blank (c := 32) rfl (Sn_mark (c := 42) rfl (Sn_blank (c := 32) rfl (b1 hB (Sn_mark (c := 59) rfl (Sn_blank (c := 32) rfl e2)))))))
  simpa [kB, kT, kT1, kT2, kT3, kT4, brK] using e1
/-- What is read of the text. -/
theorem kids_parse {a b : Ex} (ha : rgtF 32 (ofL [a]) = true) (hb : rgtF 32 (ofL [b]) = true) (hlen : (kB (txE a) (txE b)).length ≤ 4000) :
    (32 ≤ max (depF a.2 + 1) (depF b.2 + 1) → (parseW (kB (txE a) (txE b))).2.1 = 71) ∧ (¬ 32 ≤ max (depF a.2 + 1) (depF b.2 + 1) → (parseW (kB (txE a) (txE b))).2.1 = 0 ∧ sameI (parseW (kB (txE a) (txE b))).1 (kI a b) = true) := by
  have hS := k_scan (ok_tx ha) (ok_tx hb)
  generalize kB (txE a) (txE b) = S at *
  have h0 := hS 0
  unfold tz at h0
  rw [Nat.zero_add] at h0
  have e : scanB S = ((tokB (skipB S) (S.drop (skipB S))).1 ++ [endTk S.length], 0, 0) := by
    unfold scanB
    rw [if_neg (by omega)]
    unfold finB
    rw [if_pos h0.1]
  unfold parseW
  rw [e, if_neg (by simp)]
  have h1 : ((tokB (skipB S) (S.drop (skipB S))).1 ++ [endTk S.length]).map strip = (kT (tkE a) (tkE b) ++ [endTk S.length]).map strip := by
    rw [List.map_append, List.map_append, h0.2]
  obtain ⟨h2, h3⟩ := end_same h1
  have hd := k_deep (depK_of ha) (depK_of hb)
  have he : endW (sourceG (kT (tkE a) (tkE b) ++ [endTk S.length])) = if (deepR (kI (zE a) (zE b))).1 ≠ 0 then ([], deepR (kI (zE a) (zE b))) else (kI (zE a) (zE b), 0, 0) := by
    rw [k_source (Q_of ha) (Q_of hb)]
    unfold endW
    show (if (flt [] (0, 0)).1 ≠ 0 then _ else if (deepR (kI (zE a) (zE b))).1 ≠ 0 then _ else _) = _
    rw [flt_nil, if_neg (by simp)]
  rw [he] at h2 h3
  refine ⟨fun h => ?_, fun h => ?_⟩
  · rw [if_pos h] at hd
    rw [← h3, if_pos (by rw [hd]; decide)]
    exact hd
  · rw [if_neg h] at hd
    rw [if_neg (by rw [hd]; decide)] at h2 h3
    refine ⟨h3.symm, ?_⟩
    rw [sameI_iff] at h2 ⊢
    rw [← h2]
    simp [kI, zI, zF, ofL, nd, zE, zF_zF, zH, hK]
end Go.Proofs.YtpeldiibjhffiaaDoor
