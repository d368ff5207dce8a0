/-
  Files of records as plain lists of bytes: what is written, what is read, there and back.
-/
import Derived.Test.YtdhphipdpjhhbaaGreatDoorSamPlain
namespace Go.Proofs.YtdhphipdpjhhbaaGreatDoor

/-- A reference: its name, how many letters it has. -/
abbrev Rf := List UInt8 × Int
def headT : List UInt8 := [64, 72, 68, 9, 86, 78, 58, 49, 46, 54, 9, 83, 79, 58, 117, 110, 115, 111, 114, 116, 101, 100]
def refMark : List UInt8 := [64, 83, 81, 9, 83, 78, 58]
def lenMark : List UInt8 := [9, 76, 78, 58]
def refLine (f : Rf) : List UInt8 := refMark ++ (f.1 ++ (lenMark ++ Lib.itoa f.2))
def refOk (f : Rf) : Prop := nameB f.1 = true ∧ 1 ≤ f.2 ∧ f.2 ≤ 65536
def findB (refs : List Rf) (n : List UInt8) : Option Rf := refs.find? fun f => decide (f.1 = n)
def fitsB (refs : List Rf) (r : Rec) : Bool :=
  if r.mapped then match findB refs r.ref with
    | none => false
    | some f => decide (r.pos - 1 + refB r.runs ≤ f.2)
  else true
/-- A file: its references, its records. -/
abbrev Fl := List Rf × List Rec
def fileB (f : Fl) : List UInt8 := headT ++ 10 :: (f.1.flatMap (fun x => refLine x ++ [10]) ++ f.2.flatMap (fun r => lineR r ++ [10]))
/-- What a file may say. -/
structure FileOk (f : Fl) : Prop where
  few : f.1.length ≤ 64
  some : f.2.length ≤ 256
  refs : ∀ x ∈ f.1, refOk x
  apart : (f.1.map (·.1)).Nodup
  recs : ∀ r ∈ f.2, rightR r = true ∧ fit64 r.score ∧ fitsB f.1 r = true

theorem itoa_small {z : Int} (h : 1 ≤ z ∧ z ≤ 65536) : fit64 z := by unfold fit64; omega
theorem name_tab {l : List UInt8} (h : nameB l = true) : (9 : UInt8) ∉ l := (name_seen h).tab
theorem refLine_cut (f : Rf) : refLine f = refMark ++ (f.1 ++ 9 :: ([76, 78, 58] ++ Lib.itoa f.2)) := by simp [refLine, lenMark]
theorem refLine_inj {f g : Rf} (hf : refOk f) (hg : refOk g) (h : refLine f = refLine g) : f = g := by
  rw [refLine_cut f, refLine_cut g] at h
  have h1 := List.append_cancel_left h
  have e1 : headB 9 (f.1 ++ 9 :: ([76, 78, 58] ++ Lib.itoa f.2)) = f.1 := (headB_app _ (name_tab hf.1)).1
  have e2 : tailB 9 (f.1 ++ 9 :: ([76, 78, 58] ++ Lib.itoa f.2)) = [76, 78, 58] ++ Lib.itoa f.2 := (headB_app _ (name_tab hf.1)).2
  rw [h1, (headB_app _ (name_tab hg.1)).1] at e1
  rw [h1, (headB_app _ (name_tab hg.1)).2] at e2
  have e3 := itoa_inj (itoa_small hg.2) (itoa_small hf.2) (List.append_cancel_left e2)
  exact Prod.ext e1.symm e3.symm
/-- The reference whose line it may be. -/
def refCand (l : List UInt8) : Rf := (headB 9 (l.drop 7), readNum ((tailB 9 (l.drop 7)).drop 3))
theorem refCand_of {f : Rf} {l : List UInt8} (h : refOk f) (hl : refLine f = l) : refCand l = f := by
  have hd : l.drop 7 = f.1 ++ 9 :: ([76, 78, 58] ++ Lib.itoa f.2) := by rw [← hl, refLine_cut]; rfl
  have hi : ([76, 78, 58] ++ Lib.itoa f.2).drop 3 = Lib.itoa f.2 := rfl
  rw [refCand, hd, (headB_app _ (name_tab h.1)).1, (headB_app _ (name_tab h.1)).2, hi, readNum_itoa (itoa_small h.2)]
/-- The reference whose line it is. -/
def refLineB (l : List UInt8) : Option Rf :=
  if nameB (refCand l).1 && (decide (1 ≤ (refCand l).2) && (decide ((refCand l).2 ≤ 65536) && decide (refLine (refCand l) = l))) then some (refCand l) else none
theorem refLineB_of {f : Rf} {l : List UInt8} (h : refOk f) (hl : refLine f = l) : refLineB l = some f := by
  rw [refLineB, refCand_of h hl, if_pos (by simp [h.1, h.2.1, h.2.2, hl])]
theorem refLineB_spec {f : Rf} {l : List UInt8} (h : refLineB l = some f) : refOk f ∧ refLine f = l := by
  unfold refLineB at h
  split at h
  · rename_i hex
    cases h
    simp only [Bool.and_eq_true, decide_eq_true_eq] at hex
    exact ⟨⟨hex.1, hex.2.1, hex.2.2.1⟩, hex.2.2.2⟩
  · cases h
theorem refLineB_none {l : List UInt8} (h : ∀ f, refOk f → refLine f = l → False) : refLineB l = none := by
  cases hr : refLineB l with
  | none => rfl
  | some f => exact absurd (refLineB_spec hr).2 (fun e => h f (refLineB_spec hr).1 e)
theorem refLineB_at {l : List UInt8} {f : Rf} (h : refLineB l = some f) : l.head? = some 64 := by
  rw [← (refLineB_spec h).2]; rfl
theorem line_head {r : Rec} (h : rightR r = true) : (lineR r).head? ≠ some 64 := by
  have h1 := rightR_read h
  have hn := name_ne h1.name
  have hh := name_head h1.name
  have : ∃ t, lineR r = r.name ++ t := by
    unfold lineR tabs fieldsF elevenF
    split
    · rw [List.cons_append]; exact ⟨_, Lib.join_cons _ _ _⟩
    · exact ⟨_, Lib.join_cons _ _ _⟩
  obtain ⟨t, e⟩ := this
  rw [e]
  cases hx : r.name with
  | nil => exact absurd hx hn
  | cons c x => rw [hx] at hh; simpa using hh
theorem recB_at {l : List UInt8} {r : Rec} (h : recB l = some r) : l.head? ≠ some 64 := by
  obtain ⟨h1, _, h3⟩ := recB_spec h
  rw [← h3]; exact line_head h1

/-- One line more: what it makes of a file; nothing: it is wrong there. -/
def takeRefB (f : Fl) (l : List UInt8) : Option Fl :=
  if f.2 ≠ [] ∨ f.1.length = 64 then none
  else match refLineB l with
    | none => none
    | some x => if (findB f.1 x.1).isSome then none else some (f.1 ++ [x], f.2)
def takeRecB (f : Fl) (l : List UInt8) : Option Fl :=
  if f.2.length = 256 then none
  else match recB l with
    | none => none
    | some r => if fitsB f.1 r then some (f.1, f.2 ++ [r]) else none
def takeB (f : Fl) (k : Nat) (l : List UInt8) : Option Fl :=
  if k = 1 then (if l = headT then some f else none)
  else if l.head? = some 64 then takeRefB f l else takeRecB f l
/-- The lines of a text: the file, or the number of the one that is wrong. -/
def goF (f : Fl) (k : Nat) : List (List UInt8) → Fl ⊕ Nat
  | [] => .inr k
  | [p] => if p = [] ∧ k ≠ 1 then .inl f else .inr k
  | p :: q :: r => match takeB f k p with
    | none => .inr k
    | some f' => goF f' (k + 1) (q :: r)
def parseF (t : List UInt8) : Fl ⊕ Nat := goF ([], []) 1 (cuts 10 t)

/-! There and back -/
theorem cuts_snoc {x : List UInt8} (y : List UInt8) (h : (10 : UInt8) ∉ x) : cuts 10 (x ++ [10] ++ y) = x :: cuts 10 y := by
  rw [List.append_assoc]; exact cuts_app y h
theorem cuts_many (t : List UInt8) : ∀ (l : List (List UInt8)), (∀ x ∈ l, (10 : UInt8) ∉ x) → cuts 10 (l.flatMap (fun x => x ++ [10]) ++ t) = l ++ cuts 10 t
  | [], _ => by simp
  | x :: l, h => by
    rw [List.flatMap_cons, List.append_assoc, cuts_snoc _ (h x (by simp)), cuts_many t l (fun y hy => h y (by simp [hy]))]
    rfl
theorem head_feed : (10 : UInt8) ∉ headT := by decide
theorem ref_feed {f : Rf} (h : refOk f) : (10 : UInt8) ∉ refLine f := by
  unfold refLine
  intro hm
  rcases List.mem_append.1 hm with hm | hm
  · revert hm; decide
  · rcases List.mem_append.1 hm with hm | hm
    · exact (name_seen h.1).feed hm
    · rcases List.mem_append.1 hm with hm | hm
      · revert hm; decide
      · exact (itoa_seen f.2).feed hm
theorem map_flat {α : Type} (l : List α) (g : α → List UInt8) : l.flatMap (fun x => g x ++ [10]) = (l.map g).flatMap (fun x => x ++ [10]) := by simp [List.flatMap_map]
theorem cuts_file {f : Fl} (h : FileOk f) : cuts 10 (fileB f) = headT :: (f.1.map refLine ++ (f.2.map lineR ++ [[]])) := by
  have h1 := cuts_many ((f.2.map lineR).flatMap (fun x => x ++ [10])) (f.1.map refLine) (fun x hx => by
    obtain ⟨y, hy, rfl⟩ := List.mem_map.1 hx
    exact ref_feed (h.refs y hy))
  have h2 : cuts 10 ((f.2.map lineR).flatMap (fun x => x ++ [10]) ++ []) = f.2.map lineR ++ cuts 10 [] := cuts_many [] _ (fun x hx => by
    obtain ⟨r, hr, rfl⟩ := List.mem_map.1 hx
    exact line_feed (h.recs r hr).1)
  rw [List.append_nil] at h2
  unfold fileB
  rw [cuts_app _ head_feed, map_flat f.1 refLine, map_flat f.2 lineR, h1, h2]
  rfl
theorem goF_step (f f' : Fl) (k : Nat) (p : List UInt8) (r : List (List UInt8)) (hr : r ≠ []) (h : takeB f k p = some f') : goF f k (p :: r) = goF f' (k + 1) r := by
  cases r with
  | nil => exact absurd rfl hr
  | cons q r => simp only [goF, h]
theorem goF_wrong (f : Fl) (k : Nat) (p : List UInt8) (r : List (List UInt8)) (hr : r ≠ []) (h : takeB f k p = none) : goF f k (p :: r) = .inr k := by
  cases r with
  | nil => exact absurd rfl hr
  | cons q r => simp only [goF, h]
theorem findB_none {refs : List Rf} {n : List UInt8} : findB refs n = none ↔ n ∉ refs.map (·.1) := by
  unfold findB
  rw [List.find?_eq_none]
  simp only [decide_eq_true_eq, List.mem_map, not_exists, not_and]
theorem findB_spec {refs : List Rf} {n : List UInt8} {x : Rf} (h : findB refs n = some x) : x ∈ refs ∧ x.1 = n := by
  refine ⟨List.mem_of_find?_eq_some h, ?_⟩
  have := List.find?_some h
  simpa using this
theorem go_refs : ∀ (m done : List Rf) (k : Nat) (t : List (List UInt8)), t ≠ [] → 1 < k → (done ++ m).length ≤ 64 → (∀ x ∈ m, refOk x) → ((done ++ m).map (·.1)).Nodup → goF (done, []) k (m.map refLine ++ t) = goF (done ++ m, []) (k + m.length) t
  | [], done, k, t, _, _, _, _, _ => by simp
  | x :: m, done, k, t, ht, hk, hl, ho, hn => by
    have e1 : takeB (done, []) k (refLine x) = some (done ++ [x], []) := by
      unfold takeB
      rw [if_neg (by omega), if_pos (by rfl)]
      unfold takeRefB
      rw [if_neg (by simp at hl ⊢; omega), refLineB_of (ho x (by simp)) rfl]
      have : findB done x.1 = none := by
        rw [findB_none]
        rw [List.map_append, List.nodup_append] at hn
        intro hm
        exact hn.2.2 x.1 hm x.1 (by simp) rfl
      simp [this]
    rw [List.map_cons, List.cons_append, goF_step _ _ _ _ _ (by simp [ht]) e1, go_refs m (done ++ [x]) (k + 1) t ht (by omega) (by simp at hl ⊢; omega) (fun y hy => ho y (by simp [hy])) (by simpa using hn)]
    simp [Nat.add_assoc, Nat.add_comm 1]
theorem go_recs (refs : List Rf) : ∀ (m done : List Rec) (k : Nat) (t : List (List UInt8)), t ≠ [] → 1 < k → (done ++ m).length ≤ 256 → (∀ r ∈ m, rightR r = true ∧ fit64 r.score ∧ fitsB refs r = true) → goF (refs, done) k (m.map lineR ++ t) = goF (refs, done ++ m) (k + m.length) t
  | [], done, k, t, _, _, _, _ => by simp
  | r :: m, done, k, t, ht, hk, hl, ho => by
    obtain ⟨h1, h2, h3⟩ := ho r (by simp)
    have e1 : takeB (refs, done) k (lineR r) = some (refs, done ++ [r]) := by
      unfold takeB
      rw [if_neg (by omega), if_neg (line_head h1)]
      unfold takeRecB
      rw [if_neg (by simp at hl ⊢; omega), recB_some h1 h2]
      simp [h3]
    rw [List.map_cons, List.cons_append, goF_step _ _ _ _ _ (by simp [ht]) e1, go_recs refs m (done ++ [r]) (k + 1) t ht (by omega) (by simp at hl ⊢; omega) (fun y hy => ho y (by simp [hy]))]
    simp [Nat.add_assoc, Nat.add_comm 1]
/-- A file that may be is read as it was. -/
theorem parse_file {f : Fl} (h : FileOk f) : parseF (fileB f) = .inl f := by
  obtain ⟨refs, recs⟩ := f
  unfold parseF
  rw [cuts_file h, goF_step _ ([], []) _ _ _ (by simp) (by simp [takeB])]
  have h1 := go_refs refs [] 2 (recs.map lineR ++ [[]]) (by simp) (by decide) (by simpa using h.few) h.refs (by simpa using h.apart)
  simp only [List.nil_append] at h1
  rw [h1]
  have h2 := go_recs refs recs [] (2 + refs.length) [[]] (by simp) (by omega) (by simpa using h.some) h.recs
  simp only [List.nil_append] at h2
  rw [h2]
  show (if ([] : List UInt8) = [] ∧ 2 + refs.length + recs.length ≠ 1 then _ else _) = _
  rw [if_pos ⟨rfl, by omega⟩]
theorem flat_snoc {α : Type} (l : List α) (x : α) (g : α → List UInt8) : (l ++ [x]).flatMap (fun x => g x ++ [10]) = l.flatMap (fun x => g x ++ [10]) ++ (g x ++ [10]) := by simp
theorem fitsB_more {refs : List Rf} {x : Rf} {r : Rec} (h : fitsB refs r = true) : fitsB (refs ++ [x]) r = true := by
  unfold fitsB at *
  split at h
  · rename_i hm
    rw [if_pos hm]
    cases hf : findB refs r.ref with
    | none => rw [hf] at h; cases h
    | some y =>
      rw [hf] at h
      have : findB (refs ++ [x]) r.ref = some y := by unfold findB at *; rw [List.find?_append, hf]; rfl
      rw [this]; exact h
  · rename_i hm; rw [if_neg hm]
/-- One line more makes a file of one more. -/
theorem take_ok {f f' : Fl} {k : Nat} {l : List UInt8} (hf : FileOk f) (hk : k ≠ 1) (h : takeB f k l = some f') : FileOk f' ∧ fileB f' = fileB f ++ (l ++ [10]) := by
  obtain ⟨refs, recs⟩ := f
  unfold takeB at h
  rw [if_neg hk] at h
  split at h
  · unfold takeRefB at h
    split at h
    · cases h
    · rename_i h1
      simp only [not_or, Decidable.not_not] at h1
      obtain ⟨rfl, h2⟩ := h1
      cases hr : refLineB l with
      | none => rw [hr] at h; cases h
      | some x =>
        rw [hr] at h
        simp only at h
        split at h
        · cases h
        · rename_i h3
          cases h
          obtain ⟨hx, hl⟩ := refLineB_spec hr
          have h4 : x.1 ∉ refs.map (·.1) := by
            rw [← findB_none]
            cases hn : findB refs x.1 with
            | none => rfl
            | some y => rw [hn] at h3; simp at h3
          refine ⟨⟨?_, hf.some, ?_, ?_, fun r hr => by cases hr⟩, ?_⟩
          · have := hf.few; simp at this h2 ⊢; omega
          · intro y hy
            rcases List.mem_append.1 hy with hy | hy
            · exact hf.refs y hy
            · simp at hy; subst hy; exact hx
          · rw [List.map_append, List.nodup_append]
            refine ⟨hf.apart, by simp, ?_⟩
            intro a ha b hb e
            simp at hb
            exact h4 (by rw [← hb, ← e]; exact ha)
          · unfold fileB
            simp [hl]
  · unfold takeRecB at h
    split at h
    · cases h
    · rename_i h1
      cases hr : recB l with
      | none => rw [hr] at h; cases h
      | some r =>
        rw [hr] at h
        simp only at h
        split at h
        · rename_i h3
          cases h
          obtain ⟨hx, hs, hl⟩ := recB_spec hr
          refine ⟨⟨hf.few, ?_, hf.refs, hf.apart, ?_⟩, ?_⟩
          · have := hf.some; simp at this h1 ⊢; omega
          · intro y hy
            rcases List.mem_append.1 hy with hy | hy
            · exact hf.recs y hy
            · simp at hy; subst hy; exact ⟨hx, hs, h3⟩
          · unfold fileB
            simp [hl]
        · cases h
theorem go_ok : ∀ (ps : List (List UInt8)) (f f' : Fl) (k : Nat), 1 < k → FileOk f → goF f k ps = .inl f' → FileOk f' ∧ fileB f ++ Lib.join ps [10] = fileB f'
  | [], f, f', k, _, _, h => by cases h
  | [p], f, f', k, _, hf, h => by
    simp only [goF] at h
    split at h
    · rename_i h1
      cases h
      rw [h1.1, Lib.join_one, List.append_nil]
      exact ⟨hf, rfl⟩
    · cases h
  | p :: q :: r, f, f', k, hk, hf, h => by
    simp only [goF] at h
    cases ht : takeB f k p with
    | none => rw [ht] at h; cases h
    | some g =>
      rw [ht] at h
      obtain ⟨h1, h2⟩ := take_ok hf (by omega) ht
      obtain ⟨h3, h4⟩ := go_ok (q :: r) g f' (k + 1) (by omega) h1 h
      refine ⟨h3, ?_⟩
      rw [join_two, ← h4, h2]
      simp
/-- What is read is a file, written as just that text. -/
theorem parse_ok {t : List UInt8} {f : Fl} (h : parseF t = .inl f) : FileOk f ∧ fileB f = t := by
  unfold parseF at h
  rcases hc : cuts 10 t with _ | ⟨p, r⟩
  · exact absurd hc (cuts_ne _ _)
  · rw [hc] at h
    have hj : Lib.join (cuts 10 t) [10] = t := join_cuts 10 _ t (Nat.le_refl _)
    cases r with
    | nil => simp [goF] at h
    | cons q r =>
      by_cases hp : p = headT
      · subst hp
        rw [goF_step _ ([], []) _ _ _ (by simp) (by simp [takeB])] at h
        have hf0 : FileOk ([], []) := ⟨(by simp), (by simp), (fun _ h => by cases h), (by simp), (fun _ h => by cases h)⟩
        obtain ⟨h1, h2⟩ := go_ok (q :: r) _ _ 2 (by decide) hf0 h
        refine ⟨h1, ?_⟩
        rw [← h2, ← hj, hc, join_two]
        simp [fileB]
      · rw [goF_wrong _ _ _ _ (by simp) (by simp [takeB, hp])] at h
        cases h

/-! What is written -/
/-- A sequence as it is handed in: its name, its note, its letters. -/
abbrev Sqp := List UInt8 × List UInt8 × List UInt8
def seqOkB (s : Sqp) : Bool := nameB s.1 && (noteB s.2.1 && basesB s.2.2)
def refOf (s : Sqp) : Rf := (s.1, (s.2.2.length : Int))
/-- Names and lengths of references; nothing: they may not be written. -/
def knowGo (done : List Rf) : List Sqp → Option (List Rf)
  | [] => some done
  | s :: r => if (findB done s.1).isSome = true ∨ seqOkB s = false then none else knowGo (done ++ [refOf s]) r
def knowB (l : List Sqp) : Option (List Rf) := knowGo [] l
def allFit (refs : List Rf) (l : List Rec) : Bool := l.all fun r => rightR r && fitsB refs r
def printF (refs : List Sqp) (l : List Rec) : List UInt8 × Int :=
  if 64 < refs.length ∨ 256 < l.length then ([], 2)
  else match knowB refs with
    | none => ([], 50)
    | some k => if allFit k l = false then ([], 51)
      else if 1048576 < (fileB (k, l)).length then ([], 2) else (fileB (k, l), 0)
theorem know_spec : ∀ (l : List Sqp) (done k : List Rf), knowGo done l = some k → (∀ x ∈ done, refOk x) → (done.map (·.1)).Nodup → k = done ++ l.map refOf ∧ (∀ x ∈ k, refOk x) ∧ (k.map (·.1)).Nodup
  | [], done, k, h, h1, h2 => by cases h; exact ⟨by simp, h1, h2⟩
  | s :: r, done, k, h, h1, h2 => by
    simp only [knowGo] at h
    split at h
    · cases h
    · rename_i h3
      simp only [not_or, Bool.not_eq_true, Bool.not_eq_false, Option.isSome_eq_false_iff, Option.isNone_iff_eq_none] at h3
      have hs : refOk (refOf s) := by
        have h4 := h3.2
        simp only [seqOkB, basesB, Bool.and_eq_true, decide_eq_true_eq] at h4
        refine ⟨h4.1, ?_, ?_⟩
        · have : 0 < s.2.2.length := List.length_pos_iff.2 h4.2.2.1
          show (1 : Int) ≤ (s.2.2.length : Int); omega
        · show ((s.2.2.length : Nat) : Int) ≤ 65536; have := h4.2.2.2.1; omega
      obtain ⟨e, h5, h6⟩ := know_spec r (done ++ [refOf s]) k h (fun x hx => by
        rcases List.mem_append.1 hx with hx | hx
        · exact h1 x hx
        · simp at hx; subst hx; exact hs) (by
        rw [List.map_append, List.nodup_append]
        refine ⟨h2, by simp, ?_⟩
        intro a ha b hb e
        simp at hb
        exact findB_none.1 h3.1 (by show s.1 ∈ _; rw [show s.1 = a by rw [e, hb]; rfl]; exact ha))
      exact ⟨by rw [e]; simp, h5, h6⟩
/-- What is written is read as it was. -/
theorem print_back {refs : List Sqp} {l : List Rec} {t : List UInt8} (hs : ∀ r ∈ l, fit64 r.score) (h : printF refs l = (t, 0)) : parseF t = .inl (refs.map refOf, l) ∧ t.length ≤ 1048576 := by
  unfold printF at h
  split at h
  · simp at h
  · rename_i h1
    cases hk : knowB refs with
    | none => rw [hk] at h; simp at h
    | some k =>
      rw [hk] at h
      simp only at h
      split at h
      · simp at h
      · rename_i h2
        split at h
        · simp at h
        · rename_i h3
          simp only [Prod.mk.injEq, and_true] at h
          subst h
          obtain ⟨e, h4, h5⟩ := know_spec refs [] k hk (fun _ h => by cases h) (by simp)
          rw [List.nil_append] at e
          subst e
          simp only [Bool.not_eq_false, allFit, List.all_eq_true, Bool.and_eq_true] at h2
          refine ⟨parse_file ⟨by simp; omega, by simp; omega, h4, h5, fun r hr => ⟨(h2 r hr).1, hs r hr, (h2 r hr).2⟩⟩, by omega⟩
end Go.Proofs.YtdhphipdpjhhbaaGreatDoor
