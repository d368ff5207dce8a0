/-
  Records and files of them as plain lists of bytes: right records, their lines, what is read, what is written.
-/
import Derived.Test.YtdhphipdpjhhbaaGreatDoorText
import Derived.Test.YtdhphipdpjhhbaaGreatDoorWords
import Derived.Lib.AtoiAllCases
import Derived.Lib.Join
import Derived.Lib.Strings
namespace Go.Proofs.YtdhphipdpjhhbaaGreatDoor

/-- A record. -/
structure Rec where
  name : List UInt8
  mapped : Bool
  ref : List UInt8
  pos : Int
  runs : List Rn
  bases : List UInt8
  quals : List UInt8
  score : Int
/-- Are two records alike? -/
def sameB (a b : Rec) : Bool := decide (a.name = b.name) && (decide (a.mapped = b.mapped) && (decide (a.ref = b.ref) && (decide (a.pos = b.pos) && (decide (a.runs = b.runs) && (decide (a.bases = b.bases) && (decide (a.quals = b.quals) && decide (a.score = b.score)))))))
theorem sameB_iff {a b : Rec} : sameB a b = true ↔ a = b := by
  cases a
  cases b
  simp [sameB]
theorem sameB_of {a b : Rec} (h : a = b) : sameB a b = true := sameB_iff.2 h
theorem sameB_self (a : Rec) : sameB a a = true := sameB_of rfl
theorem sameB_not {a b : Rec} (h : ¬ a = b) : sameB a b = false := by
  cases hs : sameB a b with
  | false => rfl
  | true => exact absurd (sameB_iff.1 hs) h
/-- Are two lists of them? -/
def alikeB : List Rec → List Rec → Bool
  | [], [] => true
  | a :: l, b :: m => sameB a b && alikeB l m
  | _, _ => false
theorem alikeB_iff : ∀ {l m : List Rec}, alikeB l m = true ↔ l = m
  | [], [] => by simp [alikeB]
  | [], _ :: _ => by simp [alikeB]
  | _ :: _, [] => by simp [alikeB]
  | a :: l, b :: m => by
    rw [alikeB, Bool.and_eq_true, sameB_iff, alikeB_iff, List.cons.injEq]
theorem alikeB_of {l m : List Rec} (h : l = m) : alikeB l m = true := alikeB_iff.2 h
theorem alikeB_not {l m : List Rec} (h : ¬ l = m) : alikeB l m = false := by
  cases hs : alikeB l m with
  | false => rfl
  | true => exact absurd (alikeB_iff.1 hs) h
def readOkB (r : Rec) : Bool := nameB r.name && (basesB r.bases && (decide (r.quals.length = r.bases.length) && signsB r.quals))
def placeOkB (r : Rec) : Bool :=
  if r.mapped then nameB r.ref && (decide (1 ≤ r.pos) && (rightB r.runs && (decide (readB r.runs = (r.bases.length : Int)) && decide (r.pos - 1 + refB r.runs ≤ 65536))))
  else decide (r.ref = []) && (decide (r.pos = 0) && (decide (r.score = 0) && decide (r.runs = [])))
def rightR (r : Rec) : Bool := readOkB r && placeOkB r
def mkPlain (n b q : List UInt8) : Rec := ⟨n, false, [], 0, [], b, q, 0⟩
def zeroR : Rec := mkPlain [] [] []

/-- Texts with a tab between two of them; a text cut at its tabs. -/
def tabs (l : List (List UInt8)) : List UInt8 := Lib.join l [9]
def scoreT (z : Int) : List UInt8 := [65, 83, 58, 105, 58] ++ Lib.itoa z
/-- A record's fields; the last one is empty where there is none. -/
def flagF (r : Rec) : List UInt8 := if r.mapped then [48] else [52]
def refF (r : Rec) : List UInt8 := if r.mapped then r.ref else [42]
def posF (r : Rec) : List UInt8 := if r.mapped then Lib.itoa r.pos else [48]
def qualF (r : Rec) : List UInt8 := if r.mapped then [50, 53, 53] else [48]
def runsF (r : Rec) : List UInt8 := if r.mapped then (textA r.runs).1 else [42]
def scoreF (r : Rec) : List UInt8 := if r.mapped then scoreT r.score else []
def elevenF (r : Rec) : List (List UInt8) := [r.name, flagF r, refF r, posF r, qualF r, runsF r, [42], [48], [48], r.bases, r.quals]
def fieldsF (r : Rec) : List (List UInt8) := if r.mapped then elevenF r ++ [scoreT r.score] else elevenF r
def lineR (r : Rec) : List UInt8 := tabs (fieldsF r)

/-- A list cut at each byte c. -/
def cutsGo (c : UInt8) (cur : List UInt8) : List UInt8 → List (List UInt8)
  | [] => [cur]
  | d :: r => if d = c then cur :: cutsGo c [] r else cutsGo c (cur ++ [d]) r
def cuts (c : UInt8) (l : List UInt8) : List (List UInt8) := cutsGo c [] l

theorem cutsGo_mem (c : UInt8) : ∀ (l cur : List UInt8), c ∈ l → cutsGo c cur l = (cur ++ headB c l) :: cutsGo c [] (tailB c l)
  | d :: r, cur, h => by
    by_cases h1 : d = c
    · subst h1; rw [headB_cons_eq, tailB_cons_eq]; simp [cutsGo]
    · rw [headB_cons_ne h1, tailB_cons_ne h1]
      show (if d = c then _ else _) = _
      rw [if_neg h1, cutsGo_mem c r (cur ++ [d]) ((List.mem_cons.1 h).resolve_left fun e => h1 e.symm)]
      simp
theorem cutsGo_not_mem (c : UInt8) : ∀ (l cur : List UInt8), c ∉ l → cutsGo c cur l = [cur ++ l]
  | [], cur, _ => by simp [cutsGo]
  | d :: r, cur, h => by
    have h1 : d ≠ c := fun e => h (by simp [e])
    show (if d = c then _ else _) = _
    rw [if_neg h1, cutsGo_not_mem c r (cur ++ [d]) (fun hm => h (List.mem_cons_of_mem _ hm))]
    simp
theorem cuts_mem {c : UInt8} {l : List UInt8} (h : c ∈ l) : cuts c l = headB c l :: cuts c (tailB c l) := by
  unfold cuts; rw [cutsGo_mem c l [] h]; simp
theorem cuts_not_mem {c : UInt8} {l : List UInt8} (h : c ∉ l) : cuts c l = [l] := by
  unfold cuts; rw [cutsGo_not_mem c l [] h]; simp
theorem headB_app {c : UInt8} : ∀ {x : List UInt8} (y : List UInt8), c ∉ x → headB c (x ++ c :: y) = x ∧ tailB c (x ++ c :: y) = y
  | [], y, _ => ⟨headB_cons_eq c y, tailB_cons_eq c y⟩
  | d :: x, y, h => by
    have h1 : d ≠ c := fun e => h (by simp [e])
    have ih := headB_app (x := x) y (fun hm => h (List.mem_cons_of_mem _ hm))
    rw [List.cons_append, headB_cons_ne h1, tailB_cons_ne h1, ih.1, ih.2]
    exact ⟨rfl, rfl⟩
theorem cuts_app {c : UInt8} {x : List UInt8} (y : List UInt8) (h : c ∉ x) : cuts c (x ++ c :: y) = x :: cuts c y := by
  rw [cuts_mem (by simp), (headB_app y h).1, (headB_app y h).2]
theorem cuts_ne (c : UInt8) (l : List UInt8) : cuts c l ≠ [] := by
  by_cases h : c ∈ l
  · rw [cuts_mem h]; simp
  · rw [cuts_not_mem h]; simp
/-- A list is what its pieces make. -/
theorem join_two (x y : List UInt8) (r : List (List UInt8)) (c : UInt8) : Lib.join (x :: y :: r) [c] = x ++ c :: Lib.join (y :: r) [c] := by
  rw [Lib.join_cons, Lib.join_cons]; simp [Lib.joinTail]
theorem join_cuts (c : UInt8) : ∀ (n : Nat) (l : List UInt8), l.length ≤ n → Lib.join (cuts c l) [c] = l := by
  intro n
  induction n with
  | zero => intro l h; have : l = [] := List.eq_nil_of_length_eq_zero (by omega); subst this; rfl
  | succ n ih =>
    intro l h
    by_cases hm : c ∈ l
    · rw [cuts_mem hm]
      have h2 := ih (tailB c l) (by have := tailB_length_le c l; omega)
      rcases hc : cuts c (tailB c l) with _ | ⟨y, r⟩
      · exact absurd hc (cuts_ne _ _)
      · rw [hc] at h2
        rw [join_two, h2]
        exact (head_tail_mem hm).symm
    · rw [cuts_not_mem hm, Lib.join_one]
theorem cuts_join {c : UInt8} : ∀ (l : List (List UInt8)), l ≠ [] → (∀ x ∈ l, c ∉ x) → cuts c (Lib.join l [c]) = l
  | [], h, _ => absurd rfl h
  | [x], _, h => by rw [Lib.join_one]; exact cuts_not_mem (h x (by simp))
  | x :: y :: r, _, h => by
    rw [join_two, cuts_app _ (h x (by simp)), cuts_join (y :: r) (by simp) (fun z hz => h z (by simp [hz]))]

/-! Numbers -/
theorem parse_digits : ∀ (n : Nat), n < 18446744073709551616 → ∀ s, Lib.parseUint10 0 (Lib.decDigits n ++ s) = Lib.parseUint10 n s := by
  intro n
  induction n using Nat.strongRecOn with
  | ind n ih =>
    intro hn s
    rw [Lib.decDigits]
    split
    · rename_i h
      obtain ⟨_, he⟩ := dig_byte h
      rw [List.singleton_append, Lib.parseUint10, if_pos (by omega), if_neg (by omega), if_neg (by omega), he]
      congr 1; omega
    · rename_i h
      obtain ⟨_, he⟩ := dig_byte (Nat.mod_lt n (by decide : 0 < 10))
      rw [List.append_assoc, ih (n / 10) (by omega) (by omega), List.singleton_append, Lib.parseUint10, if_pos (by omega), if_neg (by omega), if_neg (by omega), he]
      congr 1; omega
theorem dec_ne (n : Nat) : Lib.decDigits n ≠ [] := by rw [Lib.decDigits]; split <;> simp
theorem parseMag_dec {n : Nat} (h : n < 18446744073709551616) : Lib.parseMag (Lib.decDigits n) = .ok n := by
  unfold Lib.parseMag
  rw [if_neg (dec_ne n)]
  have := parse_digits n h []
  rw [List.append_nil] at this
  rw [this]; rfl
/-- Each byte of a number's text is a digit. -/
theorem dec_each (n : Nat) : ∀ c ∈ Lib.decDigits n, 48 ≤ c.toNat ∧ c.toNat ≤ 57 := by
  induction n using Nat.strongRecOn with
  | ind n ih =>
    intro c hc
    rw [Lib.decDigits] at hc
    split at hc
    · rename_i h
      rw [List.mem_singleton] at hc; subst hc
      have := (dig_byte h).2; omega
    · rename_i h
      simp only [List.mem_append, List.mem_singleton] at hc
      rcases hc with hc | rfl
      · exact ih (n / 10) (by omega) c hc
      · have := (dig_byte (Nat.mod_lt n (by decide : 0 < 10))).2
        have := Nat.mod_lt n (by decide : 0 < 10)
        omega
theorem itoa_each (z : Int) : ∀ c ∈ Lib.itoa z, c.toNat = 45 ∨ (48 ≤ c.toNat ∧ c.toNat ≤ 57) := by
  intro c hc
  unfold Lib.itoa at hc
  split at hc
  · rcases List.mem_cons.1 hc with rfl | hc
    · exact .inl rfl
    · exact .inr (dec_each _ c hc)
  · exact .inr (dec_each _ c hc)
def fit64 (z : Int) : Prop := -9223372036854775808 ≤ z ∧ z ≤ 9223372036854775807
theorem atoi_itoa {z : Int} (h : fit64 z) : Lib.atoiAll (Lib.itoa z) = .ok z := by
  obtain ⟨h1, h2⟩ := h
  unfold Lib.itoa
  split
  · rw [Lib.atoiAll_minus, parseMag_dec (by omega), Lib.signed, if_neg (by omega)]
    congr 1; omega
  · rcases hd : Lib.decDigits z.toNat with _ | ⟨c, r⟩
    · exact absurd hd (dec_ne _)
    · have hc := dec_each z.toNat c (by rw [hd]; simp)
      rw [Lib.atoiAll_plain c r (by omega) (by omega), ← hd, parseMag_dec (by omega), Lib.signless, if_neg (by omega)]
      congr 1; omega
theorem itoa_inj {a b : Int} (ha : fit64 a) (hb : fit64 b) (h : Lib.itoa a = Lib.itoa b) : a = b := by
  have h1 := atoi_itoa ha
  rw [h, atoi_itoa hb] at h1
  injection h1 with h1; exact h1.symm
theorem itoa_ne (z : Int) : Lib.itoa z ≠ [] := by
  unfold Lib.itoa; split
  · simp
  · exact dec_ne _

/-! No tab and no line feed stands in a field -/
def Seen (l : List UInt8) : Prop := ∀ c ∈ l, 33 ≤ c.toNat ∧ c.toNat ≤ 126
theorem Seen.tab {l : List UInt8} (h : Seen l) : (9 : UInt8) ∉ l := fun hm => absurd (h 9 hm).1 (by decide)
theorem Seen.feed {l : List UInt8} (h : Seen l) : (10 : UInt8) ∉ l := fun hm => absurd (h 10 hm).1 (by decide)
theorem Seen.append {a b : List UInt8} (h : Seen a) (k : Seen b) : Seen (a ++ b) := fun c hc => by
  rcases List.mem_append.1 hc with hc | hc
  · exact h c hc
  · exact k c hc
theorem Seen.nil : Seen [] := fun _ h => by cases h
theorem allIn_seen {l : List UInt8} (h : allIn 33 126 l = true) : Seen l := fun c hc => by
  have := List.all_eq_true.1 h c hc
  simpa [inB] using this
theorem name_seen {l : List UInt8} (h : nameB l = true) : Seen l := by
  simp only [nameB, Bool.and_eq_true] at h
  exact allIn_seen h.2.2.1
theorem name_ne {l : List UInt8} (h : nameB l = true) : l ≠ [] := by
  simp only [nameB, Bool.and_eq_true, decide_eq_true_eq] at h
  exact h.1
theorem name_short {l : List UInt8} (h : nameB l = true) : l.length ≤ 64 := by
  simp only [nameB, Bool.and_eq_true, decide_eq_true_eq] at h
  exact h.2.1
theorem name_head {l : List UInt8} (h : nameB l = true) : l.head? ≠ some 64 := by
  simp only [nameB, headOkB, Bool.and_eq_true, decide_eq_true_eq] at h
  exact h.2.2.2.1
theorem bases_seen {l : List UInt8} (h : basesB l = true) : Seen l := by
  simp only [basesB, letsB, Bool.and_eq_true, List.all_eq_true] at h
  intro c hc
  have := h.2.2 c hc
  simp [isLetB] at this
  omega
theorem itoa_seen (z : Int) : Seen (Lib.itoa z) := fun c hc => by have := itoa_each z c hc; omega
theorem op_seen {c : UInt8} (h : isOpB c = true) : 33 ≤ c.toNat ∧ c.toNat ≤ 126 := by
  simp [isOpB, isColB] at h
  rcases h with (h | h | h) | h <;> (subst h; decide)
theorem textB_seen : ∀ (l : List Rn), (∀ r ∈ l, isOpB r.1 = true) → Seen (textB l)
  | [], _ => Seen.nil
  | r :: l, h => by
    have e : textB (r :: l) = Lib.decDigits r.2.toNat ++ ([r.1] ++ textB l) := by simp [textB]
    rw [e]
    refine Seen.append (fun c hc => by have := dec_each _ c hc; omega) (Seen.append (fun c hc => ?_) (textB_seen l (fun x hx => h x (by simp [hx]))))
    simp at hc; subst hc
    exact op_seen (h r (by simp))
theorem textA_seen {l : List Rn} (h : rightB l = true) : Seen (textA l).1 := by
  rw [textA, if_pos h]
  by_cases h0 : l = []
  · subst h0; intro c hc; simp at hc; subst hc; decide
  · simp only [if_neg h0]
    exact textB_seen l (fun r hr => (right_each h r hr).1)
theorem seen_lit (l : List UInt8) (h : (l.all fun c => decide (33 ≤ c.toNat) && decide (c.toNat ≤ 126)) = true) : Seen l := fun c hc => by
  have := List.all_eq_true.1 h c hc
  simpa using this

/-! Right records -/
structure ReadOk (r : Rec) : Prop where
  name : nameB r.name = true
  bases : basesB r.bases = true
  long : r.quals.length = r.bases.length
  quals : signsB r.quals = true
structure MapOk (r : Rec) : Prop where
  ref : nameB r.ref = true
  pos : 1 ≤ r.pos
  runs : rightB r.runs = true
  all : readB r.runs = (r.bases.length : Int)
  ends : r.pos - 1 + refB r.runs ≤ 65536
theorem rightR_read {r : Rec} (h : rightR r = true) : ReadOk r := by
  simp only [rightR, readOkB, Bool.and_eq_true, decide_eq_true_eq] at h
  exact ⟨h.1.1, h.1.2.1, h.1.2.2.1, h.1.2.2.2⟩
theorem rightR_map {r : Rec} (h : rightR r = true) (hm : r.mapped = true) : MapOk r := by
  simp only [rightR, placeOkB, hm, if_true, Bool.and_eq_true, decide_eq_true_eq] at h
  exact ⟨h.2.1, h.2.2.1, h.2.2.2.1, h.2.2.2.2.1, h.2.2.2.2.2⟩
theorem rightR_plain {r : Rec} (h : rightR r = true) (hm : r.mapped = false) : r = mkPlain r.name r.bases r.quals := by
  obtain ⟨n, m, rf, p, rs, b, q, s⟩ := r
  simp only at hm
  subst hm
  simp [rightR, placeOkB] at h
  obtain ⟨_, rfl, rfl, rfl, rfl⟩ := h
  rfl
theorem refB_nonneg {l : List Rn} (h : ∀ r ∈ l, 1 ≤ r.2) : 0 ≤ refB l := by
  have : ∀ (l : List Rn) (a : Int), (∀ r ∈ l, 1 ≤ r.2) → a ≤ l.foldl (fun x r => if r.1 = 77 ∨ r.1 = 68 then x + r.2 else x) a := by
    intro l
    induction l with
    | nil => intro a _; exact Int.le_refl _
    | cons r l ih =>
      intro a h
      simp only [List.foldl_cons]
      have h1 := h r (by simp)
      have h2 := ih (if r.1 = 77 ∨ r.1 = 68 then a + r.2 else a) (fun x hx => h x (by simp [hx]))
      have h3 : a ≤ (if r.1 = 77 ∨ r.1 = 68 then a + r.2 else a) := by split <;> omega
      omega
  exact this l 0 h
theorem right_ref {l : List Rn} (h : rightB l = true) : 0 ≤ refB l := refB_nonneg fun r hr => (right_each h r hr).2.1
theorem MapOk.pos_le {r : Rec} (h : MapOk r) : r.pos ≤ 65537 := by have := right_ref h.runs; have := h.ends; omega
theorem MapOk.pos_fit {r : Rec} (h : MapOk r) : fit64 r.pos := ⟨by have := h.pos; omega, by have := h.pos_le; omega⟩

theorem right_fields_seen {r : Rec} (h : rightR r = true) : ∀ x ∈ fieldsF r, Seen x := by
  have h1 := rightR_read h
  have hq : Seen r.quals := allIn_seen h1.quals
  have hn := name_seen h1.name
  have hb := bases_seen h1.bases
  have star : Seen [42] := seen_lit _ (by decide)
  have nought : Seen [48] := seen_lit _ (by decide)
  have four : Seen [52] := seen_lit _ (by decide)
  cases hm : r.mapped with
  | false =>
    have e : fieldsF r = [r.name, [52], [42], [48], [48], [42], [42], [48], [48], r.bases, r.quals] := by simp [fieldsF, elevenF, hm, flagF, refF, posF, qualF, runsF]
    rw [e]
    simp only [List.forall_mem_cons]
    exact ⟨hn, four, star, nought, nought, star, star, nought, nought, hb, hq, fun _ h => by cases h⟩
  | true =>
    have h2 := rightR_map h hm
    have e : fieldsF r = [r.name, [48], r.ref, Lib.itoa r.pos, [50, 53, 53], (textA r.runs).1, [42], [48], [48], r.bases, r.quals, scoreT r.score] := by simp [fieldsF, elevenF, hm, flagF, refF, posF, qualF, runsF]
    rw [e]
    simp only [List.forall_mem_cons]
    exact ⟨hn, nought, name_seen h2.ref, itoa_seen _, seen_lit _ (by decide), textA_seen h2.runs, star, nought, nought, hb, hq, Seen.append (seen_lit _ (by decide)) (itoa_seen _), fun _ h => by cases h⟩
theorem fieldsF_ne (r : Rec) : fieldsF r ≠ [] := by unfold fieldsF elevenF; split <;> simp
theorem cuts_line {r : Rec} (h : rightR r = true) : cuts 9 (lineR r) = fieldsF r :=
  cuts_join _ (fieldsF_ne r) fun x hx => (right_fields_seen h x hx).tab
theorem line_of_cuts {r : Rec} {l : List UInt8} (h : cuts 9 l = fieldsF r) : lineR r = l := by
  unfold lineR tabs
  rw [← h]
  exact join_cuts 9 _ l (Nat.le_refl _)
theorem join_feed : ∀ (l : List (List UInt8)), (∀ x ∈ l, Seen x) → (10 : UInt8) ∉ Lib.join l [9]
  | [], _ => by simp [Lib.join_nil]
  | [x], h => by rw [Lib.join_one]; exact (h x (by simp)).feed
  | x :: y :: r, h => by
    rw [join_two]
    intro hm
    rcases List.mem_append.1 hm with hm | hm
    · exact (h x (by simp)).feed hm
    · rcases List.mem_cons.1 hm with hm | hm
      · exact absurd hm (by decide)
      · exact join_feed (y :: r) (fun z hz => h z (by simp [hz])) hm
theorem line_feed {r : Rec} (h : rightR r = true) : (10 : UInt8) ∉ lineR r := join_feed _ (right_fields_seen h)

/-- What sam's read makes of fields. -/
def readS (n rf p rs b q s : List UInt8) : Option Rec :=
  if s = [] then some (mkPlain n b q)
  else match Lib.atoiAll p with
    | .ok z => match Lib.atoiAll (Lib.trimPrefix s [65, 83, 58, 105, 58]) with
      | .ok y => if (parseA rs).2 = 0 then some ⟨n, true, rf, z, (parseA rs).1, b, q, y⟩ else none
      | _ => none
    | _ => none
theorem trim_mark (l : List UInt8) : Lib.trimPrefix ([65, 83, 58, 105, 58] ++ l) [65, 83, 58, 105, 58] = l := by
  simp [Lib.trimPrefix, Lib.hasPrefix]
theorem scoreT_ne (z : Int) : scoreT z ≠ [] := by simp [scoreT]
/-- What a right record's fields are read as. -/
theorem readS_back {r : Rec} (h : rightR r = true) (hs : fit64 r.score) : readS r.name (refF r) (posF r) (runsF r) r.bases r.quals (scoreF r) = some r := by
  cases hm : r.mapped with
  | false =>
    rw [readS, if_pos (by simp [scoreF, hm])]
    rw [← rightR_plain h hm]
  | true =>
    have h2 := rightR_map h hm
    rw [readS, if_neg (by simp [scoreF, hm, scoreT_ne])]
    simp only [posF, hm, if_true, scoreF, scoreT, runsF, refF]
    rw [atoi_itoa h2.pos_fit, trim_mark, atoi_itoa hs, (text_back h2.runs).2]
    simp only [if_true]
    rw [← hm]
/-- What the document's Record makes of fields. -/
def readNumGo (neg : Bool) (n : Int) : List UInt8 → Int
  | [] => n
  | c :: r => if isDig c then readNumGo neg (IntKind.i64.wrap (if neg then IntKind.i64.wrap (10 * n) - ((c.toNat : Int) - 48) else IntKind.i64.wrap (10 * n) + ((c.toNat : Int) - 48))) r else readNumGo neg n r
def readNum (l : List UInt8) : Int := readNumGo (decide (l.head? = some 45)) 0 l
theorem wrap_fit {z : Int} (h : fit64 z) : IntKind.i64.wrap z = z := by
  unfold fit64 at h
  have e : IntKind.i64.wrap z = if z % 18446744073709551616 ≥ 9223372036854775808 then z % 18446744073709551616 - 18446744073709551616 else z % 18446744073709551616 := by
    simp [IntKind.wrap, IntKind.bits, IntKind.signed]
  rw [e]; split <;> omega
theorem readNum_dec (neg : Bool) : ∀ (n : Nat), n ≤ 9223372036854775808 → (neg = false → n < 9223372036854775808) → ∀ s, readNumGo neg 0 (Lib.decDigits n ++ s) = readNumGo neg (if neg then -(n : Int) else (n : Int)) s := by
  intro n
  induction n using Nat.strongRecOn with
  | ind n ih =>
    intro hn hg s
    rw [Lib.decDigits]
    split
    · rename_i h
      obtain ⟨hd, he⟩ := dig_byte h
      rw [List.singleton_append, readNumGo, if_pos hd, he]
      cases neg
      · simp only [Bool.false_eq_true, if_false]
        rw [wrap_fit (z := 10 * 0) (by unfold fit64; omega), wrap_fit (by unfold fit64; omega)]
        congr 1; omega
      · simp only [if_true]
        rw [wrap_fit (z := 10 * 0) (by unfold fit64; omega), wrap_fit (by unfold fit64; omega)]
        congr 1; omega
    · rename_i h
      obtain ⟨hd, he⟩ := dig_byte (Nat.mod_lt n (by decide : 0 < 10))
      rw [List.append_assoc, ih (n / 10) (by omega) (by omega) (fun e => by have := hg e; omega), List.singleton_append, readNumGo, if_pos hd, he]
      cases neg
      · have := hg rfl
        simp only [Bool.false_eq_true, if_false]
        rw [wrap_fit (z := 10 * ((n / 10 : Nat) : Int)) (by unfold fit64; omega), wrap_fit (by unfold fit64; omega)]
        congr 1; omega
      · simp only [if_true]
        rw [wrap_fit (z := 10 * -((n / 10 : Nat) : Int)) (by unfold fit64; omega), wrap_fit (by unfold fit64; omega)]
        congr 1; omega
theorem readNum_itoa {z : Int} (h : fit64 z) : readNum (Lib.itoa z) = z := by
  obtain ⟨h1, h2⟩ := h
  unfold readNum Lib.itoa
  split
  · rw [show (decide ((45 :: Lib.decDigits z.natAbs).head? = some 45)) = true from rfl, readNumGo, if_neg (by decide)]
    have := readNum_dec true z.natAbs (by omega) (by simp) []
    rw [List.append_nil] at this
    rw [this]
    simp only [if_true, readNumGo]
    omega
  · rcases hd : Lib.decDigits z.toNat with _ | ⟨c, r⟩
    · exact absurd hd (dec_ne _)
    · have hc := dec_each z.toNat c (by rw [hd]; simp)
      have h45 : decide ((c :: r).head? = some 45) = false := by
        simp only [List.head?_cons, Option.some.injEq, decide_eq_false_iff_not]
        rintro rfl; revert hc; decide
      rw [h45, ← hd]
      have := readNum_dec false z.toNat (by omega) (fun _ => by omega) []
      rw [List.append_nil] at this
      rw [this]
      simp only [Bool.false_eq_true, if_false, readNumGo]
      omega

/-! One line, one record -/
/-- The record that fields may be of. -/
def candR (ls : List (List UInt8)) : Rec :=
  if ls.length = 12 ∧ 5 < (ls.getD 11 []).length then ⟨ls.getD 0 [], true, ls.getD 2 [], readNum (ls.getD 3 []), (parseA (ls.getD 5 [])).1, ls.getD 9 [], ls.getD 10 [], readNum ((ls.getD 11 []).drop 5)⟩
  else mkPlain (ls.getD 0 []) (ls.getD 9 []) (ls.getD 10 [])
theorem candR_of {l : List UInt8} {q : Rec} (h1 : rightR q = true) (h2 : fit64 q.score) (h3 : lineR q = l) : candR (cuts 9 l) = q := by
  rw [← h3, cuts_line h1]
  cases hm : q.mapped with
  | false =>
    have e := rightR_plain h1 hm
    unfold candR fieldsF
    rw [hm]
    simp only [Bool.false_eq_true, if_false]
    rw [if_neg (by simp [elevenF])]
    exact e.symm
  | true =>
    have h4 := rightR_map h1 hm
    have e : fieldsF q = [q.name, [48], q.ref, Lib.itoa q.pos, [50, 53, 53], (textA q.runs).1, [42], [48], [48], q.bases, q.quals, scoreT q.score] := by simp [fieldsF, elevenF, hm, flagF, refF, posF, qualF, runsF]
    have hl : 5 < (scoreT q.score).length := by
      have := List.length_pos_iff.2 (itoa_ne q.score)
      simp [scoreT]; omega
    rw [e]
    unfold candR
    rw [if_pos ⟨rfl, hl⟩]
    show (⟨q.name, true, q.ref, readNum (Lib.itoa q.pos), (parseA (textA q.runs).1).1, q.bases, q.quals, readNum ((scoreT q.score).drop 5)⟩ : Rec) = q
    have hd : (scoreT q.score).drop 5 = Lib.itoa q.score := by simp [scoreT]
    rw [hd, readNum_itoa h4.pos_fit, readNum_itoa h2, (text_back h4.runs).2]
    cases q
    simp only at hm
    subst hm
    rfl
/-- The right record whose line it is. -/
def recB (l : List UInt8) : Option Rec :=
  if rightR (candR (cuts 9 l)) && (decide (lineR (candR (cuts 9 l)) = l) && (decide (-9223372036854775808 ≤ (candR (cuts 9 l)).score) && decide ((candR (cuts 9 l)).score ≤ 9223372036854775807))) then some (candR (cuts 9 l)) else none
theorem line_inj {r q : Rec} (hr : rightR r = true) (hq : rightR q = true) (sr : fit64 r.score) (sq : fit64 q.score) (h : lineR r = lineR q) : r = q := by
  have e : fieldsF r = fieldsF q := by rw [← cuts_line hr, h, cuts_line hq]
  have hm : r.mapped = q.mapped := by
    have := congrArg List.length e
    cases h1 : r.mapped <;> cases h2 : q.mapped <;> simp [fieldsF, elevenF, h1, h2] at this <;> rfl
  have h1 := readS_back hr sr
  have h2 := readS_back hq sq
  have e2 : elevenF r = elevenF q ∧ scoreF r = scoreF q := by
    cases hc : r.mapped
    · rw [fieldsF, fieldsF, ← hm, hc] at e
      simp only [Bool.false_eq_true, if_false] at e
      exact ⟨e, by simp [scoreF, ← hm, hc]⟩
    · rw [fieldsF, fieldsF, ← hm, hc] at e
      simp only [if_true] at e
      have := List.append_inj' e rfl
      exact ⟨this.1, by simpa [scoreF, ← hm, hc] using this.2⟩
  obtain ⟨e3, e4⟩ := e2
  simp only [elevenF, List.cons.injEq] at e3
  obtain ⟨a1, a2, a3, a4, a5, a6, _, _, _, a10, a11, _⟩ := e3
  rw [a1, a3, a4, a6, a10, a11, e4, h2] at h1
  injection h1 with h1; exact h1.symm
theorem recB_some {r : Rec} (h : rightR r = true) (hs : fit64 r.score) : recB (lineR r) = some r := by
  have e := candR_of h hs rfl
  have h2 := hs
  unfold fit64 at h2
  rw [recB, e, if_pos (by simp [h, h2.1, h2.2])]
theorem recB_of {r : Rec} {l : List UInt8} (h : rightR r = true) (hs : fit64 r.score) (hl : lineR r = l) : recB l = some r := by rw [← hl]; exact recB_some h hs
theorem recB_spec {r : Rec} {l : List UInt8} (h : recB l = some r) : rightR r = true ∧ fit64 r.score ∧ lineR r = l := by
  unfold recB at h
  split at h
  · rename_i hex
    cases h
    simp only [Bool.and_eq_true, decide_eq_true_eq] at hex
    exact ⟨hex.1, ⟨hex.2.2.1, hex.2.2.2⟩, hex.2.1⟩
  · cases h
theorem recB_none {l : List UInt8} (h : ∀ r, rightR r = true → fit64 r.score → lineR r = l → False) : recB l = none := by
  cases hr : recB l with
  | none => rfl
  | some r => have := recB_spec hr; exact absurd this.2.2 (fun e => h r this.1 this.2.1 e)
/-- By the fields, as sam reads them. -/
theorem recB_fields {l : List UInt8} {r : Rec} (h : recB l = some r) : cuts 9 l = fieldsF r ∧ readS r.name (refF r) (posF r) (runsF r) r.bases r.quals (scoreF r) = some r := by
  obtain ⟨h1, h2, h3⟩ := recB_spec h
  exact ⟨by rw [← h3]; exact cuts_line h1, readS_back h1 h2⟩
end Go.Proofs.YtdhphipdpjhhbaaGreatDoor
