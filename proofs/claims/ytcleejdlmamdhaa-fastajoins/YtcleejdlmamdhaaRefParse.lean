/-
  The walks of the document's own begins and Parse.
-/
import Derived.Test.YtcleejdlmamdhaaParse
import Derived.Test.YtcleejdlmamdhaaLines
namespace Go.Proofs.Ytcleejdlmamdhaa
open Go.RowKit

/-- A row of sequences that stands for a state. -/
def RowIs (B : Nat) (v : Value) (qs : List Sq) (st : List Pq) (w : World) : Prop :=
  w.ownsRow B 29 3 v qs.length (rowCells qs) ∧ qs.map Sq.P = st.reverse
def BeginsPost (B : Nat) (v : Value) (o : Option (List Pq)) (w : World) (e : Ending) (w' : World) : Prop :=
  Below B w w' ∧ match o with
    | none => e = .returned (.tuple #[v, .bool false])
    | some st => ∃ v' qs, e = .returned (.tuple #[v', .bool true]) ∧ RowIs B v' qs st w'

theorem beginB_none {st : List Pq} {t : List UInt8} (hh : titleOkB t = false ∨ namedB st (headB 32 t) = true ∨ 64 ≤ st.length ∨ openB st = true) : beginB st t = none := by
  unfold beginB
  rw [if_neg]
  intro hc
  simp only [Bool.and_eq_true, decide_eq_true_eq, Bool.not_eq_true'] at hc
  rcases hh with h | h | h | h
  · rw [h] at hc; exact absurd hc.1 (by decide)
  · rw [h] at hc; exact absurd hc.2.1 (by decide)
  · omega
  · rw [h] at hc; exact absurd hc.2.2.2 (by decide)
theorem beginB_some {st : List Pq} {t : List UInt8} (h1 : titleOkB t = true) (h2 : namedB st (headB 32 t) = false) (h3 : st.length < 64) (h4 : openB st = false) : beginB st t = some ((headB 32 t, tailB 32 t, []) :: st) := by
  unfold beginB
  rw [if_pos (by simp [h1, h2, h3, h4])]
/-- The last of some sequences. -/
theorem last_cell {B : Nat} {ao : Option Addr} {n cap : Nat} {qs : List Sq} {q : Pq} {t : List Pq} {w : World} (h : RowIs B (.slice ao n cap) qs (q :: t) w) :
    ∃ g m q0 qs0, ao = some ⟨g, 0, none⟩ ∧ n = m + 1 ∧ qs = qs0 ++ [q0] ∧ qs0.length = m ∧ qs0.map Sq.P = t.reverse ∧ q0.P = q ∧ B ≤ g ∧ w.cell? ⟨g, m * 3 + 2, none⟩ = some (.string q0.2.2) ∧ w.frozen? ⟨g, m * 3 + 2, none⟩ = false := by
  obtain ⟨ho, hm⟩ := h
  obtain ⟨ao', cap', e⟩ := owned_shape ho
  cases e
  rcases List.eq_nil_or_concat qs with rfl | ⟨qs0, q0, rfl⟩
  · simp at hm
  · rw [List.reverse_cons] at hm
    simp only [List.concat_eq_append, List.map_append, List.map_cons, List.map_nil] at hm
    have h2 := List.append_inj' hm rfl
    obtain ⟨h3, h4⟩ := h2
    obtain ⟨g, rfl⟩ : ∃ g, ao = some ⟨g, 0, none⟩ := by
      rcases ho.2 with ⟨hv, hz⟩ | ⟨g, cap', cur, hv, _⟩
      · simp at hz
      · cases hv; exact ⟨g, rfl⟩
    have hc := owned_cells ho (qs0.length * 3 + 2) (.string q0.2.2) (rowCells_get _ qs0.length q0 (by simp)).2.2
    exact ⟨g, qs0.length, q0, qs0, rfl, by simp, by simp, rfl, h3, by simpa using h4, (ho.lt g rfl).1, hc.1, hc.2⟩

set_option maxHeartbeats 4000000 in
theorem begins_calls (B : Nat) (ao : Option Addr) (n cap : Nat) (qs : List Sq) (st : List Pq) (s : ByteArray) (w : World) (h : RowIs B (.slice ao n cap) qs st w) (hB : B ≤ w.heap.size) (hn : n ≤ 64) (hs : s.size ≤ 1048576) (h0 : 0 < s.size) :
    Calls Try.prog 23 #[.slice ao n cap, .string s] w fun e w' => BeginsPost B (.slice ao n cap) (beginB st (s.data.toList.drop 1)) w e w' := by
  have hex : (s.extract 1 s.size).data.toList = s.data.toList.drop 1 := by
    rw [extract_list, List.take_of_length_le (by simp)]
  have hlen : qs.length = n := by
    obtain ⟨ao', cap', e⟩ := owned_shape h.1; cases e; rfl
  have hstl : st.length = n := by
    have := congrArg List.length h.2; simp at this; omega
  have HTi : Hid (∀ w, Calls Try.prog 37 #[.string (s.extract 1 s.size)] w fun e w' => TitleRefPost (s.extract 1 s.size) w e w') := fun w => refTitle_calls _ w (by rw [← size_toList, hex]; simp; unfold maxLen; omega)
  have HH : Hid (RowIs B (.slice ao n cap) qs st w) := h
  rw [← hex]
  have hxs : (s.extract 1 s.size).size ≤ 1048576 := by rw [← size_toList, hex]; simp; omega
  generalize htx : s.extract 1 s.size = tx at *
  clear hex h
  go_enter Try.func23, Try.ntmps23
  go_wp2_with fail
  clear htx
  refine (HTi.out _).mono ?_
  rintro e w1 ⟨a, c, rfl, ha, hc, rfl⟩
  have HNa : Hid (Calls Try.prog 31 #[.slice ao n cap, .string a] w1 fun e w' => e = .returned (.bool (namedB st (headB 32 tx.data.toList))) ∧ Below w1.heap.size w1 w') := by
    have ho := HH.out.1
    rw [hlen] at ho
    have := refNamed_calls ao n cap qs a w1 (owned_sqs ho)
    rw [named_rev HH.out.2, ha] at this
    exact this
  have HAC : Hid (a.data.toList = headB 32 tx.data.toList ∧ c.data.toList = tailB 32 tx.data.toList) := ⟨ha, hc⟩
  clear ha hc HTi
  go_wp2_with fail
  refine HNa.out.mono ?_
  rintro e w2 ⟨rfl, hb2⟩
  have HB2 : Hid (Below B w1 w2) := hb2.mono hB
  have hB2 : B ≤ w2.heap.size := Nat.le_trans hB hb2.size
  have HR : Hid (RowIs B (.slice ao n cap) qs st w2) := ⟨owned_below HH.out.1 hb2, HH.out.2⟩
  clear HNa hb2 HH
  have HF : Hid (titleOkB tx.data.toList = false ∨ namedB st (headB 32 tx.data.toList) = true ∨ 64 ≤ n ∨ openB st = true → BeginsPost B (.slice ao n cap) (beginB st tx.data.toList) w1 (.returned (.tuple #[.slice ao n cap, .bool false])) w2) := by
    intro hh
    rw [beginB_none (by rw [hstl]; exact hh)]
    exact ⟨HB2.out, rfl⟩
  have HG : Hid (titleOkB tx.data.toList = true → namedB st (headB 32 tx.data.toList) = false → n < 64 → openB st = false → beginB st tx.data.toList = some ((headB 32 tx.data.toList, tailB 32 tx.data.toList, []) :: st)) := fun h1 h2 h3 h4 => beginB_some h1 h2 (by rw [hstl]; exact h3) h4
  clear hstl
  cases hok : titleOkB tx.data.toList with
  | false =>
    have HE : Hid (BeginsPost B (.slice ao n cap) (beginB st tx.data.toList) w1 (.returned (.tuple #[.slice ao n cap, .bool false])) w2) := HF.out (.inl hok)
    clear hok HF HG HR HAC HB2 hlen
    go_wp2
    go_ret2
    exact HE.out
  | true =>
    cases hnm : namedB st (headB 32 tx.data.toList) with
    | true =>
      have HE : Hid (BeginsPost B (.slice ao n cap) (beginB st tx.data.toList) w1 (.returned (.tuple #[.slice ao n cap, .bool false])) w2) := HF.out (.inr (.inl hnm))
      clear hok hnm HF HG HR HAC HB2 hlen
      go_wp2
      go_ret2
      exact HE.out
    | false =>
      by_cases h64 : 64 ≤ n
      · have HE : Hid (BeginsPost B (.slice ao n cap) (beginB st tx.data.toList) w1 (.returned (.tuple #[.slice ao n cap, .bool false])) w2) := HF.out (.inr (.inr (.inl h64)))
        have hd : decide ((64 : Int) ≤ n) = true := by simp; omega
        clear hok hnm HF HG HR HAC HB2 hlen
        go_wp2
        go_ret2
        exact HE.out
      · have hd : decide ((64 : Int) ≤ n) = false := by simp; omega
        cases hop : openB st with
        | true =>
          have HE : Hid (BeginsPost B (.slice ao n cap) (beginB st tx.data.toList) w1 (.returned (.tuple #[.slice ao n cap, .bool false])) w2) := HF.out (.inr (.inr (.inr hop)))
          cases st with
          | nil => cases hop
          | cons q t =>
            obtain ⟨g, m, q0, qs0, rfl, rfl, rfl, hm1, hm2, hm3, hm4, hcell, _⟩ := last_cell HR.out
            have hq : q0.2.2.toList = [] := by
              rw [toList_nil]
              have e1 : q.2.2 = [] := by simpa [openB] using hop
              rw [← hm3] at e1; exact e1
            have hdp : decide ((0 : Int) < ((m + 1 : Nat) : Int)) = true := decide_eq_true (by omega)
            clear hok hnm hop HF HG HR HAC HB2 hlen hm1 hm2 hm3 hm4
            go_wp2
            go_ret2
            exact HE.out
        | false =>
          have HY := HG.out hok hnm (by omega) hop
          have HY2 : Hid (beginB st tx.data.toList = some ((headB 32 tx.data.toList, tailB 32 tx.data.toList, []) :: st)) := HY
          have HQL : Hid (qs.length = n) := hlen
          have HO : Hid (w2.ownsRow B 29 3 (.slice ao n cap) n (rowCells qs)) := by
            have := HR.out.1; rw [hlen] at this; exact this
          have HE : Hid (∀ v' w3, w3.ownsRow B 29 3 v' (n + 1) (rowCells qs ++ [.string a, .string c, .string ⟨#[]⟩]) → ∀ o, (w2.alloc o).grownBy w3 (Value.slice ao n cap).ownBlock → BeginsPost B (.slice ao n cap) (beginB st tx.data.toList) w1 (.returned (.tuple #[v', .bool true])) w3) := by
            intro v' w3 ho o hg
            rw [HY2.out]
            refine ⟨(HB2.out.alloc hB2 o).grown hg (by simp; omega) (fun k hk => (HO.out.lt k hk).1), v', qs ++ [((a, c, ⟨#[]⟩) : Sq)], rfl, ?_, ?_⟩
            · rw [rowCells_snoc, List.length_append, HQL.out]; exact ho
            · rw [List.map_append, HR.out.2, List.reverse_cons, ← HAC.out.1, ← HAC.out.2]; rfl
          obtain ⟨i0, hi, hz0, hz1, hz2⟩ := info_parts info29
          by_cases hz : n = 0
          · subst hz
            have hdp : decide ((0 : Int) < ((0 : Nat) : Int)) = false := by simp
            clear hok hnm hop HF HG HR HAC HB2 hlen HY HY2 HQL
            go_wp2_with (at_builtin; go_loud (refine wpList_append_own _ rfl _ _ 23 rfl B 29 i0 _ 3 48 Try.underlying23 hi hz0 hz1 hz2 rfl (by decide) _ _ _ rfl (HO.out.alloc _) ⟨_, 0, none⟩ 1 1 [.string a, .string c, .string ⟨#[]⟩] rfl rfl (new_cells _ a c ⟨#[]⟩) (sq_oneCell (a, c, ⟨#[]⟩)) ?c3 ?c4 ?c5 ?_))
            case c3 => unfold maxLen; omega
            case c4 => omega
            case c5 => simp; omega
            intro v' w3 ho hg _
            have HZ := HE.out v' w3 ho _ hg
            have HZ2 : Hid (BeginsPost B (.slice ao 0 cap) (beginB st tx.data.toList) w1 (.returned (.tuple #[v', .bool true])) w3) := HZ
            clear HZ HE ho hg HO
            go_wp2
            go_ret2
            exact HZ2.out
          · cases st with
            | nil =>
              exfalso
              have := HR.out.2; simp at this; subst this; simp at hlen; omega
            | cons q t =>
              obtain ⟨g, m, q0, qs0, rfl, rfl, rfl, hm1, hm2, hm3, hm4, hcell, _⟩ := last_cell HR.out
              have hq : q0.2.2.toList.isEmpty = false := by
                have e1 : ¬ q.2.2 = [] := by simpa [openB] using hop
                cases hr : q0.2.2.toList with
                | nil => exfalso; apply e1; rw [← hm3]; exact toList_nil.1 hr
                | cons _ _ => rfl
              have hdp : decide ((0 : Int) < ((m + 1 : Nat) : Int)) = true := decide_eq_true (by omega)
              clear hok hnm hop HF HG HR HAC HB2 hlen HY HY2 HQL hm1 hm2 hm3 hm4
              go_wp2_with (at_builtin; go_loud (refine wpList_append_own _ rfl _ _ 23 rfl B 29 i0 _ 3 48 Try.underlying23 hi hz0 hz1 hz2 rfl (by decide) _ _ _ rfl (HO.out.alloc _) ⟨_, 0, none⟩ 1 1 [.string a, .string c, .string ⟨#[]⟩] rfl rfl (new_cells _ a c ⟨#[]⟩) (sq_oneCell (a, c, ⟨#[]⟩)) ?c3 ?c4 ?c5 ?_))
              case c3 => unfold maxLen; omega
              case c4 => omega
              case c5 => simp; omega
              intro v' w3 ho hg _
              have HZ := HE.out v' w3 ho _ hg
              have HZ2 : Hid (BeginsPost B (.slice (some ⟨g, 0, none⟩) (m + 1) cap) (beginB (q :: t) tx.data.toList) w1 (.returned (.tuple #[v', .bool true])) w3) := HZ
              clear HZ HE ho hg HO
              go_wp2
              go_ret2
              exact HZ2.out

theorem owned_base {w : World} {B B' : Nat} {e : TypeId} {size : Nat} {v : Value} {n : Nat} {xs : List Value} (h : w.ownsRow B e size v n xs) (hB : B' ≤ B) : w.ownsRow B' e size v n xs := by
  refine ⟨h.1, ?_⟩
  rcases h.2 with hn | ⟨g, cap, cur, hv, hb, rest⟩
  · exact .inl hn
  · exact .inr ⟨g, cap, cur, hv, Nat.le_trans hB hb, rest⟩
theorem linesGo_each (t : List UInt8) : ∀ cur l, l ∈ linesGo cur t → l.length ≤ cur.length + t.length := by
  induction t with
  | nil =>
    intro cur l hl
    unfold linesGo at hl
    split at hl
    · simp at hl
    · simp at hl; subst hl; have := trimB_length_le cur; simp; omega
  | cons c r ih =>
    intro cur l hl
    have hl' : l ∈ (if c = 10 then trimB cur :: linesGo [] r else linesGo (cur ++ [c]) r) := hl
    split at hl'
    · rcases List.mem_cons.1 hl' with rfl | h
      · have := trimB_length_le cur; simp; omega
      · have := ih [] l h; simp at this ⊢; omega
    · have := ih _ l hl'; simp at this ⊢; omega
theorem addB_nil (l : List UInt8) : addB [] l = none := rfl
theorem addB_bad {q : Pq} {t : List Pq} {l : List UInt8} (h : letN l < l.length ∨ 65536 < q.2.2.length + l.length) : addB (q :: t) l = none := by
  simp only [addB]
  rw [if_neg]
  intro hc
  simp only [Bool.and_eq_true, decide_eq_true_eq] at hc
  rcases h with h | h
  · have := (letN_all l).2 hc.1; omega
  · omega
theorem addB_good {q : Pq} {t : List Pq} {l : List UInt8} (h1 : ¬ letN l < l.length) (h2 : q.2.2.length + l.length ≤ 65536) : addB (q :: t) l = some ((q.1, q.2.1, q.2.2 ++ l) :: t) := by
  simp only [addB]
  rw [if_pos]
  have := letN_le l
  simp only [Bool.and_eq_true, decide_eq_true_eq]
  exact ⟨(letN_all l).1 (by omega), h2⟩
theorem stepB_begin {x : ByteArray} (st : List Pq) (h0 : 0 < x.size) (h : (x[0].toNat : Int) = 62) : stepB st x.data.toList = beginB st (x.data.toList.drop 1) := by
  have hcons : x.data.toList = x[0] :: x.data.toList.drop 1 := by have := drop_cons x 0 h0; simpa using this
  rw [hcons]; simp only [stepB]; rw [if_pos (show x[0] = 62 from byte_is (n := 62) h)]; simp
theorem stepB_add {x : ByteArray} (st : List Pq) (h0 : 0 < x.size) (h : ¬ (x[0].toNat : Int) = 62) : stepB st x.data.toList = addB st x.data.toList := by
  have hcons : x.data.toList = x[0] :: x.data.toList.drop 1 := by have := drop_cons x 0 h0; simpa using this
  rw [hcons]; simp only [stepB]; rw [if_neg (show ¬ x[0] = 62 from byte_ne (n := 62) (by decide) h)]
theorem RowIs.length {B : Nat} {ao : Option Addr} {n cap : Nat} {qs : List Sq} {st : List Pq} {w : World} (h : RowIs B (.slice ao n cap) qs st w) : qs.length = n ∧ st.length = n := by
  obtain ⟨ao', cap', e⟩ := owned_shape h.1
  cases e
  have := congrArg List.length h.2; simp at this
  exact ⟨rfl, this.symm⟩
theorem beginB_length {st st' : List Pq} {t : List UInt8} (h : beginB st t = some st') : st'.length ≤ 64 := by
  unfold beginB at h
  split at h
  · rename_i hc
    simp only [Bool.and_eq_true, decide_eq_true_eq] at hc
    cases h; simp; omega
  · cases h
theorem ba_append (a b : ByteArray) : (a ++ b).data.toList = a.data.toList ++ b.data.toList := by simp
end Go.Proofs.Ytcleejdlmamdhaa
