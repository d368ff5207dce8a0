/-
  The walks of the program's reader: a line's letters, a title's line, any line.
-/
import Derived.Test.YtcleejdlmamdhaaRead
namespace Go.Proofs.Ytcleejdlmamdhaa
open Go.RowKit

theorem info5 : (Try.prog.info? 5).map (fun i => (i.zero, i.size, i.bytes)) = some (some (.int .u8 0), 1, 1) := by kernel_rfl
theorem info29 : (Try.prog.info? 29).map (fun i => (i.zero, i.size, i.bytes)) = some (some (.agg #[.string ⟨#[]⟩, .string ⟨#[]⟩, .string ⟨#[]⟩]), 3, 48) := by kernel_rfl

/-- The reader stands at a state. -/
def Stands (B b : Nat) (rest line : ByteArray) (num : Nat) (st : List Pq) (w : World) : Prop :=
  ∃ sv qs bv bases, RAt B b rest line num sv qs bv bases w ∧ Link qs bases st ∧ bases.length ≤ 65536 ∧ st.length ≤ 64
def StepPost (B b : Nat) (rest line : ByteArray) (num : Nat) (o : Option (List Pq)) (w : World) (e : Ending) (w' : World) : Prop :=
  Below B w w' ∧ match o with
    | none => e = .returned (.bool false) ∧ ∃ sv qs bv bases, RAt B b rest line num sv qs bv bases w'
    | some st => e = .returned (.bool true) ∧ Stands B b rest line num st w'

theorem nonempty_last {q : Pq} {t : List Pq} {qs : List Sq} {bases : List UInt8} (h : Link qs bases (q :: t)) : 0 < qs.length := by
  rw [h.length]; simp

set_option maxHeartbeats 1000000 in
theorem add_calls (B b : Nat) (rest line : ByteArray) (num : Nat) (st : List Pq) (s : ByteArray) (w : World) (h : Stands B b rest line num st w) (hs : s.size ≤ 1048576) :
    Calls Try.prog 36 #[.pointer (some ⟨b, 0, none⟩), .string s] w fun e w' => StepPost B b rest line num (addB st s.data.toList) w e w' := by
  obtain ⟨sv, qs, bv, bases, hr, hlk, hbl, hsl⟩ := h
  have HR : Hid (RAt B b rest line num sv qs bv bases w) := hr
  have HK : Hid (Link qs bases st) := hlk
  have hc3 := hr.cell3
  have hc4 := hr.cell4
  obtain ⟨ao, cap, hsv⟩ := owned_shape hr.seqs
  obtain ⟨ao', cap', hbv⟩ := owned_shape hr.text
  have hql : qs.length = st.length := hlk.length
  cases st with
  | nil =>
    have hq : qs = [] := hlk.1
    have HB : Hid (StepPost B b rest line num (addB [] s.data.toList) w (.returned (.bool false)) w) := ⟨Below.refl _ _, rfl, sv, qs, bv, bases, hr⟩
    subst hq
    rw [hsv] at hc3
    simp only [List.length_nil] at hc3
    clear hr hlk hc4 HR HK hsv hbv hbl hsl hql
    go_enter Try.func36, Try.ntmps36
    go_wp2
    go_ret
    exact HB.out
  | cons q t =>
    have hn0 := nonempty_last hlk
    have hqb : bases = q.2.2 := by obtain ⟨_, _, _, _, _, _, e⟩ := hlk; exact e
    have HF : Hid (letsB s.data.toList = false ∨ 65536 < bases.length + s.size → StepPost B b rest line num (addB (q :: t) s.data.toList) w (.returned (.bool false)) w) := by
      intro hor
      have e : addB (q :: t) s.data.toList = none := by
        simp only [addB]
        rw [if_neg]
        intro hh
        simp only [Bool.and_eq_true, decide_eq_true_eq, size_toList] at hh
        rw [← hqb] at hh
        rcases hor with h | h
        · rw [h] at hh; exact absurd hh.1 (by decide)
        · omega
      rw [e]
      exact ⟨Below.refl _ _, rfl, sv, qs, bv, bases, hr⟩
    have HG : Hid (letsB s.data.toList = true → bases.length + s.size ≤ 65536 → ∀ bv' w', RAt B b rest line num sv qs bv' (bases ++ s.data.toList) w' → Below B w w' → StepPost B b rest line num (addB (q :: t) s.data.toList) w (.returned (.bool true)) w') := by
      intro h1 h2 bv' w' h3 h4
      have e : addB (q :: t) s.data.toList = some ((q.1, q.2.1, q.2.2 ++ s.data.toList) :: t) := by
        simp only [addB]
        rw [if_pos]
        simp only [Bool.and_eq_true, decide_eq_true_eq, size_toList]
        rw [← hqb]; exact ⟨h1, h2⟩
      rw [e]
      refine ⟨h4, rfl, sv, qs, bv', bases ++ s.data.toList, h3, ?_, by simpa [size_toList] using h2, hsl⟩
      obtain ⟨q0, qs0, e1, e2, e3, e4, e5⟩ := hlk
      exact ⟨q0, qs0, e1, e2, e3, e4, by rw [e5]⟩
    have HLT : Hid (∀ w, Calls Try.prog 52 #[.string s] w fun e w' => e = .returned (.bool (letsB s.data.toList)) ∧ w' = w) := fun w => areLetters_calls s w (by unfold maxLen; omega)
    subst hsv
    subst hbv
    have hf4 := hr.frozen 4
    have hBb := hr.base
    have hlt := hr.lt
    clear hr hlk hqb
    generalize hqn : qs.length = n at *
    generalize hbn : bases.length = m at *
    have HBN : Hid (bases.length = m) := hbn
    clear hqn hbn hql
    have hd0 : ((n : Int) == 0) = false := by simp; omega
    by_cases hbig : 65536 < m + s.size
    · have hdb : decide ((65536 : Int) < (m : Int) + (s.size : Int)) = true := by simp; omega
      have HE := HF.out (.inr hbig)
      have HE2 : Hid (StepPost B b rest line num (addB (q :: t) s.data.toList) w (.returned (.bool false)) w) := HE
      clear HE HF HG HR HK
      go_enter Try.func36, Try.ntmps36
      go_wp2
      go_ret
      exact HE2.out
    · have hdb : decide ((65536 : Int) < (m : Int) + (s.size : Int)) = false := by simp; omega
      cases hl : letsB s.data.toList with
      | false =>
        have HE2 : Hid (StepPost B b rest line num (addB (q :: t) s.data.toList) w (.returned (.bool false)) w) := HF.out (.inl hl)
        rw [hl] at HLT
        clear HF HG HR HK hl
        go_enter Try.func36, Try.ntmps36
        go_wp2_with (go_at_call 52; refine (HLT.out _).mono ?_; rintro e w' ⟨rfl, rfl⟩)
        go_ret
        exact HE2.out
      | true =>
        have HE2 : Hid (∀ bv' w', RAt B b rest line num (.slice ao n cap) qs bv' (bases ++ s.data.toList) w' → Below B w w' → StepPost B b rest line num (addB (q :: t) s.data.toList) w (.returned (.bool true)) w') := HG.out hl (by omega)
        rw [hl] at HLT
        clear HF HG HK hl
        obtain ⟨i0, hi, hz0, hz1, hz2⟩ := info_parts info5
        have HX : Hid (w.ownsRow B 5 1 (.slice ao' m cap') m (byteVals bases)) := by
          have := HR.out.text; rw [HBN.out] at this; exact this
        go_enter Try.func36, Try.ntmps36
        go_wp2_with (first
          | (go_at_call 52; refine (HLT.out _).mono ?_; rintro e w' ⟨rfl, rfl⟩)
          | (at_builtin; go_loud (refine Lib.wpList_append_own_string _ rfl _ _ 43 9 rfl B 5 i0 Try.underlying43 Try.underlying9 hi hz0 hz1 hz2 _ _ _ rfl HX.out s rfl ?c1 ?c2 ?c3 ?_)))
        case c1 => unfold maxLen; omega
        case c2 => omega
        case c3 => omega
        intro v' w2 hown' hgrow _
        obtain ⟨ao2, cap2, rfl⟩ := owned_shape hown'
        have hown2 : w2.ownsRow B 5 1 (.slice ao2 (m + s.size) cap2) (bases ++ s.data.toList).length (byteVals (bases ++ s.data.toList)) := by
          rw [byteVals_append, ← strCells_eq, List.length_append, HBN.out, size_toList]; exact hown'
        obtain ⟨k1, k2, k3⟩ := HR.out.append4 hgrow hown2
        have HZ : Hid (RAt B b rest line num (.slice ao n cap) qs (.slice ao2 (m + s.size) cap2) (bases ++ s.data.toList) (w2.setCell ⟨b, 4, none⟩ (.slice ao2 (m + s.size) cap2))) := k3
        have HZ2 : Hid (Below B w' (w2.setCell ⟨b, 4, none⟩ (.slice ao2 (m + s.size) cap2))) := ((Below.refl B w').grown hgrow (by omega) (fun k hk => (HX.out.lt k hk).1)).setCell (p := ⟨b, 4, none⟩) hBb _
        clear k3 hown2 hown' hgrow hc3 hc4 hf4 HX HR HLT
        go_wp2
        go_ret
        exact HE2.out _ _ HZ.out HZ2.out
end Go.Proofs.Ytcleejdlmamdhaa
