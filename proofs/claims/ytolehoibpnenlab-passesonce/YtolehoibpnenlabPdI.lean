/-
  Drop.
-/
import Derived.Test.YtolehoibpnenlabMx
import Derived.Test.YtolehoibpnenlabPdH
namespace Go.Proofs.Ytolehoibpnenlab
open Go.RowKit Go.Deep Go.Maps

theorem sok_edges {nd : Int} {l : List St} (h : SOk nd l) : ∀ s ∈ l, ∀ e ∈ s.2, -1 ≤ e.1 ∧ e.1 ≤ 100 := fun s hs e he => by
  have h1 := h.2 s hs
  simp only [stateB, Bool.and_eq_true] at h1
  have key : ∀ (es : List (Int × Int)) (least : Int), -1 ≤ least → edgesB l.length nd least es = true → ∀ e ∈ es, -1 ≤ e.1 ∧ e.1 ≤ 100 := by
    intro es
    induction es with
    | nil => intro _ _ _ e he; simp at he
    | cons a r ih =>
      intro least hl h2 e he
      simp only [edgesB, Bool.and_eq_true, inI_iff] at h2
      rcases List.mem_cons.1 he with rfl | he
      · have := h.1; omega
      · exact ih (a.1 + 1) (by omega) h2.2 e he
  exact key _ _ (by omega) h1.2 e he
/-- The work, and what is found. -/
structure DrW (w : World) (base wb : Nat) (x : Rc) (vs : List Int) (fg n fc : Nat) (l : List St) (wr : World) : Prop where
  wk : ∃ y, WkAt wr base wb { x with states := l } vs y
  low : Below base w wr
  row : wr.ownsRow w.heap.size 4 1 (.slice (some ⟨fg, 0, none⟩) n fc) n (blRow (foundB x))
  ok : SOk x.defs.length l
set_option maxRecDepth 20000 in
set_option maxHeartbeats 4000000 in
theorem drop_calls (w : World) (base wb : Nat) (x : Rc) (vs : List Int) (y : Ly) (h : WkAt w base wb x vs y) (hr : rightR x = true) :
    Calls Try.prog 20 #[.pointer (some ⟨wb, 0, none⟩)] w fun e w' => e = .returned (.tuple #[]) ∧ (∃ y', WkAt w' base wb (dropB x) vs y') ∧ Below base w w' := by
  obtain ⟨n, hn⟩ : ∃ n, x.states.length = n := ⟨_, rfl⟩
  have hn9 : n ≤ 9 := by rw [← hn]; exact (right_states hr).1
  have HF : Hid (Calls Try.prog 41 #[.pointer (some ⟨wb, 0, none⟩)] w fun e w' => RowPost 4 1 n (blRow (foundB x)) w e w') := by rw [← hn]; exact found_calls w base wb x vs y h hr
  have HW : Hid (WkAt w base wb x vs y ∧ rightR x = true ∧ x.states.length = n ∧ base ≤ w.heap.size) := ⟨h, hr, hn, Nat.le_trans h.fro (Nat.le_of_lt (lt_block h.box))⟩
  clear h hr hn
  go_enter Try.func20, Try.ntmps20
  go_wp2_with fail
  refine HF.out.mono ?_
  rintro e w1 ⟨fo, fc, rfl, ho1, hb1⟩
  have c10 : w1.cell? ⟨wb, 10, none⟩ = some (.slice y.ta n y.tc) := by rw [← HW.out.2.2.1]; exact (HW.out.1.below hb1).cell 10 _ rfl
  by_cases hn0 : n = 0
  · have HE : Hid ((∃ y', WkAt w1 base wb (dropB x) vs y') ∧ Below base w w1) := by
      have e : dropB x = x := by
        rw [dropB, HW.out.2.2.1, hn0]
        rfl
      rw [e]
      exact ⟨⟨_, HW.out.1.below hb1⟩, hb1.mono HW.out.2.2.2⟩
    subst hn0
    clear ho1 hb1 HF
    go_wp2
    go_loopg [3] 1 (fun q sv wr => sv = .int .i64 (-1) ∧ wr = w1)
    case atStart => exact ⟨rfl, rfl⟩
    case round =>
      obtain ⟨rfl, rfl⟩ := hrel
      go_wp2
      go_end0
      exact ⟨rfl, HE.out⟩
  · obtain ⟨fg, hfo⟩ : ∃ fg, fo = some ⟨fg, 0, none⟩ := by
      obtain ⟨fg, cap, hv, _⟩ := owned_some ho1 (by omega)
      injection hv with e1
      exact ⟨fg, e1⟩
    subst hfo
    have HQ0 : Hid (∃ l, dropG (foundB x) n l = dropG (foundB x) n x.states ∧ n ≤ l.length ∧ DrW w base wb x vs fg n fc l w1) :=
      ⟨x.states, rfl, by rw [HW.out.2.2.1]; exact Nat.le_refl _, ⟨_, HW.out.1.below hb1⟩, hb1.mono HW.out.2.2.2, ho1, right_sok HW.out.2.1⟩
    clear ho1 hb1 HF
    go_wp2
    clear c10
    go_loopg [3] n (fun q sv wr => q ≤ n ∧ sv = .int .i64 ((q : Int) - 1) ∧ Hid (∃ l, dropG (foundB x) q l = dropG (foundB x) n x.states ∧ q ≤ l.length ∧ DrW w base wb x vs fg n fc l wr))
    case atStart => exact ⟨Nat.le_refl _, rfl, HQ0.out⟩
    case round =>
      clear HQ0
      obtain ⟨hqn, rfl, HQ⟩ := hrel
      by_cases hq : 0 < gk
      · obtain ⟨j, hj⟩ : ∃ j, gk = j + 1 := ⟨gk - 1, by omega⟩
        subst hj
        have ej : ((j + 1 : Nat) : Int) - 1 = (j : Int) := by omega
        rw [ej]
        clear ej
        obtain ⟨l, hdl, hjl, hdw⟩ := HQ.out
        have cf := (owned_cells hdw.row j _ (blRow_get (foundB x) (by rw [found_len, HW.out.2.2.1]; omega))).1
        have hjn : (j : Int) < (n : Int) := by omega
        have hj0 : decide ((0 : Int) ≤ (j : Int)) = true := by simp
        cases hb : (foundB x).getD j false with
        | true =>
          have HN : Hid (∃ l, dropG (foundB x) j l = dropG (foundB x) n x.states ∧ j ≤ l.length ∧ DrW w base wb x vs fg n fc l wr) := by
            refine ⟨l, ?_, by omega, hdw⟩
            rw [dropG, hb, if_pos rfl] at hdl
            exact hdl
          rw [hb] at cf
          clear hb hdl hjl hdw HQ
          go_wp2
          go_roundg j
          case measure => omega
          case rel => exact ⟨by omega, rfl, HN.out⟩
        | false =>
          rw [dropG, hb, if_neg (by decide)] at hdl
          rw [hb] at cf
          obtain ⟨y2, hy2⟩ := hdw.wk
          have HT : Hid (Calls Try.prog 40 #[.pointer (some ⟨wb, 0, none⟩), .int .i64 (j : Int)] wr fun e w' => e = .returned (.tuple #[]) ∧ (∃ y', WkAt w' base wb { x with states := takeB j l } vs y') ∧ Below base wr w' ∧ Kp wr w') :=
            take_calls wr base wb j { x with states := l } vs y2 hy2 (Nat.le_trans HW.out.2.2.2 hdw.low.size) hdw.ok.1 (by show j < l.length; omega) (sok_edges hdw.ok)
          have HD : Hid (dropG (foundB x) j (takeB j l) = dropG (foundB x) n x.states ∧ j + 1 ≤ l.length ∧ DrW w base wb x vs fg n fc l wr) := ⟨hdl, hjl, hdw⟩
          clear hb hdl hjl hdw hy2 HQ
          go_wp2_with fail
          refine HT.out.mono ?_
          rintro e w2 ⟨rfl, hy3, hb2, hk2⟩
          have HN : Hid (∃ l, dropG (foundB x) j l = dropG (foundB x) n x.states ∧ j ≤ l.length ∧ DrW w base wb x vs fg n fc l w2) := by
            obtain ⟨h1, h2, h3⟩ := HD.out
            exact ⟨takeB j l, h1, by rw [takeB_len j l (by omega)]; omega, hy3, h3.low.trans hb2, hk2.own h3.row (by decide) (by decide) (by decide), takeB_ok h3.ok (by omega)⟩
          clear hy3 hb2 hk2 HT HD cf
          go_wp2
          go_roundg j
          case measure => omega
          case rel => exact ⟨by omega, rfl, HN.out⟩
      · obtain rfl : gk = 0 := by omega
        have HE : Hid ((∃ y', WkAt wr base wb (dropB x) vs y') ∧ Below base w wr) := by
          obtain ⟨l, h1, _, h2⟩ := HQ.out
          refine ⟨?_, h2.low⟩
          rw [dropB, HW.out.2.2.1, ← h1]
          exact h2.wk
        clear HQ
        go_wp2
        go_end0
        exact ⟨rfl, HE.out⟩
theorem drpP_ok : PassOk drpP := by
  refine ⟨enters_of Try.func20 (by kernel_rfl) rfl, fun w base wb x vs y h hr _ => drop_calls w base wb x vs y h hr, fun x vs hr hv => ⟨drop_right hr, hv⟩⟩
end Go.Proofs.Ytolehoibpnenlab
