/-
  The walks of the program's reader: a read's first line, its last line.
-/
import Derived.Test.YtcpoiaclicmmmaaRead
namespace Go.Proofs.Ytcpoiaclicmmmaa
open Go.RowKit

theorem info5 : (Try.prog.info? 5).map (fun i => (i.zero, i.size, i.bytes)) = some (some (.int .u8 0), 1, 1) := by kernel_rfl
theorem info29 : (Try.prog.info? 29).map (fun i => (i.zero, i.size, i.bytes)) = some (some (.agg #[.string ⟨#[]⟩, .string ⟨#[]⟩, .string ⟨#[]⟩, .string ⟨#[]⟩]), 4, 64) := by kernel_rfl

theorem below_more {B : Nat} {a w w' : World} (h : Below B a w) (hB : B ≤ w.heap.size) (h2 : Below w.heap.size w w') : Below B a w' := h.trans (h2.mono hB)

def BeginPost (B b : Nat) (rest line : ByteArray) (num : Nat) (sv : Value) (qs : List Rd) (l : List UInt8) (w : World) (e : Ending) (w' : World) : Prop :=
  ∃ q ti, e = .returned (.bool (firstB qs.length l)) ∧ RAt B b rest line num sv qs 0 q ti w' ∧ Below B w w' ∧ (firstB qs.length l = true → ti.data.toList = l.tail ∧ q.1.data.toList = headB 32 l.tail ∧ q.2.1.data.toList = tailB 32 l.tail)

set_option maxHeartbeats 1000000 in
theorem begin_calls (B b : Nat) (rest line : ByteArray) (num : Nat) (sv : Value) (qs : List Rd) (q : Rd) (ti : ByteArray) (s : ByteArray) (w : World) (h : RAt B b rest line num sv qs 0 q ti w) (hs : s.size ≤ 1048576) (hq : qs.length ≤ 256) :
    Calls Try.prog 31 #[.pointer (some ⟨b, 0, none⟩), .string s] w fun e w' => BeginPost B b rest line num sv qs s.data.toList w e w' := by
  have HC : Hid (∀ w, Calls Try.prog 46 #[.string s, .string ⟨#[64]⟩] w fun e w' => CutPost1 s w e w') := fun w => cutPrefix_calls s w (by unfold maxLen; omega)
  have HR : Hid (RAt B b rest line num sv qs 0 q ti w) := h
  clear h
  go_enter Try.func31, Try.ntmps31
  go_wp2_with fail
  refine (HC.out _).mono ?_
  rintro e w' ⟨t, rfl, ht, hts, rfl⟩
  have HTi : Hid (∀ w, Calls Try.prog 47 #[.string t] w fun e w' => TitlePost t w e w') := fun w => title_calls t w (by unfold maxLen; omega)
  have HT : Hid (s.data.toList.head? = some 64 → t.data.toList = s.data.toList.tail) := ht
  clear ht hts HC
  go_wp2_with fail
  refine (HTi.out _).mono ?_
  rintro e w2 ⟨a, c, nd, rfl, hac, hw2⟩
  have HR2 : Hid (RAt B b rest line num sv qs 0 q ti w2 ∧ Below B w' w2) := by
    have hb : Below w'.heap.size w' w2 := by rw [hw2]; exact below_drewN (Below.refl _ _) nd
    exact ⟨HR.out.below hb, hb.mono (Nat.le_trans HR.out.base (Nat.le_of_lt HR.out.lt))⟩
  have HAC : Hid (titleOkB t.data.toList = true → a.data.toList = headB 32 t.data.toList ∧ c.data.toList = tailB 32 t.data.toList) := hac
  clear hw2 HTi hac HR
  have hf9 := HR2.out.1.frozen 9
  have hf5 := HR2.out.1.frozen 5
  have hf6 := HR2.out.1.frozen 6
  have hf7 := HR2.out.1.frozen 7
  have hf8 := HR2.out.1.frozen 8
  have hc3 := HR2.out.1.cell3
  have hc5 := HR2.out.1.cell5
  have hc6 := HR2.out.1.cell6
  have hc7 := HR2.out.1.cell7
  have hc8 := HR2.out.1.cell8
  have hc9 := HR2.out.1.cell9
  obtain ⟨ao, cap, hsv⟩ := owned_shape HR2.out.1.reads
  rw [hsv] at hc3
  have HZ : Hid (RAt B b rest line num sv qs 0 (a, c, ⟨#[]⟩, ⟨#[]⟩) t (((((w2.setCell ⟨b, 9, none⟩ (.string t)).setCell ⟨b, 5, none⟩ (.string a)).setCell ⟨b, 6, none⟩ (.string c)).setCell ⟨b, 7, none⟩ (.string ⟨#[]⟩)).setCell ⟨b, 8, none⟩ (.string ⟨#[]⟩))) :=
    ((((HR2.out.1.put9 t).put5 a).put6 c).put7 ⟨#[]⟩).put8 ⟨#[]⟩
  have HZB : Hid (Below B w' (((((w2.setCell ⟨b, 9, none⟩ (.string t)).setCell ⟨b, 5, none⟩ (.string a)).setCell ⟨b, 6, none⟩ (.string c)).setCell ⟨b, 7, none⟩ (.string ⟨#[]⟩)).setCell ⟨b, 8, none⟩ (.string ⟨#[]⟩))) :=
    ((((HR2.out.2.setCell (p := ⟨b, 9, none⟩) HR2.out.1.base _).setCell (p := ⟨b, 5, none⟩) HR2.out.1.base _).setCell (p := ⟨b, 6, none⟩) HR2.out.1.base _).setCell (p := ⟨b, 7, none⟩) HR2.out.1.base _).setCell (p := ⟨b, 8, none⟩) HR2.out.1.base _
  have HE : Hid (∀ x, x = firstB qs.length s.data.toList → BeginPost B b rest line num sv qs s.data.toList w' (.returned (.bool x)) (((((w2.setCell ⟨b, 9, none⟩ (.string t)).setCell ⟨b, 5, none⟩ (.string a)).setCell ⟨b, 6, none⟩ (.string c)).setCell ⟨b, 7, none⟩ (.string ⟨#[]⟩)).setCell ⟨b, 8, none⟩ (.string ⟨#[]⟩))) := by
    rintro x rfl
    refine ⟨_, t, rfl, HZ.out, HZB.out, fun hf => ?_⟩
    simp only [firstB, Bool.and_eq_true, decide_eq_true_eq] at hf
    have e1 := HT.out hf.1
    have e2 := HAC.out (by rw [e1]; exact hf.2.1)
    exact ⟨e1, by rw [e2.1, e1], by rw [e2.2, e1]⟩
  have HF : Hid (firstB qs.length s.data.toList = (decide (s.data.toList.head? = some 64) && (titleOkB t.data.toList && decide (qs.length < 256)))) := by
    show firstB _ _ = _
    unfold firstB
    by_cases h1 : s.data.toList.head? = some 64
    · rw [HT.out h1]
    · simp [h1]
  generalize firstB qs.length s.data.toList = F at *
  generalize hq2 : qs.length = n at *
  generalize decide (s.data.toList.head? = some 64) = M at *
  generalize titleOkB t.data.toList = T at *
  clear HT HAC HR2 HZ HZB hsv hq2
  cases M <;> cases T
  · have HF2 : Hid (false = F) := by show false = F; rw [HF.out]; rfl
    clear HF
    go_wp2
    go_ret
    exact HE.out _ HF2.out
  · have HF2 : Hid (false = F) := by show false = F; rw [HF.out]; rfl
    clear HF
    go_wp2
    go_ret
    exact HE.out _ HF2.out
  · have HF2 : Hid (false = F) := by show false = F; rw [HF.out]; rfl
    clear HF
    go_wp2
    go_ret
    exact HE.out _ HF2.out
  · have HF2 : Hid (decide ((n : Int) < 256) = F) := by
      show _ = F; rw [HF.out]; simp; omega
    clear HF
    go_wp2
    go_ret
    exact HE.out _ HF2.out
end Go.Proofs.Ytcpoiaclicmmmaa
