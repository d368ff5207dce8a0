/-
  The walks of the document's own Right, Titled and written; of weighs; a slice of sequences that comes in.
-/
import Derived.Test.YtcleejdlmamdhaaAwake
import Derived.Deep.Slices
namespace Go.Proofs.Ytcleejdlmamdhaa
open Go.RowKit

theorem refRight_calls (q : Sq) (w : World) (hq : q.short) :
    Calls Try.prog 30 #[.agg #[.string q.1, .string q.2.1, .string q.2.2]] w fun e w' => e = .returned (.bool (okB q.P)) ∧ Below w.heap.size w w' := by
  have HA : Hid (∀ w, Calls Try.prog 45 #[.string q.1] w fun e w' => e = .returned (.bool (nameB q.1.data.toList)) ∧ w' = w) := fun w => refName_calls _ w hq.1
  have HB : Hid (∀ w, Calls Try.prog 46 #[.string q.2.1] w fun e w' => e = .returned (.bool (noteB q.2.1.data.toList)) ∧ w' = w) := fun w => refNote_calls _ w hq.2.1
  have HC : Hid (∀ w, Calls Try.prog 24 #[.string q.2.2] w fun e w' => e = .returned (.int .i64 (letN q.2.2.data.toList : Int)) ∧ w' = w) := fun w => letters_calls _ w hq.2.2
  have hsz := hq.2.2
  unfold maxLen at hsz
  have HN : Hid (okB q.P = (nameB q.1.data.toList && (noteB q.2.1.data.toList && (decide (letN q.2.2.data.toList = q.2.2.size) && (decide (1 ≤ letN q.2.2.data.toList) && decide (letN q.2.2.data.toList ≤ 65536)))))) := by
    show okB _ = _
    have e : basesB q.2.2.data.toList = (decide (letN q.2.2.data.toList = q.2.2.size) && (decide (1 ≤ letN q.2.2.data.toList) && decide (letN q.2.2.data.toList ≤ 65536))) := by
      have h1 := letN_all q.2.2.data.toList
      rw [size_toList] at h1
      have h2 : (q.2.2.data.toList ≠ []) ↔ 1 ≤ q.2.2.size := by
        rw [ne_eq, size_zero]; omega
      rw [Bool.eq_iff_iff]
      simp only [basesB, Bool.and_eq_true, decide_eq_true_eq, size_toList, h2, ← h1]
      constructor
      · rintro ⟨x, y, z⟩; exact ⟨z, by omega, by omega⟩
      · rintro ⟨x, y, z⟩; exact ⟨by omega, by omega, x⟩
    unfold okB
    rw [show q.P.2.2 = q.2.2.data.toList from rfl, e]; rfl
  have hln := letN_le q.2.2.data.toList
  rw [size_toList] at hln
  clear hq
  generalize okB q.P = O at *
  generalize nameB q.1.data.toList = X at *
  generalize noteB q.2.1.data.toList = Y at *
  generalize letN q.2.2.data.toList = Z at *
  have HBe : Hid (∀ o, Below w.heap.size w (w.alloc o)) := fun o => (Below.refl _ _).alloc (Nat.le_refl _) o
  go_enter Try.func30, Try.ntmps30
  go_wp2_with (first
    | (go_at_call 45; refine (HA.out _).mono ?_; rintro e w' ⟨rfl, rfl⟩)
    | (go_at_call 46; refine (HB.out _).mono ?_; rintro e w' ⟨rfl, rfl⟩)
    | (go_at_call 24; refine (HC.out _).mono ?_; rintro e w' ⟨rfl, rfl⟩))
  all_goals (go_ret; refine ⟨ret_bool ?_, HBe.out _⟩; rw [HN.out, Bool.eq_iff_iff]; clear HN HA HB HC; simp_all <;> (intros; omega))

theorem titled_calls (a c : ByteArray) (w : World) (ha : a.size ≤ 1048576) (hc : c.size ≤ 1048576) :
    Calls Try.prog 47 #[.string a, .string c] w fun e w' => ∃ t, e = .returned (.string t) ∧ t.data.toList = joinB a.data.toList c.data.toList ∧ w' = w := by
  by_cases h0 : c.toList = []
  · have HE : Hid (joinB a.data.toList c.data.toList = a.data.toList) := by
      show joinB _ _ = _
      unfold joinB; rw [if_pos (toList_nil.1 h0)]
    go_enter Try.func47, Try.ntmps47
    go_wp2
    go_ret
    exact ⟨a, rfl, HE.out.symm, rfl⟩
  · have e1 : c.toList.isEmpty = false := by
      cases hr : c.toList with
      | nil => exact absurd hr h0
      | cons _ _ => rfl
    have hsp : (⟨#[32]⟩ : ByteArray).size = 1 := rfl
    have hcat1 : ∀ W, (Op.stringOp .add a ⟨#[32]⟩).run Try.prog W = .ok (.string (a ++ ⟨#[32]⟩)) W := fun W => run_string_add_sum W _ _ (by rw [hsp]; omega)
    have hcat2 : ∀ W, (Op.stringOp .add (a ++ ⟨#[32]⟩) c).run Try.prog W = .ok (.string (a ++ ⟨#[32]⟩ ++ c)) W := fun W => run_string_add_sum W _ _ (by rw [ByteArray.size_append, hsp]; omega)
    have HE : Hid (joinB a.data.toList c.data.toList = a.data.toList ++ 32 :: c.data.toList) := by
      show joinB _ _ = _
      unfold joinB; rw [if_neg (fun e => h0 (toList_nil.2 e))]
    clear h0
    go_enter Try.func47, Try.ntmps47
    go_wp2
    go_ret
    refine ⟨a ++ ⟨#[32]⟩ ++ c, rfl, ?_, rfl⟩
    rw [HE.out, ba_append, ba_append]; simp

/-! A slice of sequences that comes in -/
theorem open_sqs {H : Type} {enc : TypeId × Value → H} {W : World} {base : Nat} {spare : Nat → Bool} {held : Bool} {fuel : Nat} {cs : List Value} {x : DataW H × List MemPlace} (h : DataW.trod enc Try.prog W base spare held fuel 23 cs = some x) :
    ∃ ao len cap qs, cs = [.slice ao len cap] ∧ len ≤ cap ∧ SqsAt W ao len qs ∧ ∀ q ∈ qs, q.short := by
  rcases Deep.open_slice Try.underlying23 h with ⟨rfl, _⟩ | ⟨a, len, cap, m, n, D, Pl, rfl, hb, hl, hm, hmm, _, hx⟩
  · exact ⟨none, 0, 0, [], rfl, Nat.le_refl _, ⟨rfl, by decide, fun h => absurd h (by decide)⟩, by simp⟩
  · have ce : Try.prog.cellsOf 29 = 3 := by kernel_rfl
    have hlm : len ≤ m := by rw [hmm]; split <;> omega
    have each : ∀ i, i < len → ∃ q : Sq, W.cell? (a.add (i * 3)) = some (.string q.1) ∧ W.cell? (a.add (i * 3 + 1)) = some (.string q.2.1) ∧ W.cell? (a.add (i * 3 + 2)) = some (.string q.2.2) ∧ q.short := by
      intro i hi
      obtain ⟨cs', h1, h2⟩ := hx i (by omega)
      rw [ce] at h1
      obtain ⟨_, hlen, hcell⟩ := World.cells?_some h1
      obtain ⟨xs, k, hk, hxy, _, hxl, hf⟩ := DataW.trod_struct Try.underlying29 h2
      match cs', hlen with
      | [v0, v1, v2], _ =>
        have g0 := hf 0 _ rfl
        have g1 := hf 1 _ rfl
        have g2 := hf 2 _ rfl
        have c9 : Try.prog.cellsOf 9 = 1 := by kernel_rfl
        match xs, hxl with
        | [y0, y1, y2], _ =>
          simp [c9] at g0 g1 g2
          obtain ⟨s0, e0, _, z0⟩ := DataW.trod_string Try.underlying9 g0
          obtain ⟨s1, e1, _, z1⟩ := DataW.trod_string Try.underlying9 g1
          obtain ⟨s2, e2, _, z2⟩ := DataW.trod_string Try.underlying9 g2
          simp at e0 e1 e2
          subst e0; subst e1; subst e2
          have k0 := hcell 0 (by omega)
          have k1 := hcell 1 (by omega)
          have k2 := hcell 2 (by omega)
          rw [Deep.add_add] at k0 k1 k2
          exact ⟨(s0, s1, s2), by simpa using k0, by simpa using k1, by simpa using k2, z0, z1, z2⟩
    obtain ⟨q, hq⟩ := Deep.choose_lt each
    refine ⟨some a, len, cap, (List.range len).map q, rfl, hl, ⟨by simp, by omega, fun h0 => ?_⟩, ?_⟩
    · obtain ⟨b, off, spot⟩ := a
      have hspot : spot = none := by simpa [Addr.add] using World.cell?_spot (hq 0 h0).1
      subst hspot
      refine ⟨b, off, rfl, fun i p hi => ?_⟩
      have hil : i < len := by
        have := (List.getElem?_eq_some_iff.1 hi).1; simpa using this
      have hp : p = q i := by
        rw [List.getElem?_map, List.getElem?_range hil] at hi
        simpa using hi.symm
      subst hp
      obtain ⟨r0, r1, r2, _⟩ := hq i hil
      rw [Go.WideShapes.add_plain] at r0 r1 r2
      exact ⟨r0, by rw [Nat.add_assoc]; exact r1, by rw [Nat.add_assoc]; exact r2⟩
    · intro p hp
      obtain ⟨i, hi, rfl⟩ := List.mem_map.1 hp
      exact (hq i (List.mem_range.1 hi)).2.2.2

/-! weighs -/
set_option maxHeartbeats 4000000 in
theorem weighs_calls (ao : Option Addr) (len cap : Nat) (qs : List Sq) (w : World) (hz : SqsAt w ao len qs) (hsh : ∀ q ∈ qs, q.short) :
    Calls Try.prog 12 #[.slice ao len cap] w fun e w' => ∃ z : Int, e = .returned (.int .i64 z) ∧ (z ≤ 2147483647 → len ≤ 2147483647) ∧ Below w.heap.size w w' := by
  have hlm := hz.short
  unfold maxLen at hlm
  have HZL : Hid (qs.length = len) := hz.length
  have HZ : Hid (SqsAt w ao len qs) := hz
  have HSh : Hid (∀ q ∈ qs, q.short) := hsh
  clear hz hsh
  go_enter Try.func12, Try.ntmps12
  go_wp2
  go_loopw [3, 4] (fun c i wr => ∃ (k : Nat) (z : Int), k ≤ len ∧ i = .int .i64 k ∧ c = .int .i64 z ∧ (len : Int) ≤ z ∧ Below w.heap.size w wr) (fun _ i _ => len - (intOf i).toNat)
  case atStart => exact ⟨0, len, Nat.zero_le _, rfl, rfl, by omega, Below.refl _ _⟩
  case round =>
    obtain ⟨k, z, hk, rfl, rfl, hz1, hbel⟩ := hrel
    have HB : Hid (Below w.heap.size w wr) := hbel
    clear hbel
    by_cases hlt : k < len
    · have hdk : decide ((k : Int) < (len : Int)) = true := by simp; omega
      by_cases hzb : z ≤ 2147483647
      · have hdz : decide (z ≤ 2147483647) = true := by simp; omega
        obtain ⟨b, off, rfl, hcs⟩ := (HZ.out.below HB.out).cells (by omega)
        obtain ⟨q, hq⟩ : ∃ q, qs[k]? = some q := ⟨_, List.getElem?_eq_getElem (by rw [HZL.out]; exact hlt)⟩
        obtain ⟨hc1, hc2, hc3⟩ := hcs k q hq
        have HBo : Hid (∀ o, Below w.heap.size w (wr.alloc o)) := fun o => HB.out.alloc HB.out.size o
        clear hcs hq
        have big : ∀ n : Nat, 2147483647 < n → decide ((2147483647 : Int) < (n : Int)) = true := fun n h => by simp; omega
        have small : ∀ n : Nat, ¬ 2147483647 < n → decide ((2147483647 : Int) < (n : Int)) = false := fun n h => by simp; omega
        by_cases h1 : 2147483647 < q.1.size
        · have hd := big _ h1
          clear big small HZ HSh
          go_wp2
          go_ret
          exact ⟨_, rfl, fun h => by omega, HBo.out _⟩
        · have hd1 := small _ h1
          by_cases h2 : 2147483647 < q.2.1.size
          · have hd := big _ h2
            clear big small HZ HSh
            go_wp2
            go_ret
            exact ⟨_, rfl, fun h => by omega, HBo.out _⟩
          · have hd2 := small _ h2
            by_cases h3 : 2147483647 < q.2.2.size
            · have hd := big _ h3
              clear big small HZ HSh
              go_wp2
              go_ret
              exact ⟨_, rfl, fun h => by omega, HBo.out _⟩
            · have hd3 := small _ h3
              clear big small
              go_wp2
              go_roundw
              case rel => exact ⟨k + 1, z + q.1.size + q.2.1.size + q.2.2.size, by omega, by go_num, by go_num, by omega, HBo.out _⟩
              case measure => simp [intOf]; omega
      · have hdz : decide (z ≤ 2147483647) = false := by simp; omega
        go_wp2
        go_ret
        exact ⟨z, rfl, fun h => by omega, HB.out⟩
    · have hdk : decide ((k : Int) < (len : Int)) = false := by simp; omega
      go_wp2
      go_ret
      exact ⟨z, rfl, fun h => by omega, HB.out⟩
end Go.Proofs.Ytcleejdlmamdhaa
