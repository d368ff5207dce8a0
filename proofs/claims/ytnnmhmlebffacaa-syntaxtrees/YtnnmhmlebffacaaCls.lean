/-
  The walk of class: bytes by their classes; a rune of a text.
-/
import Derived.Test.YtnnmhmlebffacaaMem
import Derived.Test.YtnnmhmlebffacaaShelf
namespace Go.Proofs.Ytnnmhmlebffacaa
open Go.RowKit

def clsI (x : Int) : Int :=
  if 48 ≤ x ∧ x ≤ 57 then 3 else if 97 ≤ x ∧ x ≤ 122 then 4 else if 65 ≤ x ∧ x ≤ 90 then 5 else
  if x = 32 ∨ x = 9 ∨ x = 10 then 1 else if x = 35 then 2 else if x = 95 then 6 else if x = 34 then 7 else
  if x = 59 ∨ x = 44 ∨ x = 61 ∨ x = 43 ∨ x = 45 ∨ x = 42 ∨ x = 40 ∨ x = 41 then 8 else if x = 46 then 9 else 0
set_option maxHeartbeats 4000000 in
theorem class_calls (x : Int) (w : World) :
    Calls Try.prog 55 #[.int .i32 x] w fun e w' => e = .returned (.int .i64 (clsI x)) ∧ w' = w := by
  go_enter Try.func55, Try.ntmps55
  go_wp2
  all_goals (go_ret; refine ⟨ret_int ?_, rfl⟩; unfold clsI; repeat' split)
  all_goals first
    | rfl
    | (exfalso; simp_all; done)
    | (exfalso; omega)
theorem eqN (c : UInt8) (n : Nat) (h : n < 256) : c = UInt8.ofNat n ↔ c.toNat = n := by
  constructor
  · rintro rfl; rw [UInt8.toNat_ofNat', Nat.mod_eq_of_lt h]
  · intro e
    apply UInt8.toNat_inj.1
    rw [UInt8.toNat_ofNat', Nat.mod_eq_of_lt h]; exact e
theorem cls_high {x : Int} (h : 128 ≤ x) : clsI x = 0 := by
  unfold clsI; repeat' split
  all_goals first | rfl | omega
def clsB (c : UInt8) : Int := clsI (c.toNat : Int)
theorem cls_dig (c : UInt8) : clsB c = 3 ↔ isDig c = true := by
  simp only [isDig, Bool.and_eq_true, decide_eq_true_eq]
  unfold clsB clsI
  repeat' split
  all_goals omega
theorem cls_small (c : UInt8) : clsB c = 4 ↔ isSmall c = true := by
  simp only [isSmall, Bool.and_eq_true, decide_eq_true_eq]
  unfold clsB clsI
  repeat' split
  all_goals omega
theorem cls_cap (c : UInt8) : clsB c = 5 ↔ isCap c = true := by
  simp only [isCap, Bool.and_eq_true, decide_eq_true_eq]
  unfold clsB clsI
  repeat' split
  all_goals omega
theorem cls_under (c : UInt8) : clsB c = 6 ↔ c = 95 := by
  rw [show (95 : UInt8) = UInt8.ofNat 95 from rfl, eqN c 95 (by decide)]
  unfold clsB clsI
  repeat' split
  all_goals omega
theorem cls_quote (c : UInt8) : clsB c = 7 ↔ c = 34 := by
  rw [show (34 : UInt8) = UInt8.ofNat 34 from rfl, eqN c 34 (by decide)]
  unfold clsB clsI
  repeat' split
  all_goals omega
theorem cls_hash (c : UInt8) : clsB c = 2 ↔ c = 35 := by
  rw [show (35 : UInt8) = UInt8.ofNat 35 from rfl, eqN c 35 (by decide)]
  unfold clsB clsI
  repeat' split
  all_goals omega
theorem cls_point (c : UInt8) : clsB c = 9 ↔ c = 46 := by
  rw [show (46 : UInt8) = UInt8.ofNat 46 from rfl, eqN c 46 (by decide)]
  unfold clsB clsI
  repeat' split
  all_goals omega
theorem cls_bl (c : UInt8) : clsB c = 1 ↔ isBl c = true := by
  simp only [isBl, Bool.or_eq_true, beq_iff_eq]
  rw [show (32 : UInt8) = UInt8.ofNat 32 from rfl, eqN c 32 (by decide), show (9 : UInt8) = UInt8.ofNat 9 from rfl, eqN c 9 (by decide), show (10 : UInt8) = UInt8.ofNat 10 from rfl, eqN c 10 (by decide)]
  unfold clsB clsI
  repeat' split
  all_goals omega
theorem cls_mark (c : UInt8) : clsB c = 8 ↔ isMark c = true := by
  simp only [isMark, Bool.or_eq_true, beq_iff_eq]
  rw [show (59 : UInt8) = UInt8.ofNat 59 from rfl, eqN c 59 (by decide), show (44 : UInt8) = UInt8.ofNat 44 from rfl, eqN c 44 (by decide), show (61 : UInt8) = UInt8.ofNat 61 from rfl, eqN c 61 (by decide), show (43 : UInt8) = UInt8.ofNat 43 from rfl, eqN c 43 (by decide), show (45 : UInt8) = UInt8.ofNat 45 from rfl, eqN c 45 (by decide), show (42 : UInt8) = UInt8.ofNat 42 from rfl, eqN c 42 (by decide), show (40 : UInt8) = UInt8.ofNat 40 from rfl, eqN c 40 (by decide), show (41 : UInt8) = UInt8.ofNat 41 from rfl, eqN c 41 (by decide)]
  unfold clsB clsI
  repeat' split
  all_goals omega
theorem cls_part (c : UInt8) : isPart c = true ↔ (clsB c = 4 ∨ clsB c = 5 ∨ clsB c = 3 ∨ clsB c = 6) := by
  rw [cls_small, cls_cap, cls_dig, cls_under]
  simp only [isPart, Bool.or_eq_true, beq_iff_eq]
  constructor
  · rintro (((h | h) | h) | h) <;> simp [h]
  · rintro (h | h | h | h) <;> simp [h]
theorem cls_range (x : Int) : 0 ≤ clsI x ∧ clsI x ≤ 9 := by
  unfold clsI; repeat' split
  all_goals omega
theorem high_part {c : UInt8} (h : 128 ≤ c.toNat) : isPart c = false := by
  cases hp : isPart c with
  | false => rfl
  | true =>
    have h1 := (cls_part c).1 hp
    have h2 : clsB c = 0 := cls_high (by omega)
    omega

/-! A rune of a text -/
theorem decode_wide (s : ByteArray) (pos : Nat) (h : pos < s.size) (ha : 128 ≤ (s[pos]'h).toNat) : pos + (Utf8.decode s pos).2 ≤ s.size ∧ ∀ j (hj : pos + j < s.size), j < (Utf8.decode s pos).2 → 128 ≤ (s[pos + j]'hj).toNat := by
  have hn : ¬ (s[pos]'h).toNat < 128 := by omega
  have g : ∀ k (hk : pos + k < s.size), s.get! (pos + k) = s[pos + k]'hk := fun k hk => by
    simp [ByteArray.get!, getElem!_pos, hk]; rfl
  have j0 : ∀ j (hj : pos + j < s.size), j = 0 → 128 ≤ (s[pos + j]'hj).toNat := by
    intro j hj e; subst e; exact ha
  have j1 : ∀ k j (hj : pos + j < s.size), j = k → (s.get! (pos + k)).toNat / 64 = 2 → 128 ≤ (s[pos + j]'hj).toNat := by
    intro k j hj e; subst e; rw [g _ hj]; omega
  simp only [Utf8.decode, get_at s pos h, hn, if_false]
  repeat' split
  all_goals (try simp only [Bool.and_eq_true, decide_eq_true_eq, beq_iff_eq] at *)
  all_goals refine ⟨by omega, fun j hj hlt => ?_⟩
  all_goals first
    | exact j0 j hj (by omega)
    | (have : j = 0 ∨ j = 1 := by omega
       rcases this with e | e
       · exact j0 j hj e
       · exact j1 1 j hj e (by omega))
    | (have : j = 0 ∨ j = 1 ∨ j = 2 := by omega
       rcases this with e | e | e
       · exact j0 j hj e
       · exact j1 1 j hj e (by omega)
       · exact j1 2 j hj e (by omega))
    | (have : j = 0 ∨ j = 1 ∨ j = 2 ∨ j = 3 := by omega
       rcases this with e | e | e | e
       · exact j0 j hj e
       · exact j1 1 j hj e (by omega)
       · exact j1 2 j hj e (by omega)
       · exact j1 3 j hj e (by omega))
/-- A rune of a text, as a loop over it meets it: the byte itself if it is below 128; else one whose bytes are all from 128 on. -/
theorem next_rune (wr : World) (k : Nat) (s : ByteArray) (pos : Nat) (hit : wr.heap[k]? = some (.stringIter s pos)) (hp : pos < s.size) :
    ∃ (x : Int) (d : Nat), (∀ ty, (Instr.next (.pointer (some ⟨k, 0, none⟩)) true ty).run Try.prog wr = .ok (.tuple #[.bool true, .int .i64 pos, .int .i32 x]) (wr.iterAt k s (pos + d))) ∧ 1 ≤ d ∧ pos + d ≤ s.size ∧
      ((x = (s[pos].toNat : Int) ∧ d = 1 ∧ s[pos].toNat < 128) ∨ (128 ≤ x ∧ 128 ≤ s[pos].toNat ∧ ∀ j (hj : pos + j < s.size), j < d → 128 ≤ (s[pos + j]'hj).toNat)) := by
  by_cases ha : s[pos].toNat < 128
  · exact ⟨_, 1, fun ty => Lib.run_next_ascii_at wr k s pos ty hit hp ha, Nat.le_refl _, by omega, .inl ⟨rfl, rfl, ha⟩⟩
  · obtain ⟨h1, h2⟩ := decode_high s pos hp (by omega)
    obtain ⟨h3, h4⟩ := decode_wide s pos hp (by omega)
    exact ⟨_, _, fun ty => Lib.run_next_any_at wr k s pos ty hit hp, h2, h3, .inr ⟨by omega, by omega, h4⟩⟩
theorem rune_cls {x : Int} {c : UInt8} (h : x = (c.toNat : Int) ∨ (128 ≤ x ∧ 128 ≤ c.toNat)) : clsI x = clsB c := by
  rcases h with rfl | ⟨h1, h2⟩
  · rfl
  · rw [cls_high h1]; unfold clsB; rw [cls_high (by omega)]
theorem drop_at {s : List UInt8} {k : Nat} {c : UInt8} (h : s[k]? = some c) : s.drop k = c :: s.drop (k + 1) := by
  obtain ⟨hlt, he⟩ := List.getElem?_eq_some_iff.1 h
  rw [List.drop_eq_getElem_cons hlt, he]

end Go.Proofs.Ytnnmhmlebffacaa
