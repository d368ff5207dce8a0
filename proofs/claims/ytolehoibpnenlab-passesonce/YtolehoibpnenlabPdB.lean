/-
  Rows of edges looked through by a function value: IndexFunc, ContainsFunc, DeleteFunc.
-/
import Derived.Test.YtolehoibpnenlabPdA
import Derived.Test.YtolehoibpnenlabPsF
import Derived.Test.YtolehoibpnenlabVmF
namespace Go.Proofs.Ytolehoibpnenlab
open Go.RowKit Go.Deep Go.Maps

/-- The first one of which it is told. -/
def IdxIs (p : Int × Int → Bool) (l : List (Int × Int)) (r : Int) : Prop :=
  (r = -1 ∧ ∀ e ∈ l, p e = false) ∨ ∃ k : Nat, r = k ∧ k < l.length ∧ (∃ e, l[k]? = some e ∧ p e = true) ∧ ∀ (j : Nat) (e : Int × Int), j < k → l[j]? = some e → p e = false
theorem IdxIs.any {p : Int × Int → Bool} {l : List (Int × Int)} {r : Int} (h : IdxIs p l r) : decide (0 ≤ r) = l.any p := by
  rcases h with ⟨rfl, h⟩ | ⟨k, rfl, _, ⟨e, he, hp⟩, _⟩
  · rw [List.any_eq_false.2 (fun e he => by rw [h e he]; decide)]
    rfl
  · rw [List.any_eq_true.2 ⟨e, List.mem_of_getElem? he, hp⟩]
    simp
set_option maxRecDepth 20000 in
set_option maxHeartbeats 1000000 in
theorem idxF_calls (p : Int × Int → Bool) (fid cb : Nat) (hent : ∀ args W, (callFunc fid args).run Try.prog W = .ok (.enter fid args) W) (l : List (Int × Int)) (ao : Option Addr) (n cc : Nat) (w : World) (h : PcsAt w ao n l)
    (hC : ∀ e ∈ l, ∀ W, Below w.heap.size w W → Calls Try.prog fid #[.agg #[.int .i64 e.1, .int .i64 e.2], .pointer (some ⟨cb, 0, none⟩)] W fun r W' => r = .returned (.bool (p e)) ∧ Below W.heap.size W W') :
    Calls Try.prog 77 #[.slice ao n cc, .func (.func fid) #[] #[.pointer (some ⟨cb, 0, none⟩)]] w fun e w' => ∃ r : Int, e = .returned (.int .i64 r) ∧ IdxIs p l r ∧ Below w.heap.size w w' := by
  have hn := h.short
  unfold maxLen at hn
  have HD : Hid (PcsAt w ao n l) := h
  have HC : Hid (∀ e ∈ l, ∀ W, Below w.heap.size w W → Calls Try.prog fid #[.agg #[.int .i64 e.1, .int .i64 e.2], .pointer (some ⟨cb, 0, none⟩)] W fun r W' => r = .returned (.bool (p e)) ∧ Below W.heap.size W W') := hC
  clear h hC
  go_enter Try.func77, Try.ntmps77
  go_wp2
  go_loopw [5, 8] (fun _ iv wr => ∃ k : Nat, k ≤ n ∧ iv = .int .i64 k ∧ Hid ((∀ (j : Nat) (e : Int × Int), j < k → l[j]? = some e → p e = false) ∧ Below w.heap.size w wr)) (fun _ i _ => n - (intOf i).toNat)
  case atStart => exact ⟨0, Nat.zero_le _, rfl, fun j e hj => by omega, Below.refl _ _⟩
  case round =>
    obtain ⟨k, hk, rfl, HT⟩ := hrel
    by_cases hlt : k < n
    · obtain ⟨d, hdi⟩ : ∃ d, l[k]? = some d := ⟨l[k]'(by rw [HD.out.length]; exact hlt), List.getElem?_eq_getElem _⟩
      obtain ⟨g, off, rfl, hcs⟩ := (HD.out.below HT.out.2).cells (by omega)
      obtain ⟨b0, b1⟩ := hcs k d hdi
      have HK : Hid (l[k]? = some d) := hdi
      have HK1 : Hid (Calls Try.prog fid #[.agg #[.int .i64 d.1, .int .i64 d.2], .pointer (some ⟨cb, 0, none⟩)] wr fun r W' => r = .returned (.bool (p d)) ∧ Below wr.heap.size wr W') := HC.out d (List.mem_of_getElem? hdi) wr HT.out.2
      clear hcs hdi
      go_wp2_with fail
      refine HK1.out.mono ?_
      rintro e w2 ⟨rfl, hb2⟩
      have HB2 : Hid (Below w.heap.size w w2) := HT.out.2.trans (hb2.mono HT.out.2.size)
      clear hb2 b0 b1 HK1
      cases ho : p d with
      | true =>
        have HE : Hid (IdxIs p l (k : Int)) := .inr ⟨k, rfl, by rw [HD.out.length]; exact hlt, ⟨d, HK.out, ho⟩, HT.out.1⟩
        clear ho
        go_wp2
        go_ret
        exact ⟨_, rfl, HE.out, HB2.out⟩
      | false =>
        have HE : Hid (∀ (j : Nat) (e : Int × Int), j < k + 1 → l[j]? = some e → p e = false) := fun j e hj he => by
          by_cases hjk : j = k
          · subst hjk; rw [HK.out] at he; cases he; exact ho
          · exact HT.out.1 j e (by omega) he
        clear ho
        go_wp2
        go_roundw
        case rel => exact ⟨k + 1, by omega, by go_num, HE.out, HB2.out⟩
        case measure => simp [intOf]; omega
    · have HE : Hid (IdxIs p l (-1) ∧ Below w.heap.size w wr) := by
        refine ⟨.inl ⟨rfl, fun e he => ?_⟩, HT.out.2⟩
        obtain ⟨j, hj, rfl⟩ := List.mem_iff_getElem.1 he
        exact HT.out.1 j _ (by rw [HD.out.length] at hj; omega) (List.getElem?_eq_getElem hj)
      clear HT
      go_wp2
      go_ret
      exact ⟨-1, rfl, HE.out⟩
set_option maxRecDepth 20000 in
set_option maxHeartbeats 1000000 in
theorem contF_calls (p : Int × Int → Bool) (fid cb : Nat) (hent : ∀ args W, (callFunc fid args).run Try.prog W = .ok (.enter fid args) W) (l : List (Int × Int)) (ao : Option Addr) (n cc : Nat) (w : World) (h : PcsAt w ao n l)
    (hC : ∀ e ∈ l, ∀ W, Below w.heap.size w W → Calls Try.prog fid #[.agg #[.int .i64 e.1, .int .i64 e.2], .pointer (some ⟨cb, 0, none⟩)] W fun r W' => r = .returned (.bool (p e)) ∧ Below W.heap.size W W') :
    Calls Try.prog 60 #[.slice ao n cc, .func (.func fid) #[] #[.pointer (some ⟨cb, 0, none⟩)]] w fun e w' => e = .returned (.bool (l.any p)) ∧ Below w.heap.size w w' := by
  have HI : Hid (Calls Try.prog 77 #[.slice ao n cc, .func (.func fid) #[] #[.pointer (some ⟨cb, 0, none⟩)]] w fun e w' => ∃ r : Int, e = .returned (.int .i64 r) ∧ IdxIs p l r ∧ Below w.heap.size w w') := idxF_calls p fid cb hent l ao n cc w h hC
  clear h hC
  go_enter Try.func60, Try.ntmps60
  go_wp2_with fail
  refine HI.out.mono ?_
  rintro e w2 ⟨r, rfl, hr, hb⟩
  have HR : Hid (decide (0 ≤ r) = l.any p ∧ Below w.heap.size w w2) := ⟨hr.any, hb⟩
  clear hr hb
  go_wp2
  go_ret
  exact ⟨ret_bool HR.out.1, HR.out.2⟩
end Go.Proofs.Ytolehoibpnenlab
