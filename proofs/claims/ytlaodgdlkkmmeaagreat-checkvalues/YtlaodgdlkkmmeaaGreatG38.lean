/-
  A row of places of which nothing was said: slices.Repeat over one number. The letters of an alphabet: alphabet.
-/
import Derived.Laws.CopyOwn
import Derived.Test.YtlaodgdlkkmmeaaGreatG37
namespace Go.Proofs.YtlaodgdlkkmmeaaGreat
open Go.RowKit Go.Deep Go.Maps

set_option maxRecDepth 20000 in
theorem mulU_calls (x y : Nat) (hx : x < 18446744073709551616) (hy : y < 18446744073709551616) (w : World) :
    Calls Tryz.prog 124 #[.int .u64 x, .int .u64 y] w fun e w' => e = .returned (.tuple #[.int .u64 ((x * y / 18446744073709551616 : Nat) : Int), .int .u64 ((x * y % 18446744073709551616 : Nat) : Int)]) ∧ w' = w := by
  have H := mul64_calls x y hx hy
  generalize ((x * y / 18446744073709551616 : Nat) : Int) = q at *
  generalize ((x * y % 18446744073709551616 : Nat) : Int) = r at *
  go_enter Tryz.func124, Tryz.ntmps124
  go_wp2_with (go_at_call 115; refine (H _).mono ?_; rintro e w' ⟨rfl, rfl⟩)
  go_ret2
  exact ⟨rfl, rfl⟩

def rpRow (N k : Nat) : List Value := List.replicate k (.int .i64 (-1)) ++ List.replicate (N - k) (.int .i64 0)
theorem rp_len (N k : Nat) (_h : k ≤ N) : (rpRow N k).length = N := by simp [rpRow]; omega
theorem rp_splice (N k m : Nat) (_h : k + m ≤ N) : splice (rpRow N k) k (List.replicate m (.int .i64 (-1))) = rpRow N (k + m) := by
  unfold splice rpRow
  rw [List.take_append_of_le_length (by simp), List.take_of_length_le (by simp), List.length_replicate, List.drop_append, List.drop_eq_nil_of_le (by simp)]
  simp only [List.nil_append, List.length_replicate, Nat.add_sub_cancel_left, List.drop_replicate]
  rw [← List.append_assoc, List.replicate_append_replicate, Nat.sub_sub]
theorem rp_all (N : Nat) : rpRow N N = itRow (List.replicate N (-1)) := by simp [rpRow, itRow]
theorem rp_made (N : Nat) : (madeCells (Value.int .i64 0).cells (N * 1)).toList = rpRow N 0 := by
  apply List.ext_getElem?
  intro i
  by_cases h : i < N
  · simp [rpRow, madeCells, Value.cells, h, Nat.mod_one]
  · simp [rpRow, madeCells, h]
theorem rp_cell {w : World} {g N k : Nat} (hb : w.heap[g]? = some (.cells (rpRow N k).toArray 3 (0, 0))) {j : Nat} {v : Value} (hj : (List.replicate k (Value.int .i64 (-1)))[j]? = some v) : w.cell? ((⟨g, 0, none⟩ : Addr).add j) = some v := by
  have hlt : j < k := by by_cases h : j < k; exact h; simp [h] at hj
  have hadd : (⟨g, 0, none⟩ : Addr).add j = ⟨g, j, none⟩ := by unfold Addr.add; split <;> simp_all
  rw [hadd]
  refine blk hb ?_
  have e : (rpRow N k)[j]? = (List.replicate k (Value.int .i64 (-1)))[j]? := by unfold rpRow; rw [List.getElem?_append_left (by simpa using hlt)]
  rw [List.getElem?_toArray, e]
  exact hj
theorem own_full {w : World} {base g n : Nat} {xs : List Value} (h : w.ownsRow base 3 1 (.slice (some ⟨g, 0, none⟩) n n) n xs) : w.heap[g]? = some (.cells xs.toArray 3 (0, 0)) := by
  rcases h.2 with ⟨h1, _⟩ | ⟨g', cap, cur, h1, _, hb, _, _, hs, ht⟩
  · cases h1
  · cases h1
    rw [List.take_of_length_le (by simp; omega)] at ht
    rw [hb, ← ht]
theorem size3 : (Tryz.prog.info? 3).map (·.size) = some 1 := by kernel_rfl
set_option maxRecDepth 20000 in
set_option maxHeartbeats 2000000 in
theorem repeat_calls (N g : Nat) (w : World) (h1 : 1 ≤ N) (h2 : N ≤ 400) (hb : w.heap[g]? = some (.cells #[.int .i64 (-1)] 3 (0, 0))) :
    Calls Tryz.prog 91 #[.slice (some ⟨g, 0, none⟩) 1 1, .int .i64 (N : Int)] w fun e w' => e = .returned (.slice (some ⟨w.heap.size, 0, none⟩) N N) ∧ w'.heap[w.heap.size]? = some (.cells (rpRow N N).toArray 3 (0, 0)) ∧ Below w.heap.size w w' := by
  obtain ⟨i0, hi, hz0, hz1, hz2⟩ := info_parts info3
  have H := mulU_calls 1 N (by omega) (by omega)
  rw [Nat.one_mul, Nat.div_eq_of_lt (by omega), Nat.mod_eq_of_lt (by omega), show ((1 : Nat) : Int) = 1 from rfl, show ((0 : Nat) : Int) = 0 from rfl] at H
  have hlt : g < w.heap.size := lt_block hb
  have HG : Hid (w.heap[g]? = some (.cells #[.int .i64 (-1)] 3 (0, 0))) := hb
  have hw1 : IntKind.u64.wrap (N : Int) = (N : Int) := by rw [IntKind.wrap_u64]; omega
  have hw2 : IntKind.i64.wrap (N : Int) = (N : Int) := by rw [IntKind.wrap_i64]; omega
  have hn0 : decide ((N : Int) < 0) = false := by simp
  have hn1 : decide ((9223372036854775807 : Int) < (N : Int)) = false := by simp; omega
  have hadd : ∀ j, (⟨g, 0, none⟩ : Addr).add j = ⟨g, j, none⟩ := fun j => by unfold Addr.add; split <;> simp_all
  have HC1 : Hid (∀ w2, w2.ownsRow 0 3 1 (.slice (some ⟨w.heap.size, 0, none⟩) N N) N (madeCells (Value.int .i64 0).cells (N * 1)).toList → w.grownBy w2 none → w2.heap[w.heap.size]? = some (.cells (rpRow N 0).toArray 3 (0, 0)) ∧ Below w.heap.size w w2 ∧ ∀ j v, (List.replicate 1 (Value.int .i64 (-1)))[j]? = some v → w2.cell? ((⟨g, 0, none⟩ : Addr).add j) = some v) := by
    intro w2 hr hg
    rw [rp_made] at hr
    have hB : Below w.heap.size w w2 := ⟨hg.os, hg.tape, hg.output, hg.size, fun k hk => hg.block k hk (fun e => by cases e)⟩
    refine ⟨own_full hr, hB, fun j v hj => ?_⟩
    have h0 : j = 0 := by
      have := (List.getElem?_eq_some_iff.1 hj).1
      simp at this; exact this
    subst h0
    rw [hadd]
    refine blk (by rw [hB.block g hlt]; exact HG.out) ?_
    exact hj
  have HL0 : Hid ((rpRow N 0).length = N) := rp_len N 0 (by omega)
  clear hb hadd
  go_enter Tryz.func91, Tryz.ntmps91
  go_wp2_with (first
    | (go_at_call 124; refine (H _).mono ?_; rintro e w' ⟨rfl, hw'⟩; subst w')
    | (at_make; refine wpList_make_full _ rfl _ _ 26 rfl 0 3 i0 _ 1 Tryz.underlying26 hi hz0 hz1 .i64 .i64 _ _ N rfl rfl rfl rfl (by rw [hz2]; omega) (by unfold maxLen; omega) (Nat.zero_le _) ?_; intro w2 hr hg; have HM := HC1.out _ hr hg; clear hr hg HC1)
    | (with_reducible show wpList _ _ _ ({ dst := _, op := Op.call { callee := Callee.builtin Builtin.copy, args := _, argTypes := _ }, type := _, pos := _, after := _, guard := _ } :: _) _ _; go_loud (refine wpList_copy_splice rfl _ _ 26 26 rfl 3 Tryz.underlying26 size3 (some ⟨w.heap.size, 0, none⟩) (some ⟨g, 0, none⟩) N N 1 1 rfl rfl w.heap.size 0 (rpRow N 0) 3 HM.1 (List.replicate 1 (.int .i64 (-1))) (by rw [List.length_replicate]; exact (Nat.min_eq_left h1).symm) (fun _ => ⟨rfl, _, rfl, HM.2.2⟩) (by rw [HL0.out]; simp; omega) (by simp [Value.oneCell']) w.heap.size w HM.2.1 (Nat.le_refl _) ?_); intro w3 hg3 hb3)
    | fail)
  have HB : Hid (w3.heap[w.heap.size]? = some (.cells (rpRow N 1).toArray 3 (0, 0)) ∧ Below w.heap.size w w3) := ⟨by have := hg3.out; rw [rp_splice N 0 1 (by omega)] at this; exact this, hb3⟩
  clear hg3 hb3 HM HL0 H HG hi hz0 hz1 hz2 hn0 hn1 hlt
  go_loopw [8] (fun i wr => ∃ k : Nat, 1 ≤ k ∧ k ≤ N ∧ i = .int .i64 k ∧ Hid (wr.heap[w.heap.size]? = some (.cells (rpRow N k).toArray 3 (0, 0)) ∧ Below w.heap.size w wr)) (fun i _ => N - (intOf i).toNat)
  case atStart => exact ⟨1, Nat.le_refl _, h1, rfl, HB.out⟩
  case round =>
    clear HB
    obtain ⟨k, hk1, hk2, rfl, HK⟩ := hrel
    by_cases hlt : k < N
    · obtain ⟨m, hm⟩ : ∃ m, m = min k (N - k) := ⟨_, rfl⟩
      have hm1 : 1 ≤ m := by omega
      have hm2 : k + m ≤ N := by omega
      have hm3 : m ≤ k := by omega
      have HM : Hid ((List.replicate m (Value.int .i64 (-1))).length = Nat.min k (N - k)) := by show _ = _; rw [List.length_replicate]; exact hm
      have HL : Hid (k + (List.replicate m (Value.int .i64 (-1))).length ≤ (rpRow N k).length) := by show _ ≤ _; rw [rp_len N k hk2, List.length_replicate]; exact hm2
      have HC : Hid (∀ j v, (List.replicate m (Value.int .i64 (-1)))[j]? = some v → wr.cell? ((⟨w.heap.size, 0, none⟩ : Addr).add j) = some v) := by
        intro j v hj
        have hjm : j < m := by have := (List.getElem?_eq_some_iff.1 hj).1; simpa using this
        refine rp_cell HK.out.1 (j := j) ?_
        rw [List.getElem?_replicate] at hj ⊢
        rw [if_pos hjm] at hj
        rw [if_pos (by omega)]
        exact hj
      clear hm
      go_wp2_with fail
      have hne : ¬ N = k := by omega
      have HKd : Hid (wr.drew.heap[w.heap.size]? = some (.cells (rpRow N k).toArray 3 (0, 0)) ∧ Below w.heap.size w wr.drew) := ⟨HK.out.1, HK.out.2.drew⟩
      refine wp_region_Y (fun j => [].contains j) (fun _ => True) (by kernel_rfl) ?_
      refine wpAnyY_takeD (i := 0) 38 (v := .int .i64 (k : Int)) rfl rfl (by kernel_rfl) (by kernel_rfl) (late_of (by kernel_rfl)) (by kernel_rfl) (by kernel_rfl) (fun _ _ _ h => h) trivial (Or.inl ⟨by rfl, by (intro W hW; go_simp)⟩) ?_
      simp only [Act.put, List.setIfInBounds_toArray, List.set_cons_succ, List.set_cons_zero]
      refine wpAnyY_takeD (i := 1) 39 (v := .slice (some ⟨w.heap.size, 0, none⟩) N N) rfl rfl (by kernel_rfl) (by kernel_rfl) (late_of (by kernel_rfl)) (by kernel_rfl) (by kernel_rfl) (fun _ _ _ h => h) trivial (Or.inl ⟨by rfl, by (intro W hW; go_simp)⟩) ?_
      simp only [Act.put, List.setIfInBounds_toArray, List.set_cons_succ, List.set_cons_zero]
      refine wpAnyY_takeD (i := 2) 40 (v := .int .i64 (k : Int)) rfl rfl (by kernel_rfl) (by kernel_rfl) (late_of (by kernel_rfl)) (by kernel_rfl) (by kernel_rfl) (fun _ _ _ h => h) trivial (Or.inl ⟨by rfl, by (intro W hW; go_simp)⟩) ?_
      simp only [Act.put, List.setIfInBounds_toArray, List.set_cons_succ, List.set_cons_zero]
      refine wpAnyY_takeD (i := 3) 41 (v := .slice (some ⟨w.heap.size, k, none⟩) (N - k) (N - k)) rfl rfl (by kernel_rfl) (by kernel_rfl) (late_of (by kernel_rfl)) (by kernel_rfl) (by kernel_rfl) (fun _ _ _ h => h) trivial (Or.inl ⟨by rfl, by (intro W hW; go_simp)⟩) ?_
      simp only [Act.put, List.setIfInBounds_toArray, List.set_cons_succ, List.set_cons_zero]
      refine wpAnyY_takeD (i := 4) 42 (v := .slice (some ⟨w.heap.size, 0, none⟩) N N) rfl rfl (by kernel_rfl) (by kernel_rfl) (late_of (by kernel_rfl)) (by kernel_rfl) (by kernel_rfl) (fun _ _ _ h => h) trivial (Or.inl ⟨by rfl, by (intro W hW; go_simp)⟩) ?_
      simp only [Act.put, List.setIfInBounds_toArray, List.set_cons_succ, List.set_cons_zero]
      refine wpAnyY_takeD (i := 5) 43 (v := .int .i64 (k : Int)) rfl rfl (by kernel_rfl) (by kernel_rfl) (late_of (by kernel_rfl)) (by kernel_rfl) (by kernel_rfl) (fun _ _ _ h => h) trivial (Or.inl ⟨by rfl, by (intro W hW; go_simp)⟩) ?_
      simp only [Act.put, List.setIfInBounds_toArray, List.set_cons_succ, List.set_cons_zero]
      refine wpAnyY_takeD (i := 6) 44 (v := .slice (some ⟨w.heap.size, 0, none⟩) k N) rfl rfl (by kernel_rfl) (by kernel_rfl) (late_of (by kernel_rfl)) (by kernel_rfl) (by kernel_rfl) (fun _ _ _ h => h) trivial (Or.inl ⟨by rfl, by (intro W hW; go_simp)⟩) ?_
      simp only [Act.put, List.setIfInBounds_toArray, List.set_cons_succ, List.set_cons_zero]
      refine wpAnyY_one (i := 7) rfl (by kernel_rfl) (fun K hK => ?_)
      refine step_copy_splice rfl (.tmp 41) (.tmp 44) 26 26 rfl 3 Tryz.underlying26 size3 (some ⟨w.heap.size, k, none⟩) (some ⟨w.heap.size, 0, none⟩) (N - k) (N - k) k N rfl rfl w.heap.size k (rpRow N k) 3 HKd.out.1 (List.replicate m (.int .i64 (-1))) HM.out (fun _ => ⟨rfl, _, rfl, HC.out⟩) HL.out (by intro v hv; rw [List.eq_of_mem_replicate hv]; rfl) w.heap.size w HKd.out.2 (Nat.le_refl _) ?_
      intro w4 hg4 hb4
      show K (Act.put _ (some 45) _) w4
      have HK4 : Hid (w4.heap[w.heap.size]? = some (.cells (rpRow N (k + m)).toArray 3 (0, 0)) ∧ Below w.heap.size w w4) := ⟨by have := hg4.out; rw [rp_splice N k m hm2] at this; exact this, hb4⟩
      refine hK.out _ _ (fun _ => trivial) ?_
      clear hK K hg4 hb4 HKd HK HC HM HL
      rw [List.length_replicate]
      unfold goInt
      have hwk : IntKind.i64.wrap ((k : Int) + (m : Int)) = ((k + m : Nat) : Int) := by rw [IntKind.wrap_i64]; omega
      simp only [Act.put, List.setIfInBounds_toArray, List.set_cons_succ, List.set_cons_zero]
      refine wpAnyY_takeD (i := 8) 46 (v := .int .i64 ((k + m : Nat) : Int)) rfl rfl (by kernel_rfl) (by kernel_rfl) (late_of (by kernel_rfl)) (by kernel_rfl) (by kernel_rfl) (fun _ _ _ h => h) trivial (Or.inl ⟨by rfl, by (intro W hW; go_simp)⟩) ?_
      simp only [Act.put, List.setIfInBounds_toArray, List.set_cons_succ, List.set_cons_zero]
      refine wpAnyY_takeD (i := 9) 8 (v := .int .i64 ((k + m : Nat) : Int)) rfl rfl (by kernel_rfl) (by kernel_rfl) (late_of (by kernel_rfl)) (by kernel_rfl) (by kernel_rfl) (fun _ _ _ h => h) trivial (Or.inl ⟨by rfl, by (intro W hW; go_simp)⟩) ?_
      simp only [Act.put, List.setIfInBounds_toArray, List.set_cons_succ, List.set_cons_zero]
      refine wpAnyY_done (by kernel_rfl) ?_ _
      go_wp2_with fail
      go_round
      case rel => exact ⟨k + m, by omega, hm2, rfl, HK4.out⟩
      case measure => simp [intOf]; omega
    · have hkN : k = N := by omega
      go_wp2
      go_ret
      exact ⟨rfl, by rw [← hkN]; have := HK.out.1; rwa [hkN] at this ⊢, HK.out.2⟩
end Go.Proofs.YtlaodgdlkkmmeaaGreat

namespace Go.Proofs.YtlaodgdlkkmmeaaGreat
open Go.RowKit Go.Deep Go.Maps

theorem askQ_text {right : List UInt8 → Bool} {c c1 : Ck} {e : Ex} {m : Mn} (h : askQ (textQ right) c e = .ok (c1, m)) : m.isText = true ∧ right m.text = true := by
  unfold askQ at h
  split at h
  · cases h
  · split at h
    · rename_i hq
      cases h
      unfold textQ at hq
      cases hm : m.isText with
      | false => rw [hm] at hq; simp at hq
      | true =>
        rw [hm] at hq
        cases hr : right m.text with
        | false => rw [hr] at hq; simp at hq
        | true => exact ⟨rfl, rfl⟩
    · cases h
theorem right_few {l : List UInt8} (h : Al.rightB l = true) : 2 ≤ l.length ∧ l.length ≤ 20 := by
  constructor
  · by_cases h1 : l.length < 2
    · rw [Al.rightB_short l h1] at h; cases h
    · omega
  · by_cases h1 : 20 < l.length
    · rw [Al.rightB_long l h1] at h; cases h
    · omega
theorem CkAt.setSub {O : Nat → Prop} {b : Nat} {s : Sl} {c : Ck} {w w' : World} (h : CkAt O b s c w) (hB : Below w.heap.size w w') {g N : Nat} {l : List Int} (hg : w.heap.size ≤ g) (hrow : w'.heap[g]? = some (.cells (itRow l).toArray 3 (0, 0))) (hN : l.length = N) (hmax : N ≤ maxLen) :
    CkAt (fun q => O q ∨ w.heap.size ≤ q) b { s with sv := .slice (some ⟨g, 0, none⟩) N N } { c with subst := l } (w'.setCell ⟨b, 2, none⟩ (.slice (some ⟨g, 0, none⟩) N N)) := by
  have h' := h.below hB
  have hb := h'.block
  have hne : ∀ q, q ≠ b → (w'.setCell ⟨b, 2, none⟩ (.slice (some ⟨g, 0, none⟩) N N)).heap[q]? = w'.heap[q]? := fun q hq => Below.heap_setCell w' _ _ q hq
  have hrow' : w'.ownsRow 0 3 1 (.slice (some ⟨g, 0, none⟩) N N) l.length (itRow l) :=
    ⟨by simp [itRow], .inr ⟨g, N, (itRow l).toArray, by rw [hN], Nat.zero_le _, hrow, by omega, hmax, by simp [itRow, hN], by rw [Nat.mul_one, List.take_of_length_le (by simp [itRow])]⟩⟩
  refine ⟨heap_put hb rfl, ?_, ?_, ?_, ?_, ?_, ?_, .inl h.inB, fun q hq => .inl (h.inD q hq), ?_, fun q hq => .inl (h.inP q hq), fun q hq => .inl (h.inV q hq), .inl h.inM⟩
  · exact owned_of_block h'.defs fun q _ hv _ => hne q (fun e => own_ne h'.defs hb (by decide) (e ▸ hv))
  · exact owned_of_block hrow' fun q _ hv _ => hne q (fun e => own_ne hrow' hb (by decide) (e ▸ hv))
  · exact owned_of_block h'.pieces fun q _ hv _ => hne q (fun e => own_ne h'.pieces hb (by decide) (e ▸ hv))
  · exact owned_of_block h'.values fun q _ hv _ => hne q (fun e => own_ne h'.values hb (by decide) (e ▸ hv))
  · exact h'.names.keep (hne _ (nm_ne h'.names hb))
  · intro q hq hv
    have h1 : q = g := by simp [Value.ownBlock] at hq; exact hq.symm
    have := (own_lt h.values hv).1
    omega
  · intro q hq
    have h1 : q = g := by simp [Value.ownBlock] at hq; exact hq.symm
    exact .inr (by omega)
def alpha2 : Er (Ck × Mn) → Er Ck
  | .error f => .error f
  | .ok (c1, m) => .ok { c1 with letters := m.text, subst := List.replicate (m.text.length * m.text.length) (-1) }
set_option maxRecDepth 20000 in
set_option maxHeartbeats 8000000 in
theorem alphabet_calls {B : Nat} {O : Nat → Prop} {b : Nat} {s : Sl} {c : Ck} (h : Hd) (k : Fo) (ka : Option Addr) (kn kc : Nat) (w : World) (hck : CkAt O b s c w) (hok : CkOk c) (hlow : ∀ g, O g → B ≤ g) (hB : B ≤ w.heap.size)
    (hE : ExAt false (fun g => g < B) w (h, k) ka kn) (hr : okE h k) :
    Calls Tryz.prog 51 #[.pointer (some ⟨b, 0, none⟩), exV h ka kn kc] w (TPost O b w (alphabetB c (h, k))) := by
  have hres : Tryz.f51.results = #[.cell 4 32] := by kernel_rfl
  have hS1 := LS.start2 hck hok h ka kn kc
  obtain ⟨r1, hr1⟩ : ∃ r, r = askQ (textQ Al.rightB) c (h, k) := ⟨_, rfl⟩
  have HA1 : Hid (∀ O' s' L W g, LS w O O' b s s' (some c) L W → (g, [.func (.func 82) #[] #[]], 41) ∈ L → Calls Tryz.prog 89 #[.pointer (some ⟨b, 0, none⟩), .agg #[.int .i64 h.kind, .int .i64 h.num, .string (bs h.text), .slice ka kn kc, .int .i64 h.pl], .func (.func 123) #[] #[.pointer (some ⟨g, 0, none⟩)]] W fun e w' => ∃ mt mx mp mn f1 f2, e = .returned (.tuple #[.agg #[.bool mt, .string mx, .int .i64 mp, .int .i64 mn], .agg #[.int .i64 f1, .int .i64 f2]]) ∧ Hid (∃ m oc O2 s2, (m.isText = mt ∧ bs m.text = mx ∧ m.place = mp ∧ m.num = mn) ∧ RQ r1 m (f1, f2) oc ∧ LS w O O2 b s s2 oc L w')) := by
    intro O' s' L W g h1' h2'
    have hloc := h1'.loc _ h2'
    refine (h1'.askText h k ka kn kc Al.rightB g (fun O W => Lc O W g [.func (.func 82) #[] #[]] 41) hlow hB hE hr hloc.1 (fun O O' W W' a hf hn => a.fr hf hn) ?_).mono ?_
    · intro O' s' c' m W _ _ _ hm a1
      refine textQ_82 Al.rightB m g W (a1.cell rfl) (fun o _ => ?_)
      refine (Al.right_calls (bs m.text) (W.alloc o) (by rw [bs_size]; exact hm.text)).mono ?_
      rintro e w' ⟨rfl, n, rfl⟩
      exact ⟨by rw [bs_list], below_dn (Below.refl _ _) n⟩
    · rintro e w' ⟨m, f, oc, O2, s2, rfl, h3⟩
      exact ⟨_, _, _, _, _, _, rfl, m, oc, O2, s2, ⟨rfl, rfl, rfl, rfl⟩, by rw [hr1]; exact h3.out.1, h3.out.2⟩
  have HSS : Hid (∀ O' s' oc L W, LS w O O' b s s' oc L W → (w.heap.size, exL h ka kn kc, 102) ∈ L → W.cell? ⟨w.heap.size, 0, none⟩ = some (.int .i64 h.kind) ∧ W.cell? ⟨w.heap.size, 1, none⟩ = some (.int .i64 h.num) ∧ W.cell? ⟨w.heap.size, 2, none⟩ = some (.string (bs h.text)) ∧ W.cell? ⟨w.heap.size, 3, none⟩ = some (.slice ka kn kc) ∧ W.cell? ⟨w.heap.size, 4, none⟩ = some (.int .i64 h.pl)) := fun O' s' oc L W h1 h2 => ⟨h1.at h2 rfl, h1.at h2 rfl, h1.at h2 rfl, h1.at h2 rfl, h1.at h2 rfl⟩
  have HX : Hid (alphabetB c (h, k) = alpha2 r1) := by show _ = _; rw [hr1]; rfl
  have HT : Hid (∀ c1 m, r1 = .ok (c1, m) → Al.rightB m.text = true) := fun c1 m he => (askQ_text (hr1.symm.trans he)).2
  generalize hO1 : (fun g => O g ∧ g < w.heap.size) = O1 at hS1
  clear hO1 hck hok hlow hB hE hr hr1
  unfold exV
  have HS1 : Hid (LS w O O1 b s s (some c) [(w.heap.size + 1, flL (0, 0), 32), (w.heap.size, exL h ka kn kc, 102)] ((w.alloc (.cells #[.int .i64 h.kind, .int .i64 h.num, .string (bs h.text), .slice ka kn kc, .int .i64 h.pl] 102)).alloc (.cells #[.int .i64 0, .int .i64 0] 32))) := hS1
  clear hS1
  go_enter Tryz.func51, Tryz.ntmps51
  go_upto_region 1 with (fail)
  generalize ((w.alloc (.cells #[.int .i64 h.kind, .int .i64 h.num, .string (bs h.text), .slice ka kn kc, .int .i64 h.pl] 102)).alloc (.cells #[.int .i64 0, .int .i64 0] 32)) = w1 at *
  have HS0 : Hid (LS w O O1 b s s (some c) [(w.heap.size + 1, flL (0, 0), 32), (w.heap.size, exL h ka kn kc, 102)] w1.drew) := HS1.out.drew
  clear HS1
  go_cut [5, 6] (fun mv fv wc => ∃ g5 g6 mt mx mp mn f1 f2, mv = .pointer (some ⟨g5, 0, none⟩) ∧ fv = .pointer (some ⟨g6, 0, none⟩) ∧ AR r1 w O b s mt mx mp mn f1 f2 (fun m => [(g5, mnL m, 109), (g6, flL (f1, f2), 32), (w.heap.size + 1, flL (0, 0), 32)]) wc)
  case first =>
    refine wp_region_Y (fun j => [].contains j) (fun W => W.cell? ⟨w.heap.size, 0, none⟩ = some (.int .i64 h.kind) ∧ W.cell? ⟨w.heap.size, 1, none⟩ = some (.int .i64 h.num) ∧ W.cell? ⟨w.heap.size, 2, none⟩ = some (.string (bs h.text)) ∧ W.cell? ⟨w.heap.size, 3, none⟩ = some (.slice ka kn kc) ∧ W.cell? ⟨w.heap.size, 4, none⟩ = some (.int .i64 h.pl)) (by kernel_rfl) ?_
    refine wpAnyY_takeD (i := 0) 9 (v := .pointer (some ⟨b, 0, none⟩)) rfl rfl (by kernel_rfl) (by kernel_rfl) (late_of (by kernel_rfl)) (by kernel_rfl) (by kernel_rfl) (fun _ _ _ h => h) (HSS.out _ _ _ _ _ HS0.out (by simp)) (Or.inl ⟨by rfl, by (intro W hW; obtain ⟨_, _, _, _, _⟩ := hW; go_simp)⟩) ?_
    simp only [Act.put, List.setIfInBounds_toArray, List.set_cons_succ, List.set_cons_zero]
    refine wpAnyY_takeD (i := 1) 10 (v := .agg #[.int .i64 h.kind, .int .i64 h.num, .string (bs h.text), .slice ka kn kc, .int .i64 h.pl]) rfl rfl (by kernel_rfl) (by kernel_rfl) (late_of (by kernel_rfl)) (by kernel_rfl) (by kernel_rfl) (fun _ _ _ h => h) (HSS.out _ _ _ _ _ HS0.out (by simp)) (Or.inl ⟨by rfl, by (intro W hW; obtain ⟨_, _, _, _, _⟩ := hW; go_simp)⟩) ?_
    simp only [Act.put, List.setIfInBounds_toArray, List.set_cons_succ, List.set_cons_zero]
    refine wpAnyY_three (i := 2) (j := 7) (l := 8) rfl rfl rfl (by kernel_rfl) (fun K hK => ?_) (fun K hK => ?_) (fun K hK => ?_)
    · refine call90c_step rfl rfl rfl ?_
      intro V1 gc hV hG
      have HS2 : Hid (LS w O O1 b s s (some c) [(gc, [.func (.func 82) #[] #[]], 41), (w.heap.size + 1, flL (0, 0), 32), (w.heap.size, exL h ka kn kc, 102)] V1) := HS0.out.allocE _ 41 hV hG
      refine hK.out _ _ (fun _ => HSS.out _ _ _ _ _ HS2.out (by simp)) ?_
      clear hK K HS0 hV hG
      simp only [Act.put, List.setIfInBounds_toArray, List.set_cons_succ, List.set_cons_zero]
      refine wpAnyY_three (i := 3) (j := 7) (l := 8) rfl rfl rfl (by kernel_rfl) (fun K hK => ?_) (fun K hK => ?_) (fun K hK => ?_)
      · refine call89_step rfl rfl rfl rfl rfl rfl ?_
        refine (HA1.out _ _ _ _ gc HS2.out (by simp)).mono ?_
        rintro e V3 ⟨mt, mx, mp, mn, f1, f2, rfl, hV⟩
        refine ⟨_, rfl, ?_⟩
        obtain ⟨m, oc, O2, s2, hm, hRQ, hLS⟩ := hV.out
        have HS4 : Hid (LS w O O2 b s s2 oc [(gc, [.func (.func 82) #[] #[]], 41), (w.heap.size + 1, flL (0, 0), 32), (w.heap.size, exL h ka kn kc, 102)] V3) := hLS
        have HR : Hid (RQ r1 m (f1, f2) oc ∧ m.isText = mt ∧ bs m.text = mx ∧ m.place = mp ∧ m.num = mn) := ⟨hRQ, hm⟩
        refine hK.out _ _ (fun _ => HSS.out _ _ _ _ _ HS4.out (by simp)) ?_
        clear hK K HS2 hV hm hRQ hLS
        simp only [Act.put, List.setIfInBounds_toArray, List.set_cons_succ, List.set_cons_zero]
        refine wpAnyY_takeD (i := 4) 8 (v := .tuple #[.agg #[.bool mt, .string mx, .int .i64 mp, .int .i64 mn], .agg #[.int .i64 f1, .int .i64 f2]]) rfl rfl (by kernel_rfl) (by kernel_rfl) (late_of (by kernel_rfl)) (by kernel_rfl) (by kernel_rfl) (fun _ _ _ h => h) (HSS.out _ _ _ _ _ HS4.out (by simp)) (Or.inl ⟨by rfl, by (intro W hW; obtain ⟨_, _, _, _, _⟩ := hW; go_simp)⟩) ?_
        simp only [Act.put, List.setIfInBounds_toArray, List.set_cons_succ, List.set_cons_zero]
        refine wpAnyY_takeD (i := 5) 13 (v := .agg #[.bool mt, .string mx, .int .i64 mp, .int .i64 mn]) rfl rfl (by kernel_rfl) (by kernel_rfl) (late_of (by kernel_rfl)) (by kernel_rfl) (by kernel_rfl) (fun _ _ _ h => h) (HSS.out _ _ _ _ _ HS4.out (by simp)) (Or.inl ⟨by rfl, by (intro W hW; obtain ⟨_, _, _, _, _⟩ := hW; go_simp)⟩) ?_
        simp only [Act.put, List.setIfInBounds_toArray, List.set_cons_succ, List.set_cons_zero]
        refine wpAnyY_takeD (i := 6) 14 (v := .agg #[.int .i64 f1, .int .i64 f2]) rfl rfl (by kernel_rfl) (by kernel_rfl) (late_of (by kernel_rfl)) (by kernel_rfl) (by kernel_rfl) (fun _ _ _ h => h) (HSS.out _ _ _ _ _ HS4.out (by simp)) (Or.inl ⟨by rfl, by (intro W hW; obtain ⟨_, _, _, _, _⟩ := hW; go_simp)⟩) ?_
        simp only [Act.put, List.setIfInBounds_toArray, List.set_cons_succ, List.set_cons_zero]
        refine wpAnyY_two (i := 7) (j := 8) rfl rfl (by kernel_rfl) (fun K hK => ?_) (fun K hK => ?_)
        · refine alloc109_step rfl rfl rfl ?_
          intro V5 g5 hV hG
          have HS6 : Hid (LS w O O2 b s s2 oc [(g5, mnL mn0, 109), (gc, [.func (.func 82) #[] #[]], 41), (w.heap.size + 1, flL (0, 0), 32), (w.heap.size, exL h ka kn kc, 102)] V5) := HS4.out.allocE (mnL mn0) 109 hV hG
          refine hK.out _ _ (fun _ => HSS.out _ _ _ _ _ HS6.out (by simp)) ?_
          clear hK K HS4 hV hG
          simp only [Act.put, List.setIfInBounds_toArray, List.set_cons_succ, List.set_cons_zero]
          refine wpAnyY_one (i := 8) rfl (by kernel_rfl) (fun K hK => ?_)
          refine alloc32_step rfl rfl rfl ?_
          intro V7 g6 hV hG
          have HS8 : Hid (LS w O O2 b s s2 oc [(g6, flL (0, 0), 32), (g5, mnL mn0, 109), (gc, [.func (.func 82) #[] #[]], 41), (w.heap.size + 1, flL (0, 0), 32), (w.heap.size, exL h ka kn kc, 102)] V7) := HS6.out.allocE (flL (0, 0)) 32 hV hG
          refine hK.out _ _ (fun _ => HSS.out _ _ _ _ _ HS8.out (by simp)) ?_
          clear hK K HS6 hV hG
          simp only [Act.put, List.setIfInBounds_toArray, List.set_cons_succ, List.set_cons_zero]
          refine wpAnyY_one (i := 9) rfl (by kernel_rfl) (fun K hK => ?_)
          have HF11 : Hid (LS w O O2 b s s2 oc [(g5, mnL mn0, 109), (g6, flL (0, 0), 32), (gc, [.func (.func 82) #[] #[]], 41), (w.heap.size + 1, flL (0, 0), 32), (w.heap.size, exL h ka kn kc, 102)] V7) := HS8.out.front (L1 := [(g6, flL (0, 0), 32)]) (L2 := [(gc, [.func (.func 82) #[] #[]], 41), (w.heap.size + 1, flL (0, 0), 32), (w.heap.size, exL h ka kn kc, 102)]) rfl
          refine store109_step rfl rfl rfl rfl rfl (HF11.out.blk (List.mem_cons_self ..)) ?_
          intro V9 hV
          have HS10 : Hid (LS w O O2 b s s2 oc [(g5, mnL m, 109), (g6, flL (0, 0), 32), (gc, [.func (.func 82) #[] #[]], 41), (w.heap.size + 1, flL (0, 0), 32), (w.heap.size, exL h ka kn kc, 102)] V9) := HF11.out.store109 m HR.out.2.2.1.symm (by rw [hV, HR.out.2.1, HR.out.2.2.2.1, HR.out.2.2.2.2])
          refine hK.out _ _ (fun _ => HSS.out _ _ _ _ _ HS10.out (by simp)) ?_
          clear hK K HS8 hV HF11
          refine wpAnyY_one (i := 10) rfl (by kernel_rfl) (fun K hK => ?_)
          have HF14 : Hid (LS w O O2 b s s2 oc [(g6, flL (0, 0), 32), (g5, mnL m, 109), (gc, [.func (.func 82) #[] #[]], 41), (w.heap.size + 1, flL (0, 0), 32), (w.heap.size, exL h ka kn kc, 102)] V9) := HS10.out.front (L1 := [(g5, mnL m, 109)]) (L2 := [(gc, [.func (.func 82) #[] #[]], 41), (w.heap.size + 1, flL (0, 0), 32), (w.heap.size, exL h ka kn kc, 102)]) rfl
          refine store32_step rfl rfl rfl rfl rfl (HF14.out.blk (List.mem_cons_self ..)) ?_
          intro V12 hV
          have HS13 : Hid (LS w O O2 b s s2 oc [(g6, flL (f1, f2), 32), (g5, mnL m, 109), (gc, [.func (.func 82) #[] #[]], 41), (w.heap.size + 1, flL (0, 0), 32), (w.heap.size, exL h ka kn kc, 102)] V12) := HF14.out.store32 (f1, f2) hV
          refine hK.out _ _ (fun _ => HSS.out _ _ _ _ _ HS13.out (by simp)) ?_
          clear hK K HS10 hV HF14
          refine wpAnyY_done (by kernel_rfl) ?_ _
          go_wp2_with fail
          go_meet
          exact ⟨g5, g6, mt, mx, mp, mn, f1, f2, rfl, rfl, m, oc, O2, s2, HR.out, HS13.out.sub (by simp) (by have := HS13.out.nd; simp at this ⊢; omega)⟩
        · refine alloc32_step rfl rfl rfl ?_
          intro V15 g6 hV hG
          have HS16 : Hid (LS w O O2 b s s2 oc [(g6, flL (0, 0), 32), (gc, [.func (.func 82) #[] #[]], 41), (w.heap.size + 1, flL (0, 0), 32), (w.heap.size, exL h ka kn kc, 102)] V15) := HS4.out.allocE (flL (0, 0)) 32 hV hG
          refine hK.out _ _ (fun _ => HSS.out _ _ _ _ _ HS16.out (by simp)) ?_
          clear hK K HS4 hV hG
          simp only [Act.put, List.setIfInBounds_toArray, List.set_cons_succ, List.set_cons_zero]
          refine wpAnyY_one (i := 7) rfl (by kernel_rfl) (fun K hK => ?_)
          refine alloc109_step rfl rfl rfl ?_
          intro V17 g5 hV hG
          have HS18 : Hid (LS w O O2 b s s2 oc [(g5, mnL mn0, 109), (g6, flL (0, 0), 32), (gc, [.func (.func 82) #[] #[]], 41), (w.heap.size + 1, flL (0, 0), 32), (w.heap.size, exL h ka kn kc, 102)] V17) := HS16.out.allocE (mnL mn0) 109 hV hG
          refine hK.out _ _ (fun _ => HSS.out _ _ _ _ _ HS18.out (by simp)) ?_
          clear hK K HS16 hV hG
          simp only [Act.put, List.setIfInBounds_toArray, List.set_cons_succ, List.set_cons_zero]
          refine wpAnyY_one (i := 9) rfl (by kernel_rfl) (fun K hK => ?_)
          have HF21 : Hid (LS w O O2 b s s2 oc [(g5, mnL mn0, 109), (g6, flL (0, 0), 32), (gc, [.func (.func 82) #[] #[]], 41), (w.heap.size + 1, flL (0, 0), 32), (w.heap.size, exL h ka kn kc, 102)] V17) := HS18.out.front (L1 := []) (L2 := [(g6, flL (0, 0), 32), (gc, [.func (.func 82) #[] #[]], 41), (w.heap.size + 1, flL (0, 0), 32), (w.heap.size, exL h ka kn kc, 102)]) rfl
          refine store109_step rfl rfl rfl rfl rfl (HF21.out.blk (List.mem_cons_self ..)) ?_
          intro V19 hV
          have HS20 : Hid (LS w O O2 b s s2 oc [(g5, mnL m, 109), (g6, flL (0, 0), 32), (gc, [.func (.func 82) #[] #[]], 41), (w.heap.size + 1, flL (0, 0), 32), (w.heap.size, exL h ka kn kc, 102)] V19) := HF21.out.store109 m HR.out.2.2.1.symm (by rw [hV, HR.out.2.1, HR.out.2.2.2.1, HR.out.2.2.2.2])
          refine hK.out _ _ (fun _ => HSS.out _ _ _ _ _ HS20.out (by simp)) ?_
          clear hK K HS18 hV HF21
          refine wpAnyY_one (i := 10) rfl (by kernel_rfl) (fun K hK => ?_)
          have HF24 : Hid (LS w O O2 b s s2 oc [(g6, flL (0, 0), 32), (g5, mnL m, 109), (gc, [.func (.func 82) #[] #[]], 41), (w.heap.size + 1, flL (0, 0), 32), (w.heap.size, exL h ka kn kc, 102)] V19) := HS20.out.front (L1 := [(g5, mnL m, 109)]) (L2 := [(gc, [.func (.func 82) #[] #[]], 41), (w.heap.size + 1, flL (0, 0), 32), (w.heap.size, exL h ka kn kc, 102)]) rfl
          refine store32_step rfl rfl rfl rfl rfl (HF24.out.blk (List.mem_cons_self ..)) ?_
          intro V22 hV
          have HS23 : Hid (LS w O O2 b s s2 oc [(g6, flL (f1, f2), 32), (g5, mnL m, 109), (gc, [.func (.func 82) #[] #[]], 41), (w.heap.size + 1, flL (0, 0), 32), (w.heap.size, exL h ka kn kc, 102)] V22) := HF24.out.store32 (f1, f2) hV
          refine hK.out _ _ (fun _ => HSS.out _ _ _ _ _ HS23.out (by simp)) ?_
          clear hK K HS20 hV HF24
          refine wpAnyY_done (by kernel_rfl) ?_ _
          go_wp2_with fail
          go_meet
          exact ⟨g5, g6, mt, mx, mp, mn, f1, f2, rfl, rfl, m, oc, O2, s2, HR.out, HS23.out.sub (by simp) (by have := HS23.out.nd; simp at this ⊢; omega)⟩
      · refine alloc109_step rfl rfl rfl ?_
        intro V25 g5 hV hG
        have HS26 : Hid (LS w O O1 b s s (some c) [(g5, mnL mn0, 109), (gc, [.func (.func 82) #[] #[]], 41), (w.heap.size + 1, flL (0, 0), 32), (w.heap.size, exL h ka kn kc, 102)] V25) := HS2.out.allocE (mnL mn0) 109 hV hG
        refine hK.out _ _ (fun _ => HSS.out _ _ _ _ _ HS26.out (by simp)) ?_
        clear hK K HS2 hV hG
        simp only [Act.put, List.setIfInBounds_toArray, List.set_cons_succ, List.set_cons_zero]
        refine wpAnyY_two (i := 3) (j := 8) rfl rfl (by kernel_rfl) (fun K hK => ?_) (fun K hK => ?_)
        · refine call89_step rfl rfl rfl rfl rfl rfl ?_
          refine (HA1.out _ _ _ _ gc HS26.out (by simp)).mono ?_
          rintro e V27 ⟨mt, mx, mp, mn, f1, f2, rfl, hV⟩
          refine ⟨_, rfl, ?_⟩
          obtain ⟨m, oc, O2, s2, hm, hRQ, hLS⟩ := hV.out
          have HS28 : Hid (LS w O O2 b s s2 oc [(g5, mnL mn0, 109), (gc, [.func (.func 82) #[] #[]], 41), (w.heap.size + 1, flL (0, 0), 32), (w.heap.size, exL h ka kn kc, 102)] V27) := hLS
          have HR : Hid (RQ r1 m (f1, f2) oc ∧ m.isText = mt ∧ bs m.text = mx ∧ m.place = mp ∧ m.num = mn) := ⟨hRQ, hm⟩
          refine hK.out _ _ (fun _ => HSS.out _ _ _ _ _ HS28.out (by simp)) ?_
          clear hK K HS26 hV hm hRQ hLS
          simp only [Act.put, List.setIfInBounds_toArray, List.set_cons_succ, List.set_cons_zero]
          refine wpAnyY_takeD (i := 4) 8 (v := .tuple #[.agg #[.bool mt, .string mx, .int .i64 mp, .int .i64 mn], .agg #[.int .i64 f1, .int .i64 f2]]) rfl rfl (by kernel_rfl) (by kernel_rfl) (late_of (by kernel_rfl)) (by kernel_rfl) (by kernel_rfl) (fun _ _ _ h => h) (HSS.out _ _ _ _ _ HS28.out (by simp)) (Or.inl ⟨by rfl, by (intro W hW; obtain ⟨_, _, _, _, _⟩ := hW; go_simp)⟩) ?_
          simp only [Act.put, List.setIfInBounds_toArray, List.set_cons_succ, List.set_cons_zero]
          refine wpAnyY_takeD (i := 5) 13 (v := .agg #[.bool mt, .string mx, .int .i64 mp, .int .i64 mn]) rfl rfl (by kernel_rfl) (by kernel_rfl) (late_of (by kernel_rfl)) (by kernel_rfl) (by kernel_rfl) (fun _ _ _ h => h) (HSS.out _ _ _ _ _ HS28.out (by simp)) (Or.inl ⟨by rfl, by (intro W hW; obtain ⟨_, _, _, _, _⟩ := hW; go_simp)⟩) ?_
          simp only [Act.put, List.setIfInBounds_toArray, List.set_cons_succ, List.set_cons_zero]
          refine wpAnyY_takeD (i := 6) 14 (v := .agg #[.int .i64 f1, .int .i64 f2]) rfl rfl (by kernel_rfl) (by kernel_rfl) (late_of (by kernel_rfl)) (by kernel_rfl) (by kernel_rfl) (fun _ _ _ h => h) (HSS.out _ _ _ _ _ HS28.out (by simp)) (Or.inl ⟨by rfl, by (intro W hW; obtain ⟨_, _, _, _, _⟩ := hW; go_simp)⟩) ?_
          simp only [Act.put, List.setIfInBounds_toArray, List.set_cons_succ, List.set_cons_zero]
          refine wpAnyY_one (i := 8) rfl (by kernel_rfl) (fun K hK => ?_)
          refine alloc32_step rfl rfl rfl ?_
          intro V29 g6 hV hG
          have HS30 : Hid (LS w O O2 b s s2 oc [(g6, flL (0, 0), 32), (g5, mnL mn0, 109), (gc, [.func (.func 82) #[] #[]], 41), (w.heap.size + 1, flL (0, 0), 32), (w.heap.size, exL h ka kn kc, 102)] V29) := HS28.out.allocE (flL (0, 0)) 32 hV hG
          refine hK.out _ _ (fun _ => HSS.out _ _ _ _ _ HS30.out (by simp)) ?_
          clear hK K HS28 hV hG
          simp only [Act.put, List.setIfInBounds_toArray, List.set_cons_succ, List.set_cons_zero]
          refine wpAnyY_one (i := 9) rfl (by kernel_rfl) (fun K hK => ?_)
          have HF33 : Hid (LS w O O2 b s s2 oc [(g5, mnL mn0, 109), (g6, flL (0, 0), 32), (gc, [.func (.func 82) #[] #[]], 41), (w.heap.size + 1, flL (0, 0), 32), (w.heap.size, exL h ka kn kc, 102)] V29) := HS30.out.front (L1 := [(g6, flL (0, 0), 32)]) (L2 := [(gc, [.func (.func 82) #[] #[]], 41), (w.heap.size + 1, flL (0, 0), 32), (w.heap.size, exL h ka kn kc, 102)]) rfl
          refine store109_step rfl rfl rfl rfl rfl (HF33.out.blk (List.mem_cons_self ..)) ?_
          intro V31 hV
          have HS32 : Hid (LS w O O2 b s s2 oc [(g5, mnL m, 109), (g6, flL (0, 0), 32), (gc, [.func (.func 82) #[] #[]], 41), (w.heap.size + 1, flL (0, 0), 32), (w.heap.size, exL h ka kn kc, 102)] V31) := HF33.out.store109 m HR.out.2.2.1.symm (by rw [hV, HR.out.2.1, HR.out.2.2.2.1, HR.out.2.2.2.2])
          refine hK.out _ _ (fun _ => HSS.out _ _ _ _ _ HS32.out (by simp)) ?_
          clear hK K HS30 hV HF33
          refine wpAnyY_one (i := 10) rfl (by kernel_rfl) (fun K hK => ?_)
          have HF36 : Hid (LS w O O2 b s s2 oc [(g6, flL (0, 0), 32), (g5, mnL m, 109), (gc, [.func (.func 82) #[] #[]], 41), (w.heap.size + 1, flL (0, 0), 32), (w.heap.size, exL h ka kn kc, 102)] V31) := HS32.out.front (L1 := [(g5, mnL m, 109)]) (L2 := [(gc, [.func (.func 82) #[] #[]], 41), (w.heap.size + 1, flL (0, 0), 32), (w.heap.size, exL h ka kn kc, 102)]) rfl
          refine store32_step rfl rfl rfl rfl rfl (HF36.out.blk (List.mem_cons_self ..)) ?_
          intro V34 hV
          have HS35 : Hid (LS w O O2 b s s2 oc [(g6, flL (f1, f2), 32), (g5, mnL m, 109), (gc, [.func (.func 82) #[] #[]], 41), (w.heap.size + 1, flL (0, 0), 32), (w.heap.size, exL h ka kn kc, 102)] V34) := HF36.out.store32 (f1, f2) hV
          refine hK.out _ _ (fun _ => HSS.out _ _ _ _ _ HS35.out (by simp)) ?_
          clear hK K HS32 hV HF36
          refine wpAnyY_done (by kernel_rfl) ?_ _
          go_wp2_with fail
          go_meet
          exact ⟨g5, g6, mt, mx, mp, mn, f1, f2, rfl, rfl, m, oc, O2, s2, HR.out, HS35.out.sub (by simp) (by have := HS35.out.nd; simp at this ⊢; omega)⟩
        · refine alloc32_step rfl rfl rfl ?_
          intro V37 g6 hV hG
          have HS38 : Hid (LS w O O1 b s s (some c) [(g6, flL (0, 0), 32), (g5, mnL mn0, 109), (gc, [.func (.func 82) #[] #[]], 41), (w.heap.size + 1, flL (0, 0), 32), (w.heap.size, exL h ka kn kc, 102)] V37) := HS26.out.allocE (flL (0, 0)) 32 hV hG
          refine hK.out _ _ (fun _ => HSS.out _ _ _ _ _ HS38.out (by simp)) ?_
          clear hK K HS26 hV hG
          simp only [Act.put, List.setIfInBounds_toArray, List.set_cons_succ, List.set_cons_zero]
          refine wpAnyY_one (i := 3) rfl (by kernel_rfl) (fun K hK => ?_)
          refine call89_step rfl rfl rfl rfl rfl rfl ?_
          refine (HA1.out _ _ _ _ gc HS38.out (by simp)).mono ?_
          rintro e V39 ⟨mt, mx, mp, mn, f1, f2, rfl, hV⟩
          refine ⟨_, rfl, ?_⟩
          obtain ⟨m, oc, O2, s2, hm, hRQ, hLS⟩ := hV.out
          have HS40 : Hid (LS w O O2 b s s2 oc [(g6, flL (0, 0), 32), (g5, mnL mn0, 109), (gc, [.func (.func 82) #[] #[]], 41), (w.heap.size + 1, flL (0, 0), 32), (w.heap.size, exL h ka kn kc, 102)] V39) := hLS
          have HR : Hid (RQ r1 m (f1, f2) oc ∧ m.isText = mt ∧ bs m.text = mx ∧ m.place = mp ∧ m.num = mn) := ⟨hRQ, hm⟩
          refine hK.out _ _ (fun _ => HSS.out _ _ _ _ _ HS40.out (by simp)) ?_
          clear hK K HS38 hV hm hRQ hLS
          simp only [Act.put, List.setIfInBounds_toArray, List.set_cons_succ, List.set_cons_zero]
          refine wpAnyY_takeD (i := 4) 8 (v := .tuple #[.agg #[.bool mt, .string mx, .int .i64 mp, .int .i64 mn], .agg #[.int .i64 f1, .int .i64 f2]]) rfl rfl (by kernel_rfl) (by kernel_rfl) (late_of (by kernel_rfl)) (by kernel_rfl) (by kernel_rfl) (fun _ _ _ h => h) (HSS.out _ _ _ _ _ HS40.out (by simp)) (Or.inl ⟨by rfl, by (intro W hW; obtain ⟨_, _, _, _, _⟩ := hW; go_simp)⟩) ?_
          simp only [Act.put, List.setIfInBounds_toArray, List.set_cons_succ, List.set_cons_zero]
          refine wpAnyY_takeD (i := 5) 13 (v := .agg #[.bool mt, .string mx, .int .i64 mp, .int .i64 mn]) rfl rfl (by kernel_rfl) (by kernel_rfl) (late_of (by kernel_rfl)) (by kernel_rfl) (by kernel_rfl) (fun _ _ _ h => h) (HSS.out _ _ _ _ _ HS40.out (by simp)) (Or.inl ⟨by rfl, by (intro W hW; obtain ⟨_, _, _, _, _⟩ := hW; go_simp)⟩) ?_
          simp only [Act.put, List.setIfInBounds_toArray, List.set_cons_succ, List.set_cons_zero]
          refine wpAnyY_takeD (i := 6) 14 (v := .agg #[.int .i64 f1, .int .i64 f2]) rfl rfl (by kernel_rfl) (by kernel_rfl) (late_of (by kernel_rfl)) (by kernel_rfl) (by kernel_rfl) (fun _ _ _ h => h) (HSS.out _ _ _ _ _ HS40.out (by simp)) (Or.inl ⟨by rfl, by (intro W hW; obtain ⟨_, _, _, _, _⟩ := hW; go_simp)⟩) ?_
          simp only [Act.put, List.setIfInBounds_toArray, List.set_cons_succ, List.set_cons_zero]
          refine wpAnyY_one (i := 9) rfl (by kernel_rfl) (fun K hK => ?_)
          have HF43 : Hid (LS w O O2 b s s2 oc [(g5, mnL mn0, 109), (g6, flL (0, 0), 32), (gc, [.func (.func 82) #[] #[]], 41), (w.heap.size + 1, flL (0, 0), 32), (w.heap.size, exL h ka kn kc, 102)] V39) := HS40.out.front (L1 := [(g6, flL (0, 0), 32)]) (L2 := [(gc, [.func (.func 82) #[] #[]], 41), (w.heap.size + 1, flL (0, 0), 32), (w.heap.size, exL h ka kn kc, 102)]) rfl
          refine store109_step rfl rfl rfl rfl rfl (HF43.out.blk (List.mem_cons_self ..)) ?_
          intro V41 hV
          have HS42 : Hid (LS w O O2 b s s2 oc [(g5, mnL m, 109), (g6, flL (0, 0), 32), (gc, [.func (.func 82) #[] #[]], 41), (w.heap.size + 1, flL (0, 0), 32), (w.heap.size, exL h ka kn kc, 102)] V41) := HF43.out.store109 m HR.out.2.2.1.symm (by rw [hV, HR.out.2.1, HR.out.2.2.2.1, HR.out.2.2.2.2])
          refine hK.out _ _ (fun _ => HSS.out _ _ _ _ _ HS42.out (by simp)) ?_
          clear hK K HS40 hV HF43
          refine wpAnyY_one (i := 10) rfl (by kernel_rfl) (fun K hK => ?_)
          have HF46 : Hid (LS w O O2 b s s2 oc [(g6, flL (0, 0), 32), (g5, mnL m, 109), (gc, [.func (.func 82) #[] #[]], 41), (w.heap.size + 1, flL (0, 0), 32), (w.heap.size, exL h ka kn kc, 102)] V41) := HS42.out.front (L1 := [(g5, mnL m, 109)]) (L2 := [(gc, [.func (.func 82) #[] #[]], 41), (w.heap.size + 1, flL (0, 0), 32), (w.heap.size, exL h ka kn kc, 102)]) rfl
          refine store32_step rfl rfl rfl rfl rfl (HF46.out.blk (List.mem_cons_self ..)) ?_
          intro V44 hV
          have HS45 : Hid (LS w O O2 b s s2 oc [(g6, flL (f1, f2), 32), (g5, mnL m, 109), (gc, [.func (.func 82) #[] #[]], 41), (w.heap.size + 1, flL (0, 0), 32), (w.heap.size, exL h ka kn kc, 102)] V44) := HF46.out.store32 (f1, f2) hV
          refine hK.out _ _ (fun _ => HSS.out _ _ _ _ _ HS45.out (by simp)) ?_
          clear hK K HS42 hV HF46
          refine wpAnyY_done (by kernel_rfl) ?_ _
          go_wp2_with fail
          go_meet
          exact ⟨g5, g6, mt, mx, mp, mn, f1, f2, rfl, rfl, m, oc, O2, s2, HR.out, HS45.out.sub (by simp) (by have := HS45.out.nd; simp at this ⊢; omega)⟩
      · refine alloc32_step rfl rfl rfl ?_
        intro V47 g6 hV hG
        have HS48 : Hid (LS w O O1 b s s (some c) [(g6, flL (0, 0), 32), (gc, [.func (.func 82) #[] #[]], 41), (w.heap.size + 1, flL (0, 0), 32), (w.heap.size, exL h ka kn kc, 102)] V47) := HS2.out.allocE (flL (0, 0)) 32 hV hG
        refine hK.out _ _ (fun _ => HSS.out _ _ _ _ _ HS48.out (by simp)) ?_
        clear hK K HS2 hV hG
        simp only [Act.put, List.setIfInBounds_toArray, List.set_cons_succ, List.set_cons_zero]
        refine wpAnyY_two (i := 3) (j := 7) rfl rfl (by kernel_rfl) (fun K hK => ?_) (fun K hK => ?_)
        · refine call89_step rfl rfl rfl rfl rfl rfl ?_
          refine (HA1.out _ _ _ _ gc HS48.out (by simp)).mono ?_
          rintro e V49 ⟨mt, mx, mp, mn, f1, f2, rfl, hV⟩
          refine ⟨_, rfl, ?_⟩
          obtain ⟨m, oc, O2, s2, hm, hRQ, hLS⟩ := hV.out
          have HS50 : Hid (LS w O O2 b s s2 oc [(g6, flL (0, 0), 32), (gc, [.func (.func 82) #[] #[]], 41), (w.heap.size + 1, flL (0, 0), 32), (w.heap.size, exL h ka kn kc, 102)] V49) := hLS
          have HR : Hid (RQ r1 m (f1, f2) oc ∧ m.isText = mt ∧ bs m.text = mx ∧ m.place = mp ∧ m.num = mn) := ⟨hRQ, hm⟩
          refine hK.out _ _ (fun _ => HSS.out _ _ _ _ _ HS50.out (by simp)) ?_
          clear hK K HS48 hV hm hRQ hLS
          simp only [Act.put, List.setIfInBounds_toArray, List.set_cons_succ, List.set_cons_zero]
          refine wpAnyY_takeD (i := 4) 8 (v := .tuple #[.agg #[.bool mt, .string mx, .int .i64 mp, .int .i64 mn], .agg #[.int .i64 f1, .int .i64 f2]]) rfl rfl (by kernel_rfl) (by kernel_rfl) (late_of (by kernel_rfl)) (by kernel_rfl) (by kernel_rfl) (fun _ _ _ h => h) (HSS.out _ _ _ _ _ HS50.out (by simp)) (Or.inl ⟨by rfl, by (intro W hW; obtain ⟨_, _, _, _, _⟩ := hW; go_simp)⟩) ?_
          simp only [Act.put, List.setIfInBounds_toArray, List.set_cons_succ, List.set_cons_zero]
          refine wpAnyY_takeD (i := 5) 13 (v := .agg #[.bool mt, .string mx, .int .i64 mp, .int .i64 mn]) rfl rfl (by kernel_rfl) (by kernel_rfl) (late_of (by kernel_rfl)) (by kernel_rfl) (by kernel_rfl) (fun _ _ _ h => h) (HSS.out _ _ _ _ _ HS50.out (by simp)) (Or.inl ⟨by rfl, by (intro W hW; obtain ⟨_, _, _, _, _⟩ := hW; go_simp)⟩) ?_
          simp only [Act.put, List.setIfInBounds_toArray, List.set_cons_succ, List.set_cons_zero]
          refine wpAnyY_takeD (i := 6) 14 (v := .agg #[.int .i64 f1, .int .i64 f2]) rfl rfl (by kernel_rfl) (by kernel_rfl) (late_of (by kernel_rfl)) (by kernel_rfl) (by kernel_rfl) (fun _ _ _ h => h) (HSS.out _ _ _ _ _ HS50.out (by simp)) (Or.inl ⟨by rfl, by (intro W hW; obtain ⟨_, _, _, _, _⟩ := hW; go_simp)⟩) ?_
          simp only [Act.put, List.setIfInBounds_toArray, List.set_cons_succ, List.set_cons_zero]
          refine wpAnyY_one (i := 7) rfl (by kernel_rfl) (fun K hK => ?_)
          refine alloc109_step rfl rfl rfl ?_
          intro V51 g5 hV hG
          have HS52 : Hid (LS w O O2 b s s2 oc [(g5, mnL mn0, 109), (g6, flL (0, 0), 32), (gc, [.func (.func 82) #[] #[]], 41), (w.heap.size + 1, flL (0, 0), 32), (w.heap.size, exL h ka kn kc, 102)] V51) := HS50.out.allocE (mnL mn0) 109 hV hG
          refine hK.out _ _ (fun _ => HSS.out _ _ _ _ _ HS52.out (by simp)) ?_
          clear hK K HS50 hV hG
          simp only [Act.put, List.setIfInBounds_toArray, List.set_cons_succ, List.set_cons_zero]
          refine wpAnyY_one (i := 9) rfl (by kernel_rfl) (fun K hK => ?_)
          have HF55 : Hid (LS w O O2 b s s2 oc [(g5, mnL mn0, 109), (g6, flL (0, 0), 32), (gc, [.func (.func 82) #[] #[]], 41), (w.heap.size + 1, flL (0, 0), 32), (w.heap.size, exL h ka kn kc, 102)] V51) := HS52.out.front (L1 := []) (L2 := [(g6, flL (0, 0), 32), (gc, [.func (.func 82) #[] #[]], 41), (w.heap.size + 1, flL (0, 0), 32), (w.heap.size, exL h ka kn kc, 102)]) rfl
          refine store109_step rfl rfl rfl rfl rfl (HF55.out.blk (List.mem_cons_self ..)) ?_
          intro V53 hV
          have HS54 : Hid (LS w O O2 b s s2 oc [(g5, mnL m, 109), (g6, flL (0, 0), 32), (gc, [.func (.func 82) #[] #[]], 41), (w.heap.size + 1, flL (0, 0), 32), (w.heap.size, exL h ka kn kc, 102)] V53) := HF55.out.store109 m HR.out.2.2.1.symm (by rw [hV, HR.out.2.1, HR.out.2.2.2.1, HR.out.2.2.2.2])
          refine hK.out _ _ (fun _ => HSS.out _ _ _ _ _ HS54.out (by simp)) ?_
          clear hK K HS52 hV HF55
          refine wpAnyY_one (i := 10) rfl (by kernel_rfl) (fun K hK => ?_)
          have HF58 : Hid (LS w O O2 b s s2 oc [(g6, flL (0, 0), 32), (g5, mnL m, 109), (gc, [.func (.func 82) #[] #[]], 41), (w.heap.size + 1, flL (0, 0), 32), (w.heap.size, exL h ka kn kc, 102)] V53) := HS54.out.front (L1 := [(g5, mnL m, 109)]) (L2 := [(gc, [.func (.func 82) #[] #[]], 41), (w.heap.size + 1, flL (0, 0), 32), (w.heap.size, exL h ka kn kc, 102)]) rfl
          refine store32_step rfl rfl rfl rfl rfl (HF58.out.blk (List.mem_cons_self ..)) ?_
          intro V56 hV
          have HS57 : Hid (LS w O O2 b s s2 oc [(g6, flL (f1, f2), 32), (g5, mnL m, 109), (gc, [.func (.func 82) #[] #[]], 41), (w.heap.size + 1, flL (0, 0), 32), (w.heap.size, exL h ka kn kc, 102)] V56) := HF58.out.store32 (f1, f2) hV
          refine hK.out _ _ (fun _ => HSS.out _ _ _ _ _ HS57.out (by simp)) ?_
          clear hK K HS54 hV HF58
          refine wpAnyY_done (by kernel_rfl) ?_ _
          go_wp2_with fail
          go_meet
          exact ⟨g5, g6, mt, mx, mp, mn, f1, f2, rfl, rfl, m, oc, O2, s2, HR.out, HS57.out.sub (by simp) (by have := HS57.out.nd; simp at this ⊢; omega)⟩
        · refine alloc109_step rfl rfl rfl ?_
          intro V59 g5 hV hG
          have HS60 : Hid (LS w O O1 b s s (some c) [(g5, mnL mn0, 109), (g6, flL (0, 0), 32), (gc, [.func (.func 82) #[] #[]], 41), (w.heap.size + 1, flL (0, 0), 32), (w.heap.size, exL h ka kn kc, 102)] V59) := HS48.out.allocE (mnL mn0) 109 hV hG
          refine hK.out _ _ (fun _ => HSS.out _ _ _ _ _ HS60.out (by simp)) ?_
          clear hK K HS48 hV hG
          simp only [Act.put, List.setIfInBounds_toArray, List.set_cons_succ, List.set_cons_zero]
          refine wpAnyY_one (i := 3) rfl (by kernel_rfl) (fun K hK => ?_)
          refine call89_step rfl rfl rfl rfl rfl rfl ?_
          refine (HA1.out _ _ _ _ gc HS60.out (by simp)).mono ?_
          rintro e V61 ⟨mt, mx, mp, mn, f1, f2, rfl, hV⟩
          refine ⟨_, rfl, ?_⟩
          obtain ⟨m, oc, O2, s2, hm, hRQ, hLS⟩ := hV.out
          have HS62 : Hid (LS w O O2 b s s2 oc [(g5, mnL mn0, 109), (g6, flL (0, 0), 32), (gc, [.func (.func 82) #[] #[]], 41), (w.heap.size + 1, flL (0, 0), 32), (w.heap.size, exL h ka kn kc, 102)] V61) := hLS
          have HR : Hid (RQ r1 m (f1, f2) oc ∧ m.isText = mt ∧ bs m.text = mx ∧ m.place = mp ∧ m.num = mn) := ⟨hRQ, hm⟩
          refine hK.out _ _ (fun _ => HSS.out _ _ _ _ _ HS62.out (by simp)) ?_
          clear hK K HS60 hV hm hRQ hLS
          simp only [Act.put, List.setIfInBounds_toArray, List.set_cons_succ, List.set_cons_zero]
          refine wpAnyY_takeD (i := 4) 8 (v := .tuple #[.agg #[.bool mt, .string mx, .int .i64 mp, .int .i64 mn], .agg #[.int .i64 f1, .int .i64 f2]]) rfl rfl (by kernel_rfl) (by kernel_rfl) (late_of (by kernel_rfl)) (by kernel_rfl) (by kernel_rfl) (fun _ _ _ h => h) (HSS.out _ _ _ _ _ HS62.out (by simp)) (Or.inl ⟨by rfl, by (intro W hW; obtain ⟨_, _, _, _, _⟩ := hW; go_simp)⟩) ?_
          simp only [Act.put, List.setIfInBounds_toArray, List.set_cons_succ, List.set_cons_zero]
          refine wpAnyY_takeD (i := 5) 13 (v := .agg #[.bool mt, .string mx, .int .i64 mp, .int .i64 mn]) rfl rfl (by kernel_rfl) (by kernel_rfl) (late_of (by kernel_rfl)) (by kernel_rfl) (by kernel_rfl) (fun _ _ _ h => h) (HSS.out _ _ _ _ _ HS62.out (by simp)) (Or.inl ⟨by rfl, by (intro W hW; obtain ⟨_, _, _, _, _⟩ := hW; go_simp)⟩) ?_
          simp only [Act.put, List.setIfInBounds_toArray, List.set_cons_succ, List.set_cons_zero]
          refine wpAnyY_takeD (i := 6) 14 (v := .agg #[.int .i64 f1, .int .i64 f2]) rfl rfl (by kernel_rfl) (by kernel_rfl) (late_of (by kernel_rfl)) (by kernel_rfl) (by kernel_rfl) (fun _ _ _ h => h) (HSS.out _ _ _ _ _ HS62.out (by simp)) (Or.inl ⟨by rfl, by (intro W hW; obtain ⟨_, _, _, _, _⟩ := hW; go_simp)⟩) ?_
          simp only [Act.put, List.setIfInBounds_toArray, List.set_cons_succ, List.set_cons_zero]
          refine wpAnyY_one (i := 9) rfl (by kernel_rfl) (fun K hK => ?_)
          have HF65 : Hid (LS w O O2 b s s2 oc [(g5, mnL mn0, 109), (g6, flL (0, 0), 32), (gc, [.func (.func 82) #[] #[]], 41), (w.heap.size + 1, flL (0, 0), 32), (w.heap.size, exL h ka kn kc, 102)] V61) := HS62.out.front (L1 := []) (L2 := [(g6, flL (0, 0), 32), (gc, [.func (.func 82) #[] #[]], 41), (w.heap.size + 1, flL (0, 0), 32), (w.heap.size, exL h ka kn kc, 102)]) rfl
          refine store109_step rfl rfl rfl rfl rfl (HF65.out.blk (List.mem_cons_self ..)) ?_
          intro V63 hV
          have HS64 : Hid (LS w O O2 b s s2 oc [(g5, mnL m, 109), (g6, flL (0, 0), 32), (gc, [.func (.func 82) #[] #[]], 41), (w.heap.size + 1, flL (0, 0), 32), (w.heap.size, exL h ka kn kc, 102)] V63) := HF65.out.store109 m HR.out.2.2.1.symm (by rw [hV, HR.out.2.1, HR.out.2.2.2.1, HR.out.2.2.2.2])
          refine hK.out _ _ (fun _ => HSS.out _ _ _ _ _ HS64.out (by simp)) ?_
          clear hK K HS62 hV HF65
          refine wpAnyY_one (i := 10) rfl (by kernel_rfl) (fun K hK => ?_)
          have HF68 : Hid (LS w O O2 b s s2 oc [(g6, flL (0, 0), 32), (g5, mnL m, 109), (gc, [.func (.func 82) #[] #[]], 41), (w.heap.size + 1, flL (0, 0), 32), (w.heap.size, exL h ka kn kc, 102)] V63) := HS64.out.front (L1 := [(g5, mnL m, 109)]) (L2 := [(gc, [.func (.func 82) #[] #[]], 41), (w.heap.size + 1, flL (0, 0), 32), (w.heap.size, exL h ka kn kc, 102)]) rfl
          refine store32_step rfl rfl rfl rfl rfl (HF68.out.blk (List.mem_cons_self ..)) ?_
          intro V66 hV
          have HS67 : Hid (LS w O O2 b s s2 oc [(g6, flL (f1, f2), 32), (g5, mnL m, 109), (gc, [.func (.func 82) #[] #[]], 41), (w.heap.size + 1, flL (0, 0), 32), (w.heap.size, exL h ka kn kc, 102)] V66) := HF68.out.store32 (f1, f2) hV
          refine hK.out _ _ (fun _ => HSS.out _ _ _ _ _ HS67.out (by simp)) ?_
          clear hK K HS64 hV HF68
          refine wpAnyY_done (by kernel_rfl) ?_ _
          go_wp2_with fail
          go_meet
          exact ⟨g5, g6, mt, mx, mp, mn, f1, f2, rfl, rfl, m, oc, O2, s2, HR.out, HS67.out.sub (by simp) (by have := HS67.out.nd; simp at this ⊢; omega)⟩
    · refine alloc109_step rfl rfl rfl ?_
      intro V69 g5 hV hG
      have HS70 : Hid (LS w O O1 b s s (some c) [(g5, mnL mn0, 109), (w.heap.size + 1, flL (0, 0), 32), (w.heap.size, exL h ka kn kc, 102)] V69) := HS0.out.allocE (mnL mn0) 109 hV hG
      refine hK.out _ _ (fun _ => HSS.out _ _ _ _ _ HS70.out (by simp)) ?_
      clear hK K HS0 hV hG
      simp only [Act.put, List.setIfInBounds_toArray, List.set_cons_succ, List.set_cons_zero]
      refine wpAnyY_two (i := 2) (j := 8) rfl rfl (by kernel_rfl) (fun K hK => ?_) (fun K hK => ?_)
      · refine call90c_step rfl rfl rfl ?_
        intro V71 gc hV hG
        have HS72 : Hid (LS w O O1 b s s (some c) [(gc, [.func (.func 82) #[] #[]], 41), (g5, mnL mn0, 109), (w.heap.size + 1, flL (0, 0), 32), (w.heap.size, exL h ka kn kc, 102)] V71) := HS70.out.allocE _ 41 hV hG
        refine hK.out _ _ (fun _ => HSS.out _ _ _ _ _ HS72.out (by simp)) ?_
        clear hK K HS70 hV hG
        simp only [Act.put, List.setIfInBounds_toArray, List.set_cons_succ, List.set_cons_zero]
        refine wpAnyY_two (i := 3) (j := 8) rfl rfl (by kernel_rfl) (fun K hK => ?_) (fun K hK => ?_)
        · refine call89_step rfl rfl rfl rfl rfl rfl ?_
          refine (HA1.out _ _ _ _ gc HS72.out (by simp)).mono ?_
          rintro e V73 ⟨mt, mx, mp, mn, f1, f2, rfl, hV⟩
          refine ⟨_, rfl, ?_⟩
          obtain ⟨m, oc, O2, s2, hm, hRQ, hLS⟩ := hV.out
          have HS74 : Hid (LS w O O2 b s s2 oc [(gc, [.func (.func 82) #[] #[]], 41), (g5, mnL mn0, 109), (w.heap.size + 1, flL (0, 0), 32), (w.heap.size, exL h ka kn kc, 102)] V73) := hLS
          have HR : Hid (RQ r1 m (f1, f2) oc ∧ m.isText = mt ∧ bs m.text = mx ∧ m.place = mp ∧ m.num = mn) := ⟨hRQ, hm⟩
          refine hK.out _ _ (fun _ => HSS.out _ _ _ _ _ HS74.out (by simp)) ?_
          clear hK K HS72 hV hm hRQ hLS
          simp only [Act.put, List.setIfInBounds_toArray, List.set_cons_succ, List.set_cons_zero]
          refine wpAnyY_takeD (i := 4) 8 (v := .tuple #[.agg #[.bool mt, .string mx, .int .i64 mp, .int .i64 mn], .agg #[.int .i64 f1, .int .i64 f2]]) rfl rfl (by kernel_rfl) (by kernel_rfl) (late_of (by kernel_rfl)) (by kernel_rfl) (by kernel_rfl) (fun _ _ _ h => h) (HSS.out _ _ _ _ _ HS74.out (by simp)) (Or.inl ⟨by rfl, by (intro W hW; obtain ⟨_, _, _, _, _⟩ := hW; go_simp)⟩) ?_
          simp only [Act.put, List.setIfInBounds_toArray, List.set_cons_succ, List.set_cons_zero]
          refine wpAnyY_takeD (i := 5) 13 (v := .agg #[.bool mt, .string mx, .int .i64 mp, .int .i64 mn]) rfl rfl (by kernel_rfl) (by kernel_rfl) (late_of (by kernel_rfl)) (by kernel_rfl) (by kernel_rfl) (fun _ _ _ h => h) (HSS.out _ _ _ _ _ HS74.out (by simp)) (Or.inl ⟨by rfl, by (intro W hW; obtain ⟨_, _, _, _, _⟩ := hW; go_simp)⟩) ?_
          simp only [Act.put, List.setIfInBounds_toArray, List.set_cons_succ, List.set_cons_zero]
          refine wpAnyY_takeD (i := 6) 14 (v := .agg #[.int .i64 f1, .int .i64 f2]) rfl rfl (by kernel_rfl) (by kernel_rfl) (late_of (by kernel_rfl)) (by kernel_rfl) (by kernel_rfl) (fun _ _ _ h => h) (HSS.out _ _ _ _ _ HS74.out (by simp)) (Or.inl ⟨by rfl, by (intro W hW; obtain ⟨_, _, _, _, _⟩ := hW; go_simp)⟩) ?_
          simp only [Act.put, List.setIfInBounds_toArray, List.set_cons_succ, List.set_cons_zero]
          refine wpAnyY_one (i := 8) rfl (by kernel_rfl) (fun K hK => ?_)
          refine alloc32_step rfl rfl rfl ?_
          intro V75 g6 hV hG
          have HS76 : Hid (LS w O O2 b s s2 oc [(g6, flL (0, 0), 32), (gc, [.func (.func 82) #[] #[]], 41), (g5, mnL mn0, 109), (w.heap.size + 1, flL (0, 0), 32), (w.heap.size, exL h ka kn kc, 102)] V75) := HS74.out.allocE (flL (0, 0)) 32 hV hG
          refine hK.out _ _ (fun _ => HSS.out _ _ _ _ _ HS76.out (by simp)) ?_
          clear hK K HS74 hV hG
          simp only [Act.put, List.setIfInBounds_toArray, List.set_cons_succ, List.set_cons_zero]
          refine wpAnyY_one (i := 9) rfl (by kernel_rfl) (fun K hK => ?_)
          have HF79 : Hid (LS w O O2 b s s2 oc [(g5, mnL mn0, 109), (g6, flL (0, 0), 32), (gc, [.func (.func 82) #[] #[]], 41), (w.heap.size + 1, flL (0, 0), 32), (w.heap.size, exL h ka kn kc, 102)] V75) := HS76.out.front (L1 := [(g6, flL (0, 0), 32), (gc, [.func (.func 82) #[] #[]], 41)]) (L2 := [(w.heap.size + 1, flL (0, 0), 32), (w.heap.size, exL h ka kn kc, 102)]) rfl
          refine store109_step rfl rfl rfl rfl rfl (HF79.out.blk (List.mem_cons_self ..)) ?_
          intro V77 hV
          have HS78 : Hid (LS w O O2 b s s2 oc [(g5, mnL m, 109), (g6, flL (0, 0), 32), (gc, [.func (.func 82) #[] #[]], 41), (w.heap.size + 1, flL (0, 0), 32), (w.heap.size, exL h ka kn kc, 102)] V77) := HF79.out.store109 m HR.out.2.2.1.symm (by rw [hV, HR.out.2.1, HR.out.2.2.2.1, HR.out.2.2.2.2])
          refine hK.out _ _ (fun _ => HSS.out _ _ _ _ _ HS78.out (by simp)) ?_
          clear hK K HS76 hV HF79
          refine wpAnyY_one (i := 10) rfl (by kernel_rfl) (fun K hK => ?_)
          have HF82 : Hid (LS w O O2 b s s2 oc [(g6, flL (0, 0), 32), (g5, mnL m, 109), (gc, [.func (.func 82) #[] #[]], 41), (w.heap.size + 1, flL (0, 0), 32), (w.heap.size, exL h ka kn kc, 102)] V77) := HS78.out.front (L1 := [(g5, mnL m, 109)]) (L2 := [(gc, [.func (.func 82) #[] #[]], 41), (w.heap.size + 1, flL (0, 0), 32), (w.heap.size, exL h ka kn kc, 102)]) rfl
          refine store32_step rfl rfl rfl rfl rfl (HF82.out.blk (List.mem_cons_self ..)) ?_
          intro V80 hV
          have HS81 : Hid (LS w O O2 b s s2 oc [(g6, flL (f1, f2), 32), (g5, mnL m, 109), (gc, [.func (.func 82) #[] #[]], 41), (w.heap.size + 1, flL (0, 0), 32), (w.heap.size, exL h ka kn kc, 102)] V80) := HF82.out.store32 (f1, f2) hV
          refine hK.out _ _ (fun _ => HSS.out _ _ _ _ _ HS81.out (by simp)) ?_
          clear hK K HS78 hV HF82
          refine wpAnyY_done (by kernel_rfl) ?_ _
          go_wp2_with fail
          go_meet
          exact ⟨g5, g6, mt, mx, mp, mn, f1, f2, rfl, rfl, m, oc, O2, s2, HR.out, HS81.out.sub (by simp) (by have := HS81.out.nd; simp at this ⊢; omega)⟩
        · refine alloc32_step rfl rfl rfl ?_
          intro V83 g6 hV hG
          have HS84 : Hid (LS w O O1 b s s (some c) [(g6, flL (0, 0), 32), (gc, [.func (.func 82) #[] #[]], 41), (g5, mnL mn0, 109), (w.heap.size + 1, flL (0, 0), 32), (w.heap.size, exL h ka kn kc, 102)] V83) := HS72.out.allocE (flL (0, 0)) 32 hV hG
          refine hK.out _ _ (fun _ => HSS.out _ _ _ _ _ HS84.out (by simp)) ?_
          clear hK K HS72 hV hG
          simp only [Act.put, List.setIfInBounds_toArray, List.set_cons_succ, List.set_cons_zero]
          refine wpAnyY_one (i := 3) rfl (by kernel_rfl) (fun K hK => ?_)
          refine call89_step rfl rfl rfl rfl rfl rfl ?_
          refine (HA1.out _ _ _ _ gc HS84.out (by simp)).mono ?_
          rintro e V85 ⟨mt, mx, mp, mn, f1, f2, rfl, hV⟩
          refine ⟨_, rfl, ?_⟩
          obtain ⟨m, oc, O2, s2, hm, hRQ, hLS⟩ := hV.out
          have HS86 : Hid (LS w O O2 b s s2 oc [(g6, flL (0, 0), 32), (gc, [.func (.func 82) #[] #[]], 41), (g5, mnL mn0, 109), (w.heap.size + 1, flL (0, 0), 32), (w.heap.size, exL h ka kn kc, 102)] V85) := hLS
          have HR : Hid (RQ r1 m (f1, f2) oc ∧ m.isText = mt ∧ bs m.text = mx ∧ m.place = mp ∧ m.num = mn) := ⟨hRQ, hm⟩
          refine hK.out _ _ (fun _ => HSS.out _ _ _ _ _ HS86.out (by simp)) ?_
          clear hK K HS84 hV hm hRQ hLS
          simp only [Act.put, List.setIfInBounds_toArray, List.set_cons_succ, List.set_cons_zero]
          refine wpAnyY_takeD (i := 4) 8 (v := .tuple #[.agg #[.bool mt, .string mx, .int .i64 mp, .int .i64 mn], .agg #[.int .i64 f1, .int .i64 f2]]) rfl rfl (by kernel_rfl) (by kernel_rfl) (late_of (by kernel_rfl)) (by kernel_rfl) (by kernel_rfl) (fun _ _ _ h => h) (HSS.out _ _ _ _ _ HS86.out (by simp)) (Or.inl ⟨by rfl, by (intro W hW; obtain ⟨_, _, _, _, _⟩ := hW; go_simp)⟩) ?_
          simp only [Act.put, List.setIfInBounds_toArray, List.set_cons_succ, List.set_cons_zero]
          refine wpAnyY_takeD (i := 5) 13 (v := .agg #[.bool mt, .string mx, .int .i64 mp, .int .i64 mn]) rfl rfl (by kernel_rfl) (by kernel_rfl) (late_of (by kernel_rfl)) (by kernel_rfl) (by kernel_rfl) (fun _ _ _ h => h) (HSS.out _ _ _ _ _ HS86.out (by simp)) (Or.inl ⟨by rfl, by (intro W hW; obtain ⟨_, _, _, _, _⟩ := hW; go_simp)⟩) ?_
          simp only [Act.put, List.setIfInBounds_toArray, List.set_cons_succ, List.set_cons_zero]
          refine wpAnyY_takeD (i := 6) 14 (v := .agg #[.int .i64 f1, .int .i64 f2]) rfl rfl (by kernel_rfl) (by kernel_rfl) (late_of (by kernel_rfl)) (by kernel_rfl) (by kernel_rfl) (fun _ _ _ h => h) (HSS.out _ _ _ _ _ HS86.out (by simp)) (Or.inl ⟨by rfl, by (intro W hW; obtain ⟨_, _, _, _, _⟩ := hW; go_simp)⟩) ?_
          simp only [Act.put, List.setIfInBounds_toArray, List.set_cons_succ, List.set_cons_zero]
          refine wpAnyY_one (i := 9) rfl (by kernel_rfl) (fun K hK => ?_)
          have HF89 : Hid (LS w O O2 b s s2 oc [(g5, mnL mn0, 109), (g6, flL (0, 0), 32), (gc, [.func (.func 82) #[] #[]], 41), (w.heap.size + 1, flL (0, 0), 32), (w.heap.size, exL h ka kn kc, 102)] V85) := HS86.out.front (L1 := [(g6, flL (0, 0), 32), (gc, [.func (.func 82) #[] #[]], 41)]) (L2 := [(w.heap.size + 1, flL (0, 0), 32), (w.heap.size, exL h ka kn kc, 102)]) rfl
          refine store109_step rfl rfl rfl rfl rfl (HF89.out.blk (List.mem_cons_self ..)) ?_
          intro V87 hV
          have HS88 : Hid (LS w O O2 b s s2 oc [(g5, mnL m, 109), (g6, flL (0, 0), 32), (gc, [.func (.func 82) #[] #[]], 41), (w.heap.size + 1, flL (0, 0), 32), (w.heap.size, exL h ka kn kc, 102)] V87) := HF89.out.store109 m HR.out.2.2.1.symm (by rw [hV, HR.out.2.1, HR.out.2.2.2.1, HR.out.2.2.2.2])
          refine hK.out _ _ (fun _ => HSS.out _ _ _ _ _ HS88.out (by simp)) ?_
          clear hK K HS86 hV HF89
          refine wpAnyY_one (i := 10) rfl (by kernel_rfl) (fun K hK => ?_)
          have HF92 : Hid (LS w O O2 b s s2 oc [(g6, flL (0, 0), 32), (g5, mnL m, 109), (gc, [.func (.func 82) #[] #[]], 41), (w.heap.size + 1, flL (0, 0), 32), (w.heap.size, exL h ka kn kc, 102)] V87) := HS88.out.front (L1 := [(g5, mnL m, 109)]) (L2 := [(gc, [.func (.func 82) #[] #[]], 41), (w.heap.size + 1, flL (0, 0), 32), (w.heap.size, exL h ka kn kc, 102)]) rfl
          refine store32_step rfl rfl rfl rfl rfl (HF92.out.blk (List.mem_cons_self ..)) ?_
          intro V90 hV
          have HS91 : Hid (LS w O O2 b s s2 oc [(g6, flL (f1, f2), 32), (g5, mnL m, 109), (gc, [.func (.func 82) #[] #[]], 41), (w.heap.size + 1, flL (0, 0), 32), (w.heap.size, exL h ka kn kc, 102)] V90) := HF92.out.store32 (f1, f2) hV
          refine hK.out _ _ (fun _ => HSS.out _ _ _ _ _ HS91.out (by simp)) ?_
          clear hK K HS88 hV HF92
          refine wpAnyY_done (by kernel_rfl) ?_ _
          go_wp2_with fail
          go_meet
          exact ⟨g5, g6, mt, mx, mp, mn, f1, f2, rfl, rfl, m, oc, O2, s2, HR.out, HS91.out.sub (by simp) (by have := HS91.out.nd; simp at this ⊢; omega)⟩
      · refine alloc32_step rfl rfl rfl ?_
        intro V93 g6 hV hG
        have HS94 : Hid (LS w O O1 b s s (some c) [(g6, flL (0, 0), 32), (g5, mnL mn0, 109), (w.heap.size + 1, flL (0, 0), 32), (w.heap.size, exL h ka kn kc, 102)] V93) := HS70.out.allocE (flL (0, 0)) 32 hV hG
        refine hK.out _ _ (fun _ => HSS.out _ _ _ _ _ HS94.out (by simp)) ?_
        clear hK K HS70 hV hG
        simp only [Act.put, List.setIfInBounds_toArray, List.set_cons_succ, List.set_cons_zero]
        refine wpAnyY_one (i := 2) rfl (by kernel_rfl) (fun K hK => ?_)
        refine call90c_step rfl rfl rfl ?_
        intro V95 gc hV hG
        have HS96 : Hid (LS w O O1 b s s (some c) [(gc, [.func (.func 82) #[] #[]], 41), (g6, flL (0, 0), 32), (g5, mnL mn0, 109), (w.heap.size + 1, flL (0, 0), 32), (w.heap.size, exL h ka kn kc, 102)] V95) := HS94.out.allocE _ 41 hV hG
        refine hK.out _ _ (fun _ => HSS.out _ _ _ _ _ HS96.out (by simp)) ?_
        clear hK K HS94 hV hG
        simp only [Act.put, List.setIfInBounds_toArray, List.set_cons_succ, List.set_cons_zero]
        refine wpAnyY_one (i := 3) rfl (by kernel_rfl) (fun K hK => ?_)
        refine call89_step rfl rfl rfl rfl rfl rfl ?_
        refine (HA1.out _ _ _ _ gc HS96.out (by simp)).mono ?_
        rintro e V97 ⟨mt, mx, mp, mn, f1, f2, rfl, hV⟩
        refine ⟨_, rfl, ?_⟩
        obtain ⟨m, oc, O2, s2, hm, hRQ, hLS⟩ := hV.out
        have HS98 : Hid (LS w O O2 b s s2 oc [(gc, [.func (.func 82) #[] #[]], 41), (g6, flL (0, 0), 32), (g5, mnL mn0, 109), (w.heap.size + 1, flL (0, 0), 32), (w.heap.size, exL h ka kn kc, 102)] V97) := hLS
        have HR : Hid (RQ r1 m (f1, f2) oc ∧ m.isText = mt ∧ bs m.text = mx ∧ m.place = mp ∧ m.num = mn) := ⟨hRQ, hm⟩
        refine hK.out _ _ (fun _ => HSS.out _ _ _ _ _ HS98.out (by simp)) ?_
        clear hK K HS96 hV hm hRQ hLS
        simp only [Act.put, List.setIfInBounds_toArray, List.set_cons_succ, List.set_cons_zero]
        refine wpAnyY_takeD (i := 4) 8 (v := .tuple #[.agg #[.bool mt, .string mx, .int .i64 mp, .int .i64 mn], .agg #[.int .i64 f1, .int .i64 f2]]) rfl rfl (by kernel_rfl) (by kernel_rfl) (late_of (by kernel_rfl)) (by kernel_rfl) (by kernel_rfl) (fun _ _ _ h => h) (HSS.out _ _ _ _ _ HS98.out (by simp)) (Or.inl ⟨by rfl, by (intro W hW; obtain ⟨_, _, _, _, _⟩ := hW; go_simp)⟩) ?_
        simp only [Act.put, List.setIfInBounds_toArray, List.set_cons_succ, List.set_cons_zero]
        refine wpAnyY_takeD (i := 5) 13 (v := .agg #[.bool mt, .string mx, .int .i64 mp, .int .i64 mn]) rfl rfl (by kernel_rfl) (by kernel_rfl) (late_of (by kernel_rfl)) (by kernel_rfl) (by kernel_rfl) (fun _ _ _ h => h) (HSS.out _ _ _ _ _ HS98.out (by simp)) (Or.inl ⟨by rfl, by (intro W hW; obtain ⟨_, _, _, _, _⟩ := hW; go_simp)⟩) ?_
        simp only [Act.put, List.setIfInBounds_toArray, List.set_cons_succ, List.set_cons_zero]
        refine wpAnyY_takeD (i := 6) 14 (v := .agg #[.int .i64 f1, .int .i64 f2]) rfl rfl (by kernel_rfl) (by kernel_rfl) (late_of (by kernel_rfl)) (by kernel_rfl) (by kernel_rfl) (fun _ _ _ h => h) (HSS.out _ _ _ _ _ HS98.out (by simp)) (Or.inl ⟨by rfl, by (intro W hW; obtain ⟨_, _, _, _, _⟩ := hW; go_simp)⟩) ?_
        simp only [Act.put, List.setIfInBounds_toArray, List.set_cons_succ, List.set_cons_zero]
        refine wpAnyY_one (i := 9) rfl (by kernel_rfl) (fun K hK => ?_)
        have HF101 : Hid (LS w O O2 b s s2 oc [(g5, mnL mn0, 109), (gc, [.func (.func 82) #[] #[]], 41), (g6, flL (0, 0), 32), (w.heap.size + 1, flL (0, 0), 32), (w.heap.size, exL h ka kn kc, 102)] V97) := HS98.out.front (L1 := [(gc, [.func (.func 82) #[] #[]], 41), (g6, flL (0, 0), 32)]) (L2 := [(w.heap.size + 1, flL (0, 0), 32), (w.heap.size, exL h ka kn kc, 102)]) rfl
        refine store109_step rfl rfl rfl rfl rfl (HF101.out.blk (List.mem_cons_self ..)) ?_
        intro V99 hV
        have HS100 : Hid (LS w O O2 b s s2 oc [(g5, mnL m, 109), (gc, [.func (.func 82) #[] #[]], 41), (g6, flL (0, 0), 32), (w.heap.size + 1, flL (0, 0), 32), (w.heap.size, exL h ka kn kc, 102)] V99) := HF101.out.store109 m HR.out.2.2.1.symm (by rw [hV, HR.out.2.1, HR.out.2.2.2.1, HR.out.2.2.2.2])
        refine hK.out _ _ (fun _ => HSS.out _ _ _ _ _ HS100.out (by simp)) ?_
        clear hK K HS98 hV HF101
        refine wpAnyY_one (i := 10) rfl (by kernel_rfl) (fun K hK => ?_)
        have HF104 : Hid (LS w O O2 b s s2 oc [(g6, flL (0, 0), 32), (g5, mnL m, 109), (gc, [.func (.func 82) #[] #[]], 41), (w.heap.size + 1, flL (0, 0), 32), (w.heap.size, exL h ka kn kc, 102)] V99) := HS100.out.front (L1 := [(g5, mnL m, 109), (gc, [.func (.func 82) #[] #[]], 41)]) (L2 := [(w.heap.size + 1, flL (0, 0), 32), (w.heap.size, exL h ka kn kc, 102)]) rfl
        refine store32_step rfl rfl rfl rfl rfl (HF104.out.blk (List.mem_cons_self ..)) ?_
        intro V102 hV
        have HS103 : Hid (LS w O O2 b s s2 oc [(g6, flL (f1, f2), 32), (g5, mnL m, 109), (gc, [.func (.func 82) #[] #[]], 41), (w.heap.size + 1, flL (0, 0), 32), (w.heap.size, exL h ka kn kc, 102)] V102) := HF104.out.store32 (f1, f2) hV
        refine hK.out _ _ (fun _ => HSS.out _ _ _ _ _ HS103.out (by simp)) ?_
        clear hK K HS100 hV HF104
        refine wpAnyY_done (by kernel_rfl) ?_ _
        go_wp2_with fail
        go_meet
        exact ⟨g5, g6, mt, mx, mp, mn, f1, f2, rfl, rfl, m, oc, O2, s2, HR.out, HS103.out.sub (by simp) (by have := HS103.out.nd; simp at this ⊢; omega)⟩
    · refine alloc32_step rfl rfl rfl ?_
      intro V105 g6 hV hG
      have HS106 : Hid (LS w O O1 b s s (some c) [(g6, flL (0, 0), 32), (w.heap.size + 1, flL (0, 0), 32), (w.heap.size, exL h ka kn kc, 102)] V105) := HS0.out.allocE (flL (0, 0)) 32 hV hG
      refine hK.out _ _ (fun _ => HSS.out _ _ _ _ _ HS106.out (by simp)) ?_
      clear hK K HS0 hV hG
      simp only [Act.put, List.setIfInBounds_toArray, List.set_cons_succ, List.set_cons_zero]
      refine wpAnyY_two (i := 2) (j := 7) rfl rfl (by kernel_rfl) (fun K hK => ?_) (fun K hK => ?_)
      · refine call90c_step rfl rfl rfl ?_
        intro V107 gc hV hG
        have HS108 : Hid (LS w O O1 b s s (some c) [(gc, [.func (.func 82) #[] #[]], 41), (g6, flL (0, 0), 32), (w.heap.size + 1, flL (0, 0), 32), (w.heap.size, exL h ka kn kc, 102)] V107) := HS106.out.allocE _ 41 hV hG
        refine hK.out _ _ (fun _ => HSS.out _ _ _ _ _ HS108.out (by simp)) ?_
        clear hK K HS106 hV hG
        simp only [Act.put, List.setIfInBounds_toArray, List.set_cons_succ, List.set_cons_zero]
        refine wpAnyY_two (i := 3) (j := 7) rfl rfl (by kernel_rfl) (fun K hK => ?_) (fun K hK => ?_)
        · refine call89_step rfl rfl rfl rfl rfl rfl ?_
          refine (HA1.out _ _ _ _ gc HS108.out (by simp)).mono ?_
          rintro e V109 ⟨mt, mx, mp, mn, f1, f2, rfl, hV⟩
          refine ⟨_, rfl, ?_⟩
          obtain ⟨m, oc, O2, s2, hm, hRQ, hLS⟩ := hV.out
          have HS110 : Hid (LS w O O2 b s s2 oc [(gc, [.func (.func 82) #[] #[]], 41), (g6, flL (0, 0), 32), (w.heap.size + 1, flL (0, 0), 32), (w.heap.size, exL h ka kn kc, 102)] V109) := hLS
          have HR : Hid (RQ r1 m (f1, f2) oc ∧ m.isText = mt ∧ bs m.text = mx ∧ m.place = mp ∧ m.num = mn) := ⟨hRQ, hm⟩
          refine hK.out _ _ (fun _ => HSS.out _ _ _ _ _ HS110.out (by simp)) ?_
          clear hK K HS108 hV hm hRQ hLS
          simp only [Act.put, List.setIfInBounds_toArray, List.set_cons_succ, List.set_cons_zero]
          refine wpAnyY_takeD (i := 4) 8 (v := .tuple #[.agg #[.bool mt, .string mx, .int .i64 mp, .int .i64 mn], .agg #[.int .i64 f1, .int .i64 f2]]) rfl rfl (by kernel_rfl) (by kernel_rfl) (late_of (by kernel_rfl)) (by kernel_rfl) (by kernel_rfl) (fun _ _ _ h => h) (HSS.out _ _ _ _ _ HS110.out (by simp)) (Or.inl ⟨by rfl, by (intro W hW; obtain ⟨_, _, _, _, _⟩ := hW; go_simp)⟩) ?_
          simp only [Act.put, List.setIfInBounds_toArray, List.set_cons_succ, List.set_cons_zero]
          refine wpAnyY_takeD (i := 5) 13 (v := .agg #[.bool mt, .string mx, .int .i64 mp, .int .i64 mn]) rfl rfl (by kernel_rfl) (by kernel_rfl) (late_of (by kernel_rfl)) (by kernel_rfl) (by kernel_rfl) (fun _ _ _ h => h) (HSS.out _ _ _ _ _ HS110.out (by simp)) (Or.inl ⟨by rfl, by (intro W hW; obtain ⟨_, _, _, _, _⟩ := hW; go_simp)⟩) ?_
          simp only [Act.put, List.setIfInBounds_toArray, List.set_cons_succ, List.set_cons_zero]
          refine wpAnyY_takeD (i := 6) 14 (v := .agg #[.int .i64 f1, .int .i64 f2]) rfl rfl (by kernel_rfl) (by kernel_rfl) (late_of (by kernel_rfl)) (by kernel_rfl) (by kernel_rfl) (fun _ _ _ h => h) (HSS.out _ _ _ _ _ HS110.out (by simp)) (Or.inl ⟨by rfl, by (intro W hW; obtain ⟨_, _, _, _, _⟩ := hW; go_simp)⟩) ?_
          simp only [Act.put, List.setIfInBounds_toArray, List.set_cons_succ, List.set_cons_zero]
          refine wpAnyY_one (i := 7) rfl (by kernel_rfl) (fun K hK => ?_)
          refine alloc109_step rfl rfl rfl ?_
          intro V111 g5 hV hG
          have HS112 : Hid (LS w O O2 b s s2 oc [(g5, mnL mn0, 109), (gc, [.func (.func 82) #[] #[]], 41), (g6, flL (0, 0), 32), (w.heap.size + 1, flL (0, 0), 32), (w.heap.size, exL h ka kn kc, 102)] V111) := HS110.out.allocE (mnL mn0) 109 hV hG
          refine hK.out _ _ (fun _ => HSS.out _ _ _ _ _ HS112.out (by simp)) ?_
          clear hK K HS110 hV hG
          simp only [Act.put, List.setIfInBounds_toArray, List.set_cons_succ, List.set_cons_zero]
          refine wpAnyY_one (i := 9) rfl (by kernel_rfl) (fun K hK => ?_)
          have HF115 : Hid (LS w O O2 b s s2 oc [(g5, mnL mn0, 109), (gc, [.func (.func 82) #[] #[]], 41), (g6, flL (0, 0), 32), (w.heap.size + 1, flL (0, 0), 32), (w.heap.size, exL h ka kn kc, 102)] V111) := HS112.out.front (L1 := []) (L2 := [(gc, [.func (.func 82) #[] #[]], 41), (g6, flL (0, 0), 32), (w.heap.size + 1, flL (0, 0), 32), (w.heap.size, exL h ka kn kc, 102)]) rfl
          refine store109_step rfl rfl rfl rfl rfl (HF115.out.blk (List.mem_cons_self ..)) ?_
          intro V113 hV
          have HS114 : Hid (LS w O O2 b s s2 oc [(g5, mnL m, 109), (gc, [.func (.func 82) #[] #[]], 41), (g6, flL (0, 0), 32), (w.heap.size + 1, flL (0, 0), 32), (w.heap.size, exL h ka kn kc, 102)] V113) := HF115.out.store109 m HR.out.2.2.1.symm (by rw [hV, HR.out.2.1, HR.out.2.2.2.1, HR.out.2.2.2.2])
          refine hK.out _ _ (fun _ => HSS.out _ _ _ _ _ HS114.out (by simp)) ?_
          clear hK K HS112 hV HF115
          refine wpAnyY_one (i := 10) rfl (by kernel_rfl) (fun K hK => ?_)
          have HF118 : Hid (LS w O O2 b s s2 oc [(g6, flL (0, 0), 32), (g5, mnL m, 109), (gc, [.func (.func 82) #[] #[]], 41), (w.heap.size + 1, flL (0, 0), 32), (w.heap.size, exL h ka kn kc, 102)] V113) := HS114.out.front (L1 := [(g5, mnL m, 109), (gc, [.func (.func 82) #[] #[]], 41)]) (L2 := [(w.heap.size + 1, flL (0, 0), 32), (w.heap.size, exL h ka kn kc, 102)]) rfl
          refine store32_step rfl rfl rfl rfl rfl (HF118.out.blk (List.mem_cons_self ..)) ?_
          intro V116 hV
          have HS117 : Hid (LS w O O2 b s s2 oc [(g6, flL (f1, f2), 32), (g5, mnL m, 109), (gc, [.func (.func 82) #[] #[]], 41), (w.heap.size + 1, flL (0, 0), 32), (w.heap.size, exL h ka kn kc, 102)] V116) := HF118.out.store32 (f1, f2) hV
          refine hK.out _ _ (fun _ => HSS.out _ _ _ _ _ HS117.out (by simp)) ?_
          clear hK K HS114 hV HF118
          refine wpAnyY_done (by kernel_rfl) ?_ _
          go_wp2_with fail
          go_meet
          exact ⟨g5, g6, mt, mx, mp, mn, f1, f2, rfl, rfl, m, oc, O2, s2, HR.out, HS117.out.sub (by simp) (by have := HS117.out.nd; simp at this ⊢; omega)⟩
        · refine alloc109_step rfl rfl rfl ?_
          intro V119 g5 hV hG
          have HS120 : Hid (LS w O O1 b s s (some c) [(g5, mnL mn0, 109), (gc, [.func (.func 82) #[] #[]], 41), (g6, flL (0, 0), 32), (w.heap.size + 1, flL (0, 0), 32), (w.heap.size, exL h ka kn kc, 102)] V119) := HS108.out.allocE (mnL mn0) 109 hV hG
          refine hK.out _ _ (fun _ => HSS.out _ _ _ _ _ HS120.out (by simp)) ?_
          clear hK K HS108 hV hG
          simp only [Act.put, List.setIfInBounds_toArray, List.set_cons_succ, List.set_cons_zero]
          refine wpAnyY_one (i := 3) rfl (by kernel_rfl) (fun K hK => ?_)
          refine call89_step rfl rfl rfl rfl rfl rfl ?_
          refine (HA1.out _ _ _ _ gc HS120.out (by simp)).mono ?_
          rintro e V121 ⟨mt, mx, mp, mn, f1, f2, rfl, hV⟩
          refine ⟨_, rfl, ?_⟩
          obtain ⟨m, oc, O2, s2, hm, hRQ, hLS⟩ := hV.out
          have HS122 : Hid (LS w O O2 b s s2 oc [(g5, mnL mn0, 109), (gc, [.func (.func 82) #[] #[]], 41), (g6, flL (0, 0), 32), (w.heap.size + 1, flL (0, 0), 32), (w.heap.size, exL h ka kn kc, 102)] V121) := hLS
          have HR : Hid (RQ r1 m (f1, f2) oc ∧ m.isText = mt ∧ bs m.text = mx ∧ m.place = mp ∧ m.num = mn) := ⟨hRQ, hm⟩
          refine hK.out _ _ (fun _ => HSS.out _ _ _ _ _ HS122.out (by simp)) ?_
          clear hK K HS120 hV hm hRQ hLS
          simp only [Act.put, List.setIfInBounds_toArray, List.set_cons_succ, List.set_cons_zero]
          refine wpAnyY_takeD (i := 4) 8 (v := .tuple #[.agg #[.bool mt, .string mx, .int .i64 mp, .int .i64 mn], .agg #[.int .i64 f1, .int .i64 f2]]) rfl rfl (by kernel_rfl) (by kernel_rfl) (late_of (by kernel_rfl)) (by kernel_rfl) (by kernel_rfl) (fun _ _ _ h => h) (HSS.out _ _ _ _ _ HS122.out (by simp)) (Or.inl ⟨by rfl, by (intro W hW; obtain ⟨_, _, _, _, _⟩ := hW; go_simp)⟩) ?_
          simp only [Act.put, List.setIfInBounds_toArray, List.set_cons_succ, List.set_cons_zero]
          refine wpAnyY_takeD (i := 5) 13 (v := .agg #[.bool mt, .string mx, .int .i64 mp, .int .i64 mn]) rfl rfl (by kernel_rfl) (by kernel_rfl) (late_of (by kernel_rfl)) (by kernel_rfl) (by kernel_rfl) (fun _ _ _ h => h) (HSS.out _ _ _ _ _ HS122.out (by simp)) (Or.inl ⟨by rfl, by (intro W hW; obtain ⟨_, _, _, _, _⟩ := hW; go_simp)⟩) ?_
          simp only [Act.put, List.setIfInBounds_toArray, List.set_cons_succ, List.set_cons_zero]
          refine wpAnyY_takeD (i := 6) 14 (v := .agg #[.int .i64 f1, .int .i64 f2]) rfl rfl (by kernel_rfl) (by kernel_rfl) (late_of (by kernel_rfl)) (by kernel_rfl) (by kernel_rfl) (fun _ _ _ h => h) (HSS.out _ _ _ _ _ HS122.out (by simp)) (Or.inl ⟨by rfl, by (intro W hW; obtain ⟨_, _, _, _, _⟩ := hW; go_simp)⟩) ?_
          simp only [Act.put, List.setIfInBounds_toArray, List.set_cons_succ, List.set_cons_zero]
          refine wpAnyY_one (i := 9) rfl (by kernel_rfl) (fun K hK => ?_)
          have HF125 : Hid (LS w O O2 b s s2 oc [(g5, mnL mn0, 109), (gc, [.func (.func 82) #[] #[]], 41), (g6, flL (0, 0), 32), (w.heap.size + 1, flL (0, 0), 32), (w.heap.size, exL h ka kn kc, 102)] V121) := HS122.out.front (L1 := []) (L2 := [(gc, [.func (.func 82) #[] #[]], 41), (g6, flL (0, 0), 32), (w.heap.size + 1, flL (0, 0), 32), (w.heap.size, exL h ka kn kc, 102)]) rfl
          refine store109_step rfl rfl rfl rfl rfl (HF125.out.blk (List.mem_cons_self ..)) ?_
          intro V123 hV
          have HS124 : Hid (LS w O O2 b s s2 oc [(g5, mnL m, 109), (gc, [.func (.func 82) #[] #[]], 41), (g6, flL (0, 0), 32), (w.heap.size + 1, flL (0, 0), 32), (w.heap.size, exL h ka kn kc, 102)] V123) := HF125.out.store109 m HR.out.2.2.1.symm (by rw [hV, HR.out.2.1, HR.out.2.2.2.1, HR.out.2.2.2.2])
          refine hK.out _ _ (fun _ => HSS.out _ _ _ _ _ HS124.out (by simp)) ?_
          clear hK K HS122 hV HF125
          refine wpAnyY_one (i := 10) rfl (by kernel_rfl) (fun K hK => ?_)
          have HF128 : Hid (LS w O O2 b s s2 oc [(g6, flL (0, 0), 32), (g5, mnL m, 109), (gc, [.func (.func 82) #[] #[]], 41), (w.heap.size + 1, flL (0, 0), 32), (w.heap.size, exL h ka kn kc, 102)] V123) := HS124.out.front (L1 := [(g5, mnL m, 109), (gc, [.func (.func 82) #[] #[]], 41)]) (L2 := [(w.heap.size + 1, flL (0, 0), 32), (w.heap.size, exL h ka kn kc, 102)]) rfl
          refine store32_step rfl rfl rfl rfl rfl (HF128.out.blk (List.mem_cons_self ..)) ?_
          intro V126 hV
          have HS127 : Hid (LS w O O2 b s s2 oc [(g6, flL (f1, f2), 32), (g5, mnL m, 109), (gc, [.func (.func 82) #[] #[]], 41), (w.heap.size + 1, flL (0, 0), 32), (w.heap.size, exL h ka kn kc, 102)] V126) := HF128.out.store32 (f1, f2) hV
          refine hK.out _ _ (fun _ => HSS.out _ _ _ _ _ HS127.out (by simp)) ?_
          clear hK K HS124 hV HF128
          refine wpAnyY_done (by kernel_rfl) ?_ _
          go_wp2_with fail
          go_meet
          exact ⟨g5, g6, mt, mx, mp, mn, f1, f2, rfl, rfl, m, oc, O2, s2, HR.out, HS127.out.sub (by simp) (by have := HS127.out.nd; simp at this ⊢; omega)⟩
      · refine alloc109_step rfl rfl rfl ?_
        intro V129 g5 hV hG
        have HS130 : Hid (LS w O O1 b s s (some c) [(g5, mnL mn0, 109), (g6, flL (0, 0), 32), (w.heap.size + 1, flL (0, 0), 32), (w.heap.size, exL h ka kn kc, 102)] V129) := HS106.out.allocE (mnL mn0) 109 hV hG
        refine hK.out _ _ (fun _ => HSS.out _ _ _ _ _ HS130.out (by simp)) ?_
        clear hK K HS106 hV hG
        simp only [Act.put, List.setIfInBounds_toArray, List.set_cons_succ, List.set_cons_zero]
        refine wpAnyY_one (i := 2) rfl (by kernel_rfl) (fun K hK => ?_)
        refine call90c_step rfl rfl rfl ?_
        intro V131 gc hV hG
        have HS132 : Hid (LS w O O1 b s s (some c) [(gc, [.func (.func 82) #[] #[]], 41), (g5, mnL mn0, 109), (g6, flL (0, 0), 32), (w.heap.size + 1, flL (0, 0), 32), (w.heap.size, exL h ka kn kc, 102)] V131) := HS130.out.allocE _ 41 hV hG
        refine hK.out _ _ (fun _ => HSS.out _ _ _ _ _ HS132.out (by simp)) ?_
        clear hK K HS130 hV hG
        simp only [Act.put, List.setIfInBounds_toArray, List.set_cons_succ, List.set_cons_zero]
        refine wpAnyY_one (i := 3) rfl (by kernel_rfl) (fun K hK => ?_)
        refine call89_step rfl rfl rfl rfl rfl rfl ?_
        refine (HA1.out _ _ _ _ gc HS132.out (by simp)).mono ?_
        rintro e V133 ⟨mt, mx, mp, mn, f1, f2, rfl, hV⟩
        refine ⟨_, rfl, ?_⟩
        obtain ⟨m, oc, O2, s2, hm, hRQ, hLS⟩ := hV.out
        have HS134 : Hid (LS w O O2 b s s2 oc [(gc, [.func (.func 82) #[] #[]], 41), (g5, mnL mn0, 109), (g6, flL (0, 0), 32), (w.heap.size + 1, flL (0, 0), 32), (w.heap.size, exL h ka kn kc, 102)] V133) := hLS
        have HR : Hid (RQ r1 m (f1, f2) oc ∧ m.isText = mt ∧ bs m.text = mx ∧ m.place = mp ∧ m.num = mn) := ⟨hRQ, hm⟩
        refine hK.out _ _ (fun _ => HSS.out _ _ _ _ _ HS134.out (by simp)) ?_
        clear hK K HS132 hV hm hRQ hLS
        simp only [Act.put, List.setIfInBounds_toArray, List.set_cons_succ, List.set_cons_zero]
        refine wpAnyY_takeD (i := 4) 8 (v := .tuple #[.agg #[.bool mt, .string mx, .int .i64 mp, .int .i64 mn], .agg #[.int .i64 f1, .int .i64 f2]]) rfl rfl (by kernel_rfl) (by kernel_rfl) (late_of (by kernel_rfl)) (by kernel_rfl) (by kernel_rfl) (fun _ _ _ h => h) (HSS.out _ _ _ _ _ HS134.out (by simp)) (Or.inl ⟨by rfl, by (intro W hW; obtain ⟨_, _, _, _, _⟩ := hW; go_simp)⟩) ?_
        simp only [Act.put, List.setIfInBounds_toArray, List.set_cons_succ, List.set_cons_zero]
        refine wpAnyY_takeD (i := 5) 13 (v := .agg #[.bool mt, .string mx, .int .i64 mp, .int .i64 mn]) rfl rfl (by kernel_rfl) (by kernel_rfl) (late_of (by kernel_rfl)) (by kernel_rfl) (by kernel_rfl) (fun _ _ _ h => h) (HSS.out _ _ _ _ _ HS134.out (by simp)) (Or.inl ⟨by rfl, by (intro W hW; obtain ⟨_, _, _, _, _⟩ := hW; go_simp)⟩) ?_
        simp only [Act.put, List.setIfInBounds_toArray, List.set_cons_succ, List.set_cons_zero]
        refine wpAnyY_takeD (i := 6) 14 (v := .agg #[.int .i64 f1, .int .i64 f2]) rfl rfl (by kernel_rfl) (by kernel_rfl) (late_of (by kernel_rfl)) (by kernel_rfl) (by kernel_rfl) (fun _ _ _ h => h) (HSS.out _ _ _ _ _ HS134.out (by simp)) (Or.inl ⟨by rfl, by (intro W hW; obtain ⟨_, _, _, _, _⟩ := hW; go_simp)⟩) ?_
        simp only [Act.put, List.setIfInBounds_toArray, List.set_cons_succ, List.set_cons_zero]
        refine wpAnyY_one (i := 9) rfl (by kernel_rfl) (fun K hK => ?_)
        have HF137 : Hid (LS w O O2 b s s2 oc [(g5, mnL mn0, 109), (gc, [.func (.func 82) #[] #[]], 41), (g6, flL (0, 0), 32), (w.heap.size + 1, flL (0, 0), 32), (w.heap.size, exL h ka kn kc, 102)] V133) := HS134.out.front (L1 := [(gc, [.func (.func 82) #[] #[]], 41)]) (L2 := [(g6, flL (0, 0), 32), (w.heap.size + 1, flL (0, 0), 32), (w.heap.size, exL h ka kn kc, 102)]) rfl
        refine store109_step rfl rfl rfl rfl rfl (HF137.out.blk (List.mem_cons_self ..)) ?_
        intro V135 hV
        have HS136 : Hid (LS w O O2 b s s2 oc [(g5, mnL m, 109), (gc, [.func (.func 82) #[] #[]], 41), (g6, flL (0, 0), 32), (w.heap.size + 1, flL (0, 0), 32), (w.heap.size, exL h ka kn kc, 102)] V135) := HF137.out.store109 m HR.out.2.2.1.symm (by rw [hV, HR.out.2.1, HR.out.2.2.2.1, HR.out.2.2.2.2])
        refine hK.out _ _ (fun _ => HSS.out _ _ _ _ _ HS136.out (by simp)) ?_
        clear hK K HS134 hV HF137
        refine wpAnyY_one (i := 10) rfl (by kernel_rfl) (fun K hK => ?_)
        have HF140 : Hid (LS w O O2 b s s2 oc [(g6, flL (0, 0), 32), (g5, mnL m, 109), (gc, [.func (.func 82) #[] #[]], 41), (w.heap.size + 1, flL (0, 0), 32), (w.heap.size, exL h ka kn kc, 102)] V135) := HS136.out.front (L1 := [(g5, mnL m, 109), (gc, [.func (.func 82) #[] #[]], 41)]) (L2 := [(w.heap.size + 1, flL (0, 0), 32), (w.heap.size, exL h ka kn kc, 102)]) rfl
        refine store32_step rfl rfl rfl rfl rfl (HF140.out.blk (List.mem_cons_self ..)) ?_
        intro V138 hV
        have HS139 : Hid (LS w O O2 b s s2 oc [(g6, flL (f1, f2), 32), (g5, mnL m, 109), (gc, [.func (.func 82) #[] #[]], 41), (w.heap.size + 1, flL (0, 0), 32), (w.heap.size, exL h ka kn kc, 102)] V138) := HF140.out.store32 (f1, f2) hV
        refine hK.out _ _ (fun _ => HSS.out _ _ _ _ _ HS139.out (by simp)) ?_
        clear hK K HS136 hV HF140
        refine wpAnyY_done (by kernel_rfl) ?_ _
        go_wp2_with fail
        go_meet
        exact ⟨g5, g6, mt, mx, mp, mn, f1, f2, rfl, rfl, m, oc, O2, s2, HR.out, HS139.out.sub (by simp) (by have := HS139.out.nd; simp at this ⊢; omega)⟩
  case rest =>
    obtain ⟨g5, g6, mt, mx, mp, mn, f1, f2, rfl, rfl, m, oc, O2, s2, ⟨hRQ, e1, e2, e3, e4⟩, hL⟩ := hcut
    clear HA1 HSS HS0
    cases r1 with
    | error f' =>
      obtain ⟨rfl, hf, -, rfl⟩ := hRQ
      have HX2 : Hid (alphabetB c (h, k) = .error (f1, f2)) := HX.out
      have HF : Hid (f1 ≠ 0) := hf
      have hq : (f1 == 0) = false := by rw [beq_eq_false_iff_ne]; exact hf
      have HL : Hid (LS w O O2 b s s2 none [(g5, mnL m, 109), (g6, flL (f1, f2), 32), (w.heap.size + 1, flL (0, 0), 32)] wc) := hL
      have y0 : wc.cell? ⟨g6, 0, none⟩ = some (.int .i64 f1) := HL.out.at (g := g6) (cs := flL (f1, f2)) (ty := 32) (by simp) rfl
      have y1 : wc.cell? ⟨g6, 1, none⟩ = some (.int .i64 f2) := HL.out.at (g := g6) (cs := flL (f1, f2)) (ty := 32) (by simp) rfl
      have z0 : wc.cell? ⟨w.heap.size + 1, 0, none⟩ = some (.int .i64 0) := HL.out.at (g := w.heap.size + 1) (cs := flL (0, 0)) (ty := 32) (by simp) rfl
      have z1 : wc.cell? ⟨w.heap.size + 1, 1, none⟩ = some (.int .i64 0) := HL.out.at (g := w.heap.size + 1) (cs := flL (0, 0)) (ty := 32) (by simp) rfl
      have zf : ∀ i, wc.frozen? ⟨w.heap.size + 1, i, none⟩ = false := fun i => HL.out.fz (g := w.heap.size + 1) (cs := flL (0, 0)) (ty := 32) (by simp) i
      clear HX HT hf hL e1 e2 e3 e4
      go_wp2
      refine bodyPost_ret (v := flV (f1, f2)) ?_ rfl ?_
      · simp only [results, hres]
        unfold flV
        simp only
        go_simp
      · show TPost _ _ _ _ _ _
        rw [HX2.out]
        exact ⟨HF.out, rfl, (HL.out.fr.setCell (.inr (by omega)) _ _).setCell (.inr (by omega)) _ _⟩
    | ok x =>
      obtain ⟨c1, m'⟩ := x
      obtain ⟨hf, rfl, rfl⟩ := hRQ
      cases hf
      have hfew := right_few (HT.out _ _ rfl)
      obtain ⟨bt, hbt⟩ : ∃ bt, bt = bs m.text := ⟨_, rfl⟩
      have hsz : bt.size = m.text.length := by rw [hbt, bs_size]
      obtain ⟨NN, hNN⟩ : ∃ NN, NN = bt.size * bt.size := ⟨_, rfl⟩
      have hN1 : 1 ≤ NN := by rw [hNN]; exact Nat.mul_pos (by omega) (by omega)
      have hN2 : NN ≤ 400 := by rw [hNN]; exact Nat.mul_le_mul (show bt.size ≤ 20 by omega) (show bt.size ≤ 20 by omega)
      have HM : Hid (wrap64 ((bt.size : Int) * (bt.size : Int)) = (NN : Int)) := by
        show _ = _
        rw [← Int.natCast_mul, ← hNN]
        unfold wrap64
        omega
      have HX2 : Hid (alphabetB c (h, k) = .ok { c1 with letters := m.text, subst := List.replicate NN (-1) }) := by show _ = _; rw [HX.out, hNN, hsz]; rfl
      have HL : Hid (LS w O O2 b s s2 (some c1) [(g5, mnL m, 109), (g6, flL (0, 0), 32), (w.heap.size + 1, flL (0, 0), 32)] wc) := hL
      have y0 : wc.cell? ⟨g6, 0, none⟩ = some (.int .i64 0) := HL.out.at (g := g6) (cs := flL (0, 0)) (ty := 32) (by simp) rfl
      have y1 : wc.cell? ⟨g5, 1, none⟩ = some (.string bt) := by rw [hbt]; exact HL.out.at (g := g5) (cs := mnL m) (ty := 109) (by simp) rfl
      have b0 : wc.cell? ⟨b, 0, none⟩ = some (.string (bs c1.letters)) := (HL.out.ck _ rfl).1.c0
      have bf : wc.frozen? ⟨b, 0, none⟩ = false := (HL.out.ck _ rfl).1.fz 0
      have HCK : Hid (CkAt O2 b s2 { c1 with letters := m.text } (wc.setCell ⟨b, 0, none⟩ (.string bt))) := by
        rw [hbt]; exact (HL.out.ck _ rfl).1.put rfl rfl rfl rfl rfl rfl
      have HFR : Hid (Fr O w (wc.setCell ⟨b, 0, none⟩ (.string bt)) ∧ (∀ g, O2 g → O g ∨ w.heap.size ≤ g) ∧ ¬ O2 (w.heap.size + 1) ∧ (wc.setCell ⟨b, 0, none⟩ (.string bt)).heap[w.heap.size + 1]? = some (.cells #[.int .i64 0, .int .i64 0] 32 (0, 0))) := by
        have hl := HL.out.loc (w.heap.size + 1, flL (0, 0), 32) (by simp)
        have hb2 := (HL.out.ck _ rfl).1.inB
        exact ⟨HL.out.fr.setCell (HL.out.new b hb2) _ _, HL.out.new, hl.1.off, (hl.1.other (fun e => hl.1.off (by rw [e]; exact hb2)) 0 (.string bt)).heap⟩
      clear HX HT hL e1 e2 e3 e4 hfew hsz hNN hbt HL
      go_upto_region 6 with (fail)
      clear y0 y1 b0 bf
      generalize wc.setCell ⟨b, 0, none⟩ (.string bt) = wd at *
      have hRlt : w.heap.size + 1 < wd.heap.size := lt_block HFR.out.2.2.2
      have HRP : Hid (Calls Tryz.prog 91 #[.slice (some ⟨wd.heap.size, 0, none⟩) 1 1, .int .i64 (NN : Int)] (wd.alloc (.cells #[.int .i64 (-1)] 3)) fun e V => e = .returned (.slice (some ⟨wd.heap.size + 1, 0, none⟩) NN NN) ∧ V.cell? ⟨b, 2, none⟩ = some s2.sv ∧ V.frozen? ⟨b, 2, none⟩ = false ∧ V.cell? ⟨w.heap.size + 1, 0, none⟩ = some (.int .i64 0) ∧ V.cell? ⟨w.heap.size + 1, 1, none⟩ = some (.int .i64 0) ∧ (∀ i, V.frozen? ⟨w.heap.size + 1, i, none⟩ = false) ∧ Hid (Below wd.heap.size wd V ∧ V.heap[wd.heap.size + 1]? = some (.cells (itRow (List.replicate NN (-1))).toArray 3 (0, 0)))) := by
        refine (repeat_calls NN wd.heap.size (wd.alloc (.cells #[.int .i64 (-1)] 3)) hN1 hN2 (heap_alloc_new wd _)).mono ?_
        rintro e V ⟨rfl, hv1, hv2⟩
        have hal : (wd.alloc (.cells #[.int .i64 (-1)] 3)).heap.size = wd.heap.size + 1 := by simp
        rw [hal] at hv1 hv2 ⊢
        have hB1 : Below wd.heap.size wd V := ((Below.refl wd.heap.size wd).alloc (Nat.le_refl _) _).trans ⟨hv2.os, hv2.tape, hv2.output, hv2.size, fun q hq => hv2.block q (by omega)⟩
        have hck := HCK.out.below hB1
        have hR : V.heap[w.heap.size + 1]? = some (.cells #[.int .i64 0, .int .i64 0] 32 (0, 0)) := by rw [hB1.block _ hRlt]; exact HFR.out.2.2.2
        rw [rp_all] at hv1
        exact ⟨rfl, hck.c2, hck.fz 2, blk hR rfl, blk hR rfl, fun i => blkf i hR, hB1, hv1⟩
      clear hN1
      go_wp2_with (go_at_call 91; rw [HM.out]; refine HRP.out.mono ?_; rintro e V ⟨rfl, hc2, hf2, z0, z1, zf, HV⟩)
      refine bodyPost_ret (v := flV (0, 0)) ?_ rfl ?_
      · simp only [results, hres]
        unfold flV
        simp only
        go_simp
      · show TPost _ _ _ _ _ _
        rw [HX2.out]
        have hset := HCK.out.setSub HV.out.1 (g := wd.heap.size + 1) (N := NN) (l := List.replicate NN (-1)) (by omega) HV.out.2 (by simp) (by unfold maxLen; omega)
        have hoff : ¬ (O2 (w.heap.size + 1) ∨ wd.heap.size ≤ w.heap.size + 1) := fun ho => by
          rcases ho with h1 | h1
          · exact HFR.out.2.2.1 h1
          · omega
        have hfr : Fr O w V := HFR.out.1.then_new ⟨HV.out.1.os, HV.out.1.tape, HV.out.1.output, HV.out.1.size, fun q hq => HV.out.1.block q (by have := HFR.out.1.size; omega)⟩
        refine ⟨rfl, ((hfr.setCell (HFR.out.2.1 b HCK.out.inB) _ _).setCell (.inr (by omega)) _ _).setCell (.inr (by omega)) _ _, _, _, fun q hq => ?_, ck_set (ck_set hset hoff _ _) hoff _ _⟩
        rcases hq with h1 | h1
        · exact HFR.out.2.1 q h1
        · exact .inr (by have := HFR.out.1.size; omega)
end Go.Proofs.YtlaodgdlkkmmeaaGreat

