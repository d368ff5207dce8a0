/-
  The document's Fold: its small functions. The document's Fold: what it keeps while it goes. The document's Fold: what is read of the copy's states.
-/
import Derived.Test.YtolehoibpnenlaaMr
import Derived.Test.YtolehoibpnenlaaRcE6
namespace Go.Proofs.Ytolehoibpnenlaa
open Go.RowKit Go.Deep Go.Maps

theorem with_step (v : Int) (b : Bool) (a : Int) (r : List Int) : withF v b (a :: r) = (if !b && decide (v ≤ a) then [v] else []) ++ ((if a ≠ v then [a] else []) ++ withF v (b || decide (v ≤ a)) r) := rfl
set_option maxRecDepth 20000 in
set_option maxHeartbeats 4000000 in
theorem with_calls (l : List Int) (ao : Option Addr) (n c : Nat) (v : Int) (w : World) (h : IntA w ao n l) (hn : n ≤ 100000) :
    Calls Try.prog 26 #[.slice ao n c, .int .i64 v] w fun e w' => ∃ lo lc, e = .returned (.slice lo (withF v false l).length lc) ∧ w'.ownsRow w.heap.size 3 1 (.slice lo (withF v false l).length lc) (withF v false l).length (itRow (withF v false l)) ∧ Below w.heap.size w w' := by
  obtain ⟨i0, hi, hz0, hz1, hz2⟩ := info_parts info3
  have HI : Hid (∀ W, Below w.heap.size w W → IntA W ao n l) := fun W hW => h.below hW
  have HL : Hid (l.length = n) := h.length
  obtain ⟨R, hR⟩ : ∃ R, withF v false l = R := ⟨_, rfl⟩
  have HR : Hid (withF v false l = R ∧ R.length ≤ n + 1) := ⟨hR, by rw [← hR, ← h.length]; exact withF_len v l false⟩
  rw [hR]
  clear h hR
  go_enter Try.func26, Try.ntmps26
  go_wp2
  go_loopg [5, 6, 7] n (fun q ov pv iv wr => ∃ (i : Nat) (b : Bool) (P : List Int), i + q = n ∧ iv = .int .i64 i ∧ pv = .bool b ∧ Hid (wr.ownsRow w.heap.size 3 1 ov P.length (itRow P) ∧ Below w.heap.size w wr ∧ P ++ withF v b (l.drop i) = R))
  case atStart => exact ⟨0, false, [], by omega, rfl, rfl, none_row _ _ _ _, Below.refl _ _, by simpa using HR.out.1⟩
  case round =>
    obtain ⟨i, b, P, hiq, rfl, rfl, HQ⟩ := hrel
    obtain ⟨ov, rfl⟩ : ∃ ov, ov = u5 := ⟨_, rfl⟩
    obtain ⟨m, hm⟩ : ∃ m, P.length = m := ⟨_, rfl⟩
    have HM : Hid (P.length = m) := hm
    have hm1 : m ≤ 100001 := by
      have h1 := congrArg List.length HQ.out.2.2
      have h2 := HR.out.2
      rw [List.length_append] at h1
      omega
    by_cases hlt : i < n
    · obtain ⟨a, ha⟩ : ∃ a, l[i]? = some a := ⟨l[i]'(by rw [HL.out]; exact hlt), List.getElem?_eq_getElem _⟩
      obtain ⟨g1, o1, rfl, hc1⟩ := (HI.out wr HQ.out.2.1).isI i a ha
      have HE : Hid (P ++ ((if !b && decide (v ≤ a) then [v] else []) ++ ((if a ≠ v then [a] else []) ++ withF v (b || decide (v ≤ a)) (l.drop (i + 1)))) = R) := by
        have := HQ.out.2.2
        rw [dropD ha, with_step] at this
        exact this
      have HO : Hid (wr.ownsRow w.heap.size 3 1 ov m (itRow P) ∧ Below w.heap.size w wr) := by rw [← hm]; exact ⟨HQ.out.1, HQ.out.2.1⟩
      have hcA : ∀ o, (wr.alloc o).cell? ⟨g1, o1 + i, none⟩ = some (.int .i64 a) := fun o => Lib.cell?_alloc_some _ hc1
      have HCC : Hid (∀ W, Below w.heap.size w W → W.cell? ⟨g1, o1 + i, none⟩ = some (.int .i64 a)) := fun W hW => by
        obtain ⟨g2, o2, e2, hc2⟩ := (HI.out W hW).isI i a ha
        cases e2
        exact hc2
      clear ha hm HQ
      have hk0 : decide ((i : Int) < (n : Int)) = true := by simp; omega
      have hkd : (i : Int) < (n : Int) := by omega
      cases b with
      | true =>
        by_cases hav : a = v
        · have hq : (a == v) = true := by simpa using hav
          have HF : Hid (wr.ownsRow w.heap.size 3 1 ov (P).length (itRow (P)) ∧ Below w.heap.size w wr ∧ (P) ++ withF v true (l.drop (i + 1)) = R) := by
            refine ⟨?_, HO.out.2, ?_⟩
            · have := HO.out.1
              simpa [HM.out] using this
            · have := HE.out
              simpa [hav] using this
          clear HO HE
          rw [hav] at hc1 hcA HCC
          clear hav hq
          go_wp2
          go_roundg (gk - 1)
          case measure => omega
          case rel => exact ⟨i + 1, true, P, by omega, by go_num, rfl, HF.out⟩
        · have hq : (a == v) = false := by simpa using hav
          obtain ⟨ao7, cap7, rfl⟩ := owned_shape HO.out.1
          have HA7 : Hid ((wr.alloc (.cells #[.int .i64 a] 3)).ownsRow w.heap.size 3 1 (.slice ao7 m cap7) (m) (itRow P)) := owned_below HO.out.1 ((Below.refl _ _).alloc (Nat.le_refl _) _)
          go_wp2_with (at_builtin; refine wpList_append_opt rfl _ _ 23 rfl w.heap.size 3 i0 _ 1 8 Try.underlying23 hi hz0 hz1 hz2 rfl (by decide) (.slice ao7 m cap7) (m) (itRow P) rfl HA7.out (some ⟨wr.heap.size, 0, none⟩) 1 1 [.int .i64 a] rfl ⟨rfl, it_one a, .inr ⟨_, rfl, it_new wr a⟩⟩ (by unfold maxLen; omega) (by omega) (by have := HO.out.2.size; simp; omega) ?_)
          intro v7 w7 ho hg
          have HN7 : Hid (w7.ownsRow w.heap.size 3 1 v7 (m + 1) (itRow (P ++ [a])) ∧ Below w.heap.size w w7) := by
            have hl := HO.out.2.alloc HO.out.2.size (.cells #[.int .i64 a] 3)
            exact ⟨by simpa [itRow] using ho, hl.grown hg hl.size (fun k hk => (owned_from' HA7.out k hk).1)⟩
          clear ho hg HA7 HO
          have HF : Hid (w7.ownsRow w.heap.size 3 1 v7 (P ++ [a]).length (itRow (P ++ [a])) ∧ Below w.heap.size w w7 ∧ (P ++ [a]) ++ withF v true (l.drop (i + 1)) = R) := by
            refine ⟨?_, HN7.out.2, ?_⟩
            · have := HN7.out.1
              simpa [HM.out] using this
            · have := HE.out
              simpa [hav] using this
          clear HN7 HE
          go_wp2
          go_roundg (gk - 1)
          case measure => omega
          case rel => exact ⟨i + 1, true, P ++ [a], by omega, by go_num, rfl, HF.out⟩
      | false =>
        by_cases hva : v ≤ a
        · by_cases hav : a = v
          · rw [hav] at hc1 hcA HCC
            obtain ⟨ao7, cap7, rfl⟩ := owned_shape HO.out.1
            have HA7 : Hid ((wr.alloc (.cells #[.int .i64 v] 3)).ownsRow w.heap.size 3 1 (.slice ao7 m cap7) (m) (itRow P)) := owned_below HO.out.1 ((Below.refl _ _).alloc (Nat.le_refl _) _)
            go_wp2_with (at_builtin; refine wpList_append_opt rfl _ _ 23 rfl w.heap.size 3 i0 _ 1 8 Try.underlying23 hi hz0 hz1 hz2 rfl (by decide) (.slice ao7 m cap7) (m) (itRow P) rfl HA7.out (some ⟨wr.heap.size, 0, none⟩) 1 1 [.int .i64 v] rfl ⟨rfl, it_one v, .inr ⟨_, rfl, it_new wr v⟩⟩ (by unfold maxLen; omega) (by omega) (by have := HO.out.2.size; simp; omega) ?_)
            intro v7 w7 ho hg
            have HN7 : Hid (w7.ownsRow w.heap.size 3 1 v7 (m + 1) (itRow (P ++ [v])) ∧ Below w.heap.size w w7) := by
              have hl := HO.out.2.alloc HO.out.2.size (.cells #[.int .i64 v] 3)
              exact ⟨by simpa [itRow] using ho, hl.grown hg hl.size (fun k hk => (owned_from' HA7.out k hk).1)⟩
            clear ho hg HA7 HO
            have hc7 := HCC.out w7 HN7.out.2
            have HF : Hid (w7.ownsRow w.heap.size 3 1 v7 (P ++ [v]).length (itRow (P ++ [v])) ∧ Below w.heap.size w w7 ∧ (P ++ [v]) ++ withF v true (l.drop (i + 1)) = R) := by
              refine ⟨?_, HN7.out.2, ?_⟩
              · have := HN7.out.1
                simpa [HM.out] using this
              · have := HE.out
                simpa [hav] using this
            clear HN7 HE
            clear hav
            go_wp2
            go_roundg (gk - 1)
            case measure => omega
            case rel => exact ⟨i + 1, true, P ++ [v], by omega, by go_num, rfl, HF.out⟩
          · have hq : (a == v) = false := by simpa using hav
            obtain ⟨ao7, cap7, rfl⟩ := owned_shape HO.out.1
            have HA7 : Hid ((wr.alloc (.cells #[.int .i64 v] 3)).ownsRow w.heap.size 3 1 (.slice ao7 m cap7) (m) (itRow P)) := owned_below HO.out.1 ((Below.refl _ _).alloc (Nat.le_refl _) _)
            go_wp2_with (at_builtin; refine wpList_append_opt rfl _ _ 23 rfl w.heap.size 3 i0 _ 1 8 Try.underlying23 hi hz0 hz1 hz2 rfl (by decide) (.slice ao7 m cap7) (m) (itRow P) rfl HA7.out (some ⟨wr.heap.size, 0, none⟩) 1 1 [.int .i64 v] rfl ⟨rfl, it_one v, .inr ⟨_, rfl, it_new wr v⟩⟩ (by unfold maxLen; omega) (by omega) (by have := HO.out.2.size; simp; omega) ?_)
            intro v7 w7 ho hg
            have HN7 : Hid (w7.ownsRow w.heap.size 3 1 v7 (m + 1) (itRow (P ++ [v])) ∧ Below w.heap.size w w7) := by
              have hl := HO.out.2.alloc HO.out.2.size (.cells #[.int .i64 v] 3)
              exact ⟨by simpa [itRow] using ho, hl.grown hg hl.size (fun k hk => (owned_from' HA7.out k hk).1)⟩
            clear ho hg HA7 HO
            have hc7 := HCC.out w7 HN7.out.2
            have hc7A : ∀ o, (w7.alloc o).cell? ⟨g1, o1 + i, none⟩ = some (.int .i64 a) := fun o => Lib.cell?_alloc_some _ hc7
            obtain ⟨ao8, cap8, rfl⟩ := owned_shape HN7.out.1
            have HA8 : Hid ((w7.alloc (.cells #[.int .i64 a] 3)).ownsRow w.heap.size 3 1 (.slice ao8 (m + 1) cap8) ((m + 1)) (itRow (P ++ [v]))) := owned_below HN7.out.1 ((Below.refl _ _).alloc (Nat.le_refl _) _)
            go_wp2_with (at_builtin; refine wpList_append_opt rfl _ _ 23 rfl w.heap.size 3 i0 _ 1 8 Try.underlying23 hi hz0 hz1 hz2 rfl (by decide) (.slice ao8 (m + 1) cap8) ((m + 1)) (itRow (P ++ [v])) rfl HA8.out (some ⟨w7.heap.size, 0, none⟩) 1 1 [.int .i64 a] rfl ⟨rfl, it_one a, .inr ⟨_, rfl, it_new w7 a⟩⟩ (by unfold maxLen; omega) (by omega) (by have := HN7.out.2.size; simp; omega) ?_)
            intro v8 w8 ho hg
            have HN8 : Hid (w8.ownsRow w.heap.size 3 1 v8 ((m + 1) + 1) (itRow ((P ++ [v]) ++ [a])) ∧ Below w.heap.size w w8) := by
              have hl := HN7.out.2.alloc HN7.out.2.size (.cells #[.int .i64 a] 3)
              exact ⟨by simpa [itRow] using ho, hl.grown hg hl.size (fun k hk => (owned_from' HA8.out k hk).1)⟩
            clear ho hg HA8 HN7
            have HF : Hid (w8.ownsRow w.heap.size 3 1 v8 (P ++ [v, a]).length (itRow (P ++ [v, a])) ∧ Below w.heap.size w w8 ∧ (P ++ [v, a]) ++ withF v true (l.drop (i + 1)) = R) := by
              refine ⟨?_, HN8.out.2, ?_⟩
              · have := HN8.out.1
                simpa [HM.out] using this
              · have := HE.out
                simpa [hav, hva] using this
            clear HN8 HE
            go_wp2
            go_roundg (gk - 1)
            case measure => omega
            case rel => exact ⟨i + 1, true, P ++ [v, a], by omega, by go_num, rfl, HF.out⟩
        · have hav : a ≠ v := by omega
          have hq : (a == v) = false := by simpa using hav
          have hva2 : a < v := by omega
          have HE : Hid ((P ++ [a]) ++ withF v false (l.drop (i + 1)) = R) := by
            show _ = _
            have := HE.out
            simpa [hav, hva] using this
          obtain ⟨ao7, cap7, rfl⟩ := owned_shape HO.out.1
          have HA7 : Hid ((wr.alloc (.cells #[.int .i64 a] 3)).ownsRow w.heap.size 3 1 (.slice ao7 m cap7) (m) (itRow P)) := owned_below HO.out.1 ((Below.refl _ _).alloc (Nat.le_refl _) _)
          go_wp2_with (at_builtin; refine wpList_append_opt rfl _ _ 23 rfl w.heap.size 3 i0 _ 1 8 Try.underlying23 hi hz0 hz1 hz2 rfl (by decide) (.slice ao7 m cap7) (m) (itRow P) rfl HA7.out (some ⟨wr.heap.size, 0, none⟩) 1 1 [.int .i64 a] rfl ⟨rfl, it_one a, .inr ⟨_, rfl, it_new wr a⟩⟩ (by unfold maxLen; omega) (by omega) (by have := HO.out.2.size; simp; omega) ?_)
          intro v7 w7 ho hg
          have HN7 : Hid (w7.ownsRow w.heap.size 3 1 v7 (m + 1) (itRow (P ++ [a])) ∧ Below w.heap.size w w7) := by
            have hl := HO.out.2.alloc HO.out.2.size (.cells #[.int .i64 a] 3)
            exact ⟨by simpa [itRow] using ho, hl.grown hg hl.size (fun k hk => (owned_from' HA7.out k hk).1)⟩
          clear ho hg HA7 HO
          have HF : Hid (w7.ownsRow w.heap.size 3 1 v7 (P ++ [a]).length (itRow (P ++ [a])) ∧ Below w.heap.size w w7 ∧ (P ++ [a]) ++ withF v false (l.drop (i + 1)) = R) := by
            refine ⟨?_, HN7.out.2, ?_⟩
            · have := HN7.out.1
              simpa [HM.out] using this
            · have := HE.out
              simpa [hav] using this
          clear HN7 HE
          go_wp2
          go_roundg (gk - 1)
          case measure => omega
          case rel => exact ⟨i + 1, false, P ++ [a], by omega, by go_num, rfl, HF.out⟩
    · have hin : i = n := by omega
      have hk0 : decide ((i : Int) < (n : Int)) = false := by simp; omega
      have HE : Hid (P ++ (if b then [] else [v]) = R) := by
        have := HQ.out.2.2
        rw [List.drop_eq_nil_of_le (by rw [HL.out]; omega), withF] at this
        exact this
      have HO : Hid (wr.ownsRow w.heap.size 3 1 ov m (itRow P) ∧ Below w.heap.size w wr) := by rw [← hm]; exact ⟨HQ.out.1, HQ.out.2.1⟩
      clear hm HQ hin
      cases b with
      | true =>
        go_wp2
        go_ret
        have hE := HE.out
        simp at hE
        subst hE
        obtain ⟨ao7, cap7, rfl⟩ := owned_shape HO.out.1
        exact ⟨ao7, cap7, by simp [HM.out], by rw [HM.out]; exact HO.out⟩
      | false =>
        obtain ⟨ao7, cap7, rfl⟩ := owned_shape HO.out.1
        have HA7 : Hid ((wr.alloc (.cells #[.int .i64 v] 3)).ownsRow w.heap.size 3 1 (.slice ao7 m cap7) (m) (itRow P)) := owned_below HO.out.1 ((Below.refl _ _).alloc (Nat.le_refl _) _)
        go_wp2_with (at_builtin; refine wpList_append_opt rfl _ _ 23 rfl w.heap.size 3 i0 _ 1 8 Try.underlying23 hi hz0 hz1 hz2 rfl (by decide) (.slice ao7 m cap7) (m) (itRow P) rfl HA7.out (some ⟨wr.heap.size, 0, none⟩) 1 1 [.int .i64 v] rfl ⟨rfl, it_one v, .inr ⟨_, rfl, it_new wr v⟩⟩ (by unfold maxLen; omega) (by omega) (by have := HO.out.2.size; simp; omega) ?_)
        intro v7 w7 ho hg
        have HN7 : Hid (w7.ownsRow w.heap.size 3 1 v7 (m + 1) (itRow (P ++ [v])) ∧ Below w.heap.size w w7) := by
          have hl := HO.out.2.alloc HO.out.2.size (.cells #[.int .i64 v] 3)
          exact ⟨by simpa [itRow] using ho, hl.grown hg hl.size (fun k hk => (owned_from' HA7.out k hk).1)⟩
        clear ho hg HA7 HO
        go_wp2
        go_ret
        have hE := HE.out
        simp at hE
        subst hE
        obtain ⟨ao9, cap9, rfl⟩ := owned_shape HN7.out.1
        exact ⟨ao9, cap9, by simp [HM.out], by simpa [HM.out] using HN7.out⟩
theorem rising_at : ∀ {l : List Int} {k : Nat} {v : Int}, Rising l → l[k]? = some v → idxB l v = k
  | [], _, _, _, h => by simp at h
  | a :: r, 0, v, hr, h => by
    simp at h; subst h
    exact idx_low fun b hb => by
      rcases List.mem_cons.1 hb with rfl | hb
      · omega
      · have := (List.pairwise_cons.1 hr).1 b hb; omega
  | a :: r, k + 1, v, hr, h => by
    have h2 : r[k]? = some v := by simpa using h
    have := (List.pairwise_cons.1 hr).1 v (List.mem_of_getElem? h2)
    rw [idx_cons, if_pos this, rising_at (List.pairwise_cons.1 hr).2 h2]
    omega
set_option maxRecDepth 20000 in
set_option maxHeartbeats 1000000 in
theorem placeOf_calls (l : List Int) (ao : Option Addr) (n c : Nat) (v : Int) (w : World) (h : IntA w ao n l) (hn : n ≤ 100000) (hr : Rising l) (hv : v ∈ l) :
    Calls Try.prog 28 #[.slice ao n c, .int .i64 v] w fun e w' => e = .returned (.int .i64 (idxB l v)) ∧ w = w' := by
  have HI : Hid (IntA w ao n l ∧ Rising l ∧ v ∈ l) := ⟨h, hr, hv⟩
  clear h hr hv
  go_enter Try.func28, Try.ntmps28
  go_wp2
  go_loop [5] (fun i => ∃ k : Nat, k ≤ n ∧ i = .int .i64 k ∧ Hid (∀ j a, j < k → l[j]? = some a → a ≠ v)) (fun i => n - (intOf i).toNat)
  case atStart => exact ⟨0, Nat.zero_le _, rfl, fun j a hj => by omega⟩
  case round =>
    obtain ⟨k, hk, rfl, HA⟩ := hrel
    by_cases hlt : k < n
    · obtain ⟨a, ha⟩ : ∃ a, l[k]? = some a := ⟨l[k]'(by rw [HI.out.1.length]; exact hlt), List.getElem?_eq_getElem _⟩
      obtain ⟨g1, o1, rfl, hc1⟩ := HI.out.1.isI k a ha
      have HK : Hid (l[k]? = some a) := ha
      clear ha
      have hkd : (k : Int) < (n : Int) := by omega
      by_cases hav : a = v
      · have HX : Hid (idxB l v = (k : Int)) := by rw [← hav]; exact rising_at HI.out.2.1 HK.out
        have hq : (a == v) = true := by simpa using hav
        rw [hav] at hc1
        clear hav hq
        go_wp2
        go_ret
        exact ⟨ret_int HX.out.symm, rfl⟩
      · have hq : (a == v) = false := by simpa using hav
        have HV : Hid (a ≠ v) := hav
        go_wp2
        go_round
        case rel =>
          refine ⟨k + 1, by omega, by go_num, fun j b hj hb => ?_⟩
          by_cases e : j = k
          · subst e; rw [HK.out] at hb; cases hb; exact HV.out
          · exact HA.out j b (by omega) hb
        case measure => simp [intOf]; omega
    · exfalso
      obtain ⟨j, hj, e⟩ := List.getElem_of_mem HI.out.2.2
      exact HA.out j v (by rw [HI.out.1.length] at hj; omega) (by rw [← e]; exact List.getElem?_eq_getElem hj) rfl
end Go.Proofs.Ytolehoibpnenlaa
namespace Go.Proofs.Ytolehoibpnenlaa
open Go.RowKit Go.Deep Go.Maps

def wl (vs ps : List Int) : List Int := (ps.map (vAt vs)).foldl (fun l n => withF n false l) []
theorem wl_snoc (vs ps : List Int) (p : Int) : wl vs (ps ++ [p]) = withF (vAt vs p) false (wl vs ps) := by simp [wl]
theorem wl_len (vs ps : List Int) : (wl vs ps).length ≤ ps.length := by
  have key : ∀ (ns l : List Int), (ns.foldl (fun l n => withF n false l) l).length ≤ ns.length + l.length := by
    intro ns
    induction ns with
    | nil => intro l; simp
    | cons n r ih =>
      intro l
      have h1 := ih (withF n false l)
      have h2 := withF_len n l false
      rw [List.foldl_cons, List.length_cons]
      omega
  have := key (ps.map (vAt vs)) []
  simpa [wl] using this
theorem wl_kept (x : Rc) (vs : List Int) : wl vs (placesL x) = keptB x vs := rfl
/-- The list so far. -/
def LS (w2 : World) (vs ps : List Int) (v : Value) (W : World) : Prop := ∃ lo m lc, v = .slice lo m lc ∧ m = (wl vs ps).length ∧ IntA W lo m (wl vs ps) ∧ Below w2.heap.size w2 W
theorem ls_low {w2 : World} {vs ps : List Int} {v : Value} {W : World} (h : LS w2 vs ps v W) : Below w2.heap.size w2 W := by
  obtain ⟨_, _, _, _, _, _, hb⟩ := h
  exact hb
theorem ls_val {w2 : World} {vs ps : List Int} {v : Value} {W : World} (h : LS w2 vs ps v W) : ∃ lo m lc, v = .slice lo m lc := by
  obtain ⟨a, b, c, e, _⟩ := h
  exact ⟨a, b, c, e⟩
theorem with_ls {w2 : World} {vs ps : List Int} {lo : Option Addr} {m lc : Nat} {W : World} (h : LS w2 vs ps (.slice lo m lc) W) (p z : Int) (hz : z = vAt vs p) (hl : ps.length ≤ 5000) :
    Calls Try.prog 26 #[.slice lo m lc, .int .i64 z] W fun e w' => ∃ lo' m' lc', e = .returned (.slice lo' m' lc') ∧ LS w2 vs (ps ++ [p]) (.slice lo' m' lc') w' ∧ Below W.heap.size W w' := by
  subst hz
  obtain ⟨_, _, _, e, hm, hi, hb⟩ := h
  cases e
  refine (with_calls (wl vs ps) lo m lc (vAt vs p) W hi (by rw [hm]; have := wl_len vs ps; omega)).mono ?_
  rintro e w' ⟨lo', lc', rfl, ho, hbw⟩
  rw [← wl_snoc] at ho ⊢
  refine ⟨lo', _, lc', rfl, ⟨lo', _, lc', rfl, rfl, intA_own ho rfl (by have := wl_len vs (ps ++ [p]); rw [List.length_append] at this; unfold maxLen; simp at this; omega), hb.trans (hbw.mono hb.size)⟩, hbw⟩
/-- What is told, in rows of its own. -/
structure FO (wc : World) (g2 : Nat) (X : Rc) (oda : Option Addr) (odc : Nat) (osa : Option Addr) (osc : Nat) (ota : Option Addr) (otc : Nat) (osl : List Sr) (wr : World) : Prop where
  low : Below wc.heap.size wc wr
  g2b : wc.heap.size ≤ g2
  out : wr.heap[g2]? = some (.cells (rcCells X oda X.defs.length odc osa X.subst.length osc ota X.states.length otc) 26 (0, 0))
  cp : CpO wr wc.heap.size X oda odc osa osc ota otc osl
section
variable {wc : World} {g2 : Nat} {X : Rc} {oda : Option Addr} {odc : Nat} {osa : Option Addr} {osc : Nat} {ota : Option Addr} {otc : Nat} {osl : List Sr} {wr : World}
theorem FO.next (h : FO wc g2 X oda odc osa osc ota otc osl wr) {w' : World} (hb : Below wr.heap.size wr w') : FO wc g2 X oda odc osa osc ota otc osl w' :=
  ⟨h.low.trans (hb.mono h.low.size), h.g2b, by rw [hb.block _ (lt_block h.out)]; exact h.out, h.cp.below hb⟩
theorem FO.heap (h : FO wc g2 X oda odc osa osc ota otc osl wr) {w' : World} (e : w'.heap = wr.heap) (hl : Below wc.heap.size wc w') : FO wc g2 X oda odc osa osc ota otc osl w' :=
  ⟨hl, h.g2b, by rw [e]; exact h.out, ⟨owned_heap h.cp.defs e, owned_heap h.cp.subst e, owned_heap h.cp.states e, ⟨h.cp.rows.1, fun i r s hi hs => ⟨(h.cp.rows.2 i r s hi hs).1, (h.cp.rows.2 i r s hi hs).2.1, owned_heap (h.cp.rows.2 i r s hi hs).2.2 e⟩⟩, h.cp.apart⟩⟩
/-- A number of the box is written. -/
theorem FO.num (h : FO wc g2 X oda odc osa osc ota otc osl wr) {X' : Rc} (e1 : X'.defs = X.defs) (e2 : X'.subst = X.subst) (e3 : X'.states = X.states) (i : Nat) (v : Value) (hc : (rcCells X oda X.defs.length odc osa X.subst.length osc ota X.states.length otc).setIfInBounds i v = rcCells X' oda X'.defs.length odc osa X'.subst.length osc ota X'.states.length otc) : FO wc g2 X' oda odc osa osc ota otc osl (wr.setCell ⟨g2, i, none⟩ v) := by
  have hg := grown_set wr g2 i v
  refine ⟨h.low.setCell h.g2b v, h.g2b, by rw [heap_set v h.out, hc], ⟨?_, ?_, ?_, ?_, h.cp.apart⟩⟩
  · rw [e1]; exact own_kind h.cp.defs h.out (by decide) hg
  · rw [e2]; exact own_kind h.cp.subst h.out (by decide) hg
  · rw [e3]; exact own_kind h.cp.states h.out (by decide) hg
  · rw [e3]; exact h.cp.rows.kind h.out (by decide) hg
/-- The definitions' row is another. -/
theorem FO.defs' (h : FO wc g2 X oda odc osa osc ota otc osl wr) {w' : World} {da2 : Option Addr} {dc2 : Nat} {D : List Df} {r : Option Nat} (hg : wr.grownBy w' r) (hr : ∀ k, r = some k → wc.heap.size ≤ k ∧ (k < wr.heap.size → ∃ cs, wr.heap[k]? = some (.cells cs 36 (0, 0)))) (hd : w'.ownsRow wc.heap.size 36 4 (.slice da2 D.length dc2) D.length (dfRow D)) :
    FO wc g2 { X with defs := D } da2 dc2 osa osc ota otc osl (w'.setCell ⟨g2, 1, none⟩ (.slice da2 D.length dc2)) := by
  have hk : ∀ k, k < wr.heap.size → (∀ cs : Array Value, wr.heap[k]? ≠ some (Obj.cells cs 36 (0, 0))) → w'.heap[k]? = wr.heap[k]? := fun k hk hn => hg.block k hk (fun e => by
    obtain ⟨cs, hc⟩ := (hr k e.symm).2 hk
    exact hn cs hc)
  have ho : w'.heap[g2]? = _ := (hk g2 (lt_block h.out) (fun cs e => by rw [h.out] at e; cases e)).trans h.out
  have hgs := grown_set w' g2 1 (.slice da2 D.length dc2)
  have key : ∀ {e : TypeId} {size : Nat} {v : Value} {n : Nat} {xs : List Value}, e ≠ 36 → e ≠ 26 → wr.ownsRow wc.heap.size e size v n xs → (w'.setCell ⟨g2, 1, none⟩ (.slice da2 D.length dc2)).ownsRow wc.heap.size e size v n xs := fun h1 h2 hx =>
    own_kind (owned_of_block hx fun g cur _ hc => hk g (lt_block hc) (fun cs e => by rw [hc] at e; cases e; exact h1 rfl)) ho h2 hgs
  refine ⟨(h.low.grown hg h.low.size (fun k hk => (hr k hk).1)).setCell h.g2b _, h.g2b, ?_, ⟨own_kind hd ho (by decide) hgs, key (by decide) (by decide) h.cp.subst, key (by decide) (by decide) h.cp.states, ⟨h.cp.rows.1, fun i r s hi hs => ⟨(h.cp.rows.2 i r s hi hs).1, (h.cp.rows.2 i r s hi hs).2.1, key (by decide) (by decide) (h.cp.rows.2 i r s hi hs).2.2⟩⟩, h.cp.apart⟩⟩
  rw [heap_set _ ho]
  rfl
/-- A substitution is written. -/
theorem FO.sub {osg : Nat} (h : FO wc g2 X oda odc (some ⟨osg, 0, none⟩) osc ota otc osl wr) (i : Nat) (q : Int) (hi : i < X.subst.length) : FO wc g2 { X with subst := X.subst.set i q } oda odc (some ⟨osg, 0, none⟩) osc ota otc osl (wr.setCell ⟨osg, i, none⟩ (.int .i64 q)) := by
  have hs := h.cp.subst
  have hg := grown_set wr osg i (.int .i64 q)
  obtain ⟨cs, _, hb, hc⟩ := own_block hs (by omega)
  simp only [blkOf] at hb hc
  refine ⟨h.low.setCell hb _, h.g2b, ?_, ⟨own_kind h.cp.defs hc (by decide) hg, ?_, own_kind h.cp.states hc (by decide) hg, h.cp.rows.kind hc (by decide) hg, h.cp.apart⟩⟩
  · rw [hg.block _ (lt_block h.out) (fun e => by injection e with e; have := h.out; rw [e, hc] at this; cases this), h.out]
    simp [rcCells]
  · have h1 := own_set hs i (.int .i64 q)
    simp only [List.length_set]
    rw [show (itRow X.subst).set i (.int .i64 q) = itRow (X.subst.set i q) by simp [itRow, List.map_set]] at h1
    exact h1
/-- A cost is written. -/
theorem FO.edge (h : FO wc g2 X oda odc osa osc ota otc osl wr) {i k eg en ec : Nat} {kd : Int} {s : St} {e : Int × Int} (hr : osl[i]? = some (kd, some ⟨eg, 0, none⟩, en, ec)) (hs : X.states[i]? = some s) (he : s.2[k]? = some e) (q : Int) :
    FO wc g2 { X with states := X.states.set i (s.1, s.2.set k (e.1, q)) } oda odc osa osc ota otc osl (wr.setCell ⟨eg, k * 2 + 1, none⟩ (.int .i64 q)) := by
  obtain ⟨k1, k2, k3⟩ := h.cp.rows.2 i _ s hr hs
  simp only at k1 k2 k3
  have hg := grown_set wr eg (k * 2 + 1) (.int .i64 q)
  have hkl := (List.getElem?_eq_some_iff.1 he).1
  obtain ⟨cs, _, hb, hc⟩ := own_block k3 (by omega)
  simp only [blkOf] at hb hc
  refine ⟨h.low.setCell hb _, h.g2b, ?_, ⟨own_kind h.cp.defs hc (by decide) hg, own_kind h.cp.subst hc (by decide) hg, ?_, ⟨by simpa using h.cp.rows.1, fun j r t hj ht => ?_⟩, h.cp.apart⟩⟩
  · rw [hg.block _ (lt_block h.out) (fun e => by injection e with e; have := h.out; rw [e, hc] at this; cases this), h.out]
    simp [rcCells]
  · have := own_kind h.cp.states hc (by decide) hg
    simpa using this
  · by_cases hji : j = i
    · subst hji
      rw [hr] at hj
      cases hj
      have hil := (List.getElem?_eq_some_iff.1 hs).1
      simp only [List.getElem?_set_self hil, Option.some.injEq] at ht
      subst ht
      refine ⟨k1, by simpa using k2, ?_⟩
      have h1 := own_set k3 (k * 2 + 1) (.int .i64 q)
      have h2 : (pcRow s.2).set (k * 2 + 1) (.int .i64 q) = pcRow (s.2.set k (e.1, q)) := by
        obtain ⟨h3, h4⟩ := List.getElem?_eq_some_iff.1 he
        have h5 := pcRow_set (s.2.take k) e q (s.2.drop (k + 1))
        have h6 : s.2.take k ++ e :: s.2.drop (k + 1) = s.2 := by rw [← h4, ← List.drop_eq_getElem_cons h3, List.take_append_drop]
        rw [h6] at h5
        rw [show (s.2.take k).length = k by simp; omega] at h5
        rw [h5]
        congr 1
        rw [List.set_eq_take_append_cons_drop, if_pos h3]
      rw [h2] at h1
      exact h1
    · have ht' : X.states[j]? = some t := by
        simp only at ht
        rw [List.getElem?_set_ne (Ne.symm hji)] at ht
        exact ht
      obtain ⟨p1, p2, p3⟩ := h.cp.rows.2 j r t hj ht'
      refine ⟨p1, p2, own_apart p3 hg (fun e' => ?_)⟩
      rcases p3.2 with ⟨hv, _⟩ | ⟨g', cap', cur', hv, _⟩
      · rw [hv] at e'; cases e'
      · rw [hv] at e'
        simp [Value.ownBlock] at e'
        subst e'
        injection hv with e1
        exact h.cp.apart i j _ r ⟨g', 0, none⟩ (Ne.symm hji) hr hj rfl e1
end
/-- Lists of which the head is done. -/
def parL {α : Type} (f : α → α) (l : List α) (i : Nat) : List α := (l.take i).map f ++ l.drop i
theorem parL_zero {α : Type} (f : α → α) (l : List α) : parL f l 0 = l := by simp [parL]
theorem parL_all {α : Type} (f : α → α) (l : List α) {i : Nat} (h : l.length ≤ i) : parL f l i = l.map f := by simp [parL, List.take_of_length_le h, List.drop_eq_nil_of_le h]
theorem parL_len {α : Type} (f : α → α) (l : List α) (i : Nat) : (parL f l i).length = l.length := by simp [parL]; omega
theorem parL_get {α : Type} (f : α → α) (l : List α) (i : Nat) {a : α} (h : l[i]? = some a) : (parL f l i)[i]? = some a := by
  have hl := (List.getElem?_eq_some_iff.1 h).1
  rw [parL, List.getElem?_append_right (by simp; omega)]
  simp [Nat.min_eq_left (Nat.le_of_lt hl), h]
theorem parL_set {α : Type} (f : α → α) (l : List α) (i : Nat) {a : α} (h : l[i]? = some a) : (parL f l i).set i (f a) = parL f l (i + 1) := by
  obtain ⟨hl, e⟩ := List.getElem?_eq_some_iff.1 h
  rw [parL, parL, List.take_succ_eq_append_getElem hl, e, List.drop_eq_getElem_cons hl, e]
  simp [Nat.min_eq_left (Nat.le_of_lt hl)]
theorem parL_same {α : Type} (f : α → α) (l : List α) (i : Nat) {a : α} (h : l[i]? = some a) (hf : f a = a) : parL f l (i + 1) = parL f l i := by
  rw [← parL_set f l i h, hf]
  obtain ⟨hl, e⟩ := List.getElem?_eq_some_iff.1 (parL_get f l i h)
  rw [← e]
  exact List.set_getElem_self hl
end Go.Proofs.Ytolehoibpnenlaa
namespace Go.Proofs.Ytolehoibpnenlaa
open Go.RowKit Go.Deep Go.Maps

section
variable {wc : World} {g2 : Nat} {X : Rc} {oda : Option Addr} {odc : Nat} {osa : Option Addr} {osc : Nat} {ota : Option Addr} {otc : Nat} {osl : List Sr} {wr : World}
theorem FO.st (h : FO wc g2 X oda odc osa osc ota otc osl wr) {i en ec otg : Nat} {kd : Int} {ea : Option Addr} (hr : osl[i]? = some (kd, ea, en, ec)) (hto : ota = some ⟨otg, 0, none⟩) : wr.cell? ⟨otg, i * 2 + 1, none⟩ = some (.slice ea en ec) := by
  subst hto
  exact (owned_cells h.cp.states (i * 2 + 1) _ (flat_get (f := srCells) (s := 2) (fun _ => rfl) osl i _ 1 _ hr rfl)).1
theorem FO.ed (h : FO wc g2 X oda odc osa osc ota otc osl wr) {i k en ec : Nat} {kd : Int} {ea : Option Addr} {s : St} {e : Int × Int} (hr : osl[i]? = some (kd, ea, en, ec)) (hs : X.states[i]? = some s) (he : s.2[k]? = some e) : ∃ eg, ea = some ⟨eg, 0, none⟩ ∧ wr.cell? ⟨eg, k * 2 + 1, none⟩ = some (.int .i64 e.2) ∧ wr.frozen? ⟨eg, k * 2 + 1, none⟩ = false := by
  obtain ⟨_, k2, k3⟩ := h.cp.rows.2 i _ s hr hs
  simp only at k2 k3
  have hkl := (List.getElem?_eq_some_iff.1 he).1
  obtain ⟨g, _, hv, _⟩ := owned_some k3 (by omega)
  injection hv with e1
  subst e1
  exact ⟨g, rfl, owned_cells k3 (k * 2 + 1) _ (flat_get (f := pcCells) (s := 2) (fun _ => rfl) s.2 k _ 1 _ he rfl)⟩
end
theorem cost_place {x : Rc} {s : St} {e : Int × Int} (hs : s ∈ x.states) (he : e ∈ s.2) (hc : e.2 ≠ -1) : e.2 ∈ placesL x := by
  refine List.mem_cons_of_mem _ (List.mem_cons_of_mem _ (List.mem_append_right _ (List.mem_flatMap.2 ⟨s, hs, ?_⟩)))
  simp only [costsL, List.mem_filter, List.mem_map]
  exact ⟨⟨e, he, rfl⟩, by simpa using hc⟩
theorem parL_at {α β : Type} (G : α × β → α × β) (l : List (α × β)) (i : Nat) {s : α × β} (h : l[i]? = some s) : (parL G l i).set i (s.1, s.2) = parL G l i := by
  obtain ⟨hl, e⟩ := List.getElem?_eq_some_iff.1 (parL_get G l i h)
  have : (s.1, s.2) = s := rfl
  rw [this, ← e]
  exact List.set_getElem_self hl
end Go.Proofs.Ytolehoibpnenlaa
