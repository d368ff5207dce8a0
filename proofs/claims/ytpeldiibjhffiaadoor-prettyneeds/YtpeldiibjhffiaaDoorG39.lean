/-
  PrettyKids is proved for every input: an expression's text is read as it, standing alone, and as the argument of each sign. Its conditions are the row's own: what is handed in reads as data, and the tables that the standard library reads are as its text lays them. PrettyNeeds: the walk of the look for the bracket that ends one. A region in which two variables are laid and a call is made, in whatever order.
-/
import Derived.Deep.DeepCutAuto
import Derived.Deep.RegionHeld3
import Derived.Test.YtpeldiibjhffiaaDoorG38
import Derived.Test.YtpeldiibjhffiaaDoorG33
import Derived.Test.YtpeldiibjhffiaaDoorG19
import Derived.Test.YtpeldiibjhffiaaDoorCat
import Derived.Test.YtpeldiibjhffiaaDoorG32
namespace Go.Proofs.YtpeldiibjhffiaaDoor
open Go.RowKit Go.Deep

theorem hK_ok (k : Int) (h : 0 ≤ k ∧ k ≤ 100) : HdOk (hK k) := ⟨(by show InR k; unfold InR; omega), (by show InR 0; unfold InR; omega), (by show 0 ≤ _; omega), (by show InR 0; unfold InR; omega)⟩
theorem kids_same (a b : Ex) (pa : Option Addr) (pn pc : Nat) (qa : Option Addr) (qn qc : Nat) (w : World) (hA : ExAt false (fun _ => True) w a pa pn) (hB : ExAt false (fun _ => True) w b qa qn) (L' : List It) (hs : sameI L' (kI a b) = true) (W : World) (tb : Option Addr) (um uc g1 g2 g3 y1 y2 y3 y4 z : Nat) (hW : Below w.heap.size w W) (hum : um ≤ 4002) (hI : ∃ Y : Nat → Prop, ItsAt true Y W L' tb um)
    (h1 : W.heap[g1]? = some (.cells #[.int .i64 a.1.kind, .int .i64 a.1.num, .string (bs a.1.text), .slice pa pn pc, .int .i64 a.1.pl, .int .i64 b.1.kind, .int .i64 b.1.num, .string (bs b.1.text), .slice qa qn qc, .int .i64 b.1.pl] 40 (0, 0))) (h2 : W.heap[g2]? = some (.cells #[.int .i64 a.1.kind, .int .i64 a.1.num, .string (bs a.1.text), .slice pa pn pc, .int .i64 a.1.pl, .int .i64 b.1.kind, .int .i64 b.1.num, .string (bs b.1.text), .slice qa qn qc, .int .i64 b.1.pl] 40 (0, 0))) (h3 : W.heap[g3]? = some (.cells #[.int .i64 b.1.kind, .int .i64 b.1.num, .string (bs b.1.text), .slice qa qn qc, .int .i64 b.1.pl] 40 (0, 0)))
    (k1 : W.heap[y1]? = some (.cells #[.int .i64 7, .int .i64 0, .string ⟨#[]⟩, .slice (some ⟨g1, 0, none⟩) 2 2, .int .i64 0] 40 (0, 0))) (k2 : W.heap[y2]? = some (.cells #[.int .i64 6, .int .i64 0, .string ⟨#[]⟩, .slice (some ⟨g2, 0, none⟩) 2 2, .int .i64 0] 40 (0, 0))) (k3 : W.heap[y3]? = some (.cells #[.int .i64 a.1.kind, .int .i64 a.1.num, .string (bs a.1.text), .slice pa pn pc, .int .i64 a.1.pl] 40 (0, 0))) (k4 : W.heap[y4]? = some (.cells #[.int .i64 4, .int .i64 0, .string ⟨#[]⟩, .slice (some ⟨g3, 0, none⟩) 1 1, .int .i64 0] 40 (0, 0)))
    (hz : W.heap[z]? = some (.cells #[.int .i64 10, .string ⟨#[]⟩, .slice (some ⟨y1, 0, none⟩) 1 1, .int .i64 0, .int .i64 10, .string ⟨#[]⟩, .slice (some ⟨y2, 0, none⟩) 1 1, .int .i64 0, .int .i64 10, .string ⟨#[]⟩, .slice (some ⟨y3, 0, none⟩) 1 1, .int .i64 0, .int .i64 10, .string ⟨#[]⟩, .slice (some ⟨y4, 0, none⟩) 1 1, .int .i64 0] 37 (0, 0))) :
    Calls Tryd.prog 13 #[.agg #[.slice tb um uc], .agg #[.slice (some ⟨z, 0, none⟩) 4 4]] W fun e w' => e = .returned (.bool true) ∧ Below W.heap.size W w' := by
  have eA := hA.below hW
  have eB := hB.below hW
  have f1 : FoAt false (fun _ => True) W (ofL [a, b]) (some ⟨g1, 0, none⟩) 2 := foAt_row trivial h1 [(a, pa, pn, pc), (b, qa, qn, qc)] 0 (fun _ => rfl) (fun i u hi => by
    rw [Nat.zero_add, ← Array.getElem?_toList]; exact hi) (fun x hx => by
    simp only [List.mem_cons, List.not_mem_nil, or_false] at hx
    rcases hx with rfl | rfl
    · exact eA
    · exact eB)
  have f2 : FoAt false (fun _ => True) W (ofL [a, b]) (some ⟨g2, 0, none⟩) 2 := foAt_row trivial h2 [(a, pa, pn, pc), (b, qa, qn, qc)] 0 (fun _ => rfl) (fun i u hi => by
    rw [Nat.zero_add, ← Array.getElem?_toList]; exact hi) (fun x hx => by
    simp only [List.mem_cons, List.not_mem_nil, or_false] at hx
    rcases hx with rfl | rfl
    · exact eA
    · exact eB)
  have one : ∀ (e : Ex) (ka : Option Addr) (kn kc g : Nat) (cs : Array Value), W.heap[g]? = some (.cells cs 40 (0, 0)) → cs.toList = xsCells (e, ka, kn, kc) → ExAt false (fun _ => True) W e ka kn → FoAt false (fun _ => True) W (ofL [e]) (some ⟨g, 0, none⟩) 1 := fun e ka kn kc g cs hg hcs hE =>
    foAt_row trivial hg [(e, ka, kn, kc)] 0 (fun _ => rfl) (fun i u hi => by
      rw [Nat.zero_add, ← Array.getElem?_toList, hcs]; simpa [xRow] using hi) (fun x hx => by
      simp only [List.mem_cons, List.not_mem_nil, or_false] at hx
      subst hx
      exact hE)
  have f3 := one b qa qn qc g3 _ h3 rfl eB
  have m1 := one (hK 7, ofL [a, b]) (some ⟨g1, 0, none⟩) 2 2 y1 _ k1 rfl ⟨hK_ok 7 (by omega), by unfold maxLen; omega, f1⟩
  have m2 := one (hK 6, ofL [a, b]) (some ⟨g2, 0, none⟩) 2 2 y2 _ k2 rfl ⟨hK_ok 6 (by omega), by unfold maxLen; omega, f2⟩
  have m3 := one a pa pn pc y3 _ k3 rfl eA
  have m4 := one (hK 4, ofL [b]) (some ⟨g3, 0, none⟩) 1 1 y4 _ k4 rfl ⟨hK_ok 4 (by omega), by unfold maxLen; omega, f3⟩
  have iok : ∀ F : Fo, ItOk ⟨10, [], F, 0⟩ := fun F => ⟨(by show InR 10; unfold InR; omega), (by show 0 ≤ _; omega), (by show InR 0; unfold InR; omega)⟩
  have hw : ItsAt false (fun _ => True) W (kI a b) (some ⟨z, 0, none⟩) 4 := itsAt_row trivial hz [(⟨10, [], ofL [(hK 7, ofL [a, b])], 0⟩, some ⟨y1, 0, none⟩, 1, 1), (⟨10, [], ofL [(hK 6, ofL [a, b])], 0⟩, some ⟨y2, 0, none⟩, 1, 1), (⟨10, [], ofL [a], 0⟩, some ⟨y3, 0, none⟩, 1, 1), (⟨10, [], ofL [(hK 4, ofL [b])], 0⟩, some ⟨y4, 0, none⟩, 1, 1)] 0 (fun _ => rfl) (fun i u hi => by
    rw [Nat.zero_add, ← Array.getElem?_toList]; exact hi) (fun x hx => by
    simp only [List.mem_cons, List.not_mem_nil, or_false] at hx
    rcases hx with rfl | rfl | rfl | rfl
    · exact ⟨iok _, (by show 1 ≤ maxLen; decide), m1⟩
    · exact ⟨iok _, (by show 1 ≤ maxLen; decide), m2⟩
    · exact ⟨iok _, (by show 1 ≤ maxLen; decide), m3⟩
    · exact ⟨iok _, (by show 1 ≤ maxLen; decide), m4⟩)
  obtain ⟨Y, hI⟩ := hI
  have := same_calls L' (kI a b) tb (some ⟨z, 0, none⟩) um uc 4 4 W true false Y _ hI hw (by unfold maxLen; omega) (by decide)
  rw [hs] at this
  exact this
theorem depth_small {a : Ex} (ha : rgtF 32 (ofL [a]) = true) : wrap64 (depW a.2 + 1) = ((depF a.2 + 1 : Nat) : Int) := by
  have := depK_of ha
  rw [depW_eq _ (by omega), wrap_small (by omega) (by omega)]
  omega
theorem exprB_ok {e : Ex} {z : List UInt8} (h : exprB e = (z, 0)) : rgtF 32 (ofL [e]) = true ∧ z = txE e := by
  unfold exprB at h
  split at h
  · rename_i hr
    split at h
    · exact ⟨hr, by simpa using (congrArg Prod.fst h).symm⟩
    · simp at h
  · simp at h
end Go.Proofs.YtpeldiibjhffiaaDoor
namespace Go.Proofs.YtpeldiibjhffiaaDoor
open Go.RowKit Go.Deep

/-- What the look tells of a place and what it finds from there on. -/
def cloR (j : Nat) : Option Nat → Int
  | none => -1
  | some k => ((j + k : Nat) : Int)
theorem cloR_next (j : Nat) (x : Option Nat) : cloR j (x.map (· + 1)) = cloR (j + 1) x := by
  cases x with
  | none => rfl
  | some k => simp [cloR]; omega
theorem ret_i64 {a b : Int} (h : a = b) : Ending.returned (.int .i64 a) = .returned (.int .i64 b) := by rw [h]
theorem eqb (c : UInt8) (n : Nat) (h : n < 256) : (((c.toNat : Nat) : Int) == (n : Int)) = decide (c = UInt8.ofNat n) := by
  rw [← beq_byte c n h, Bool.eq_iff_iff]; simp
theorem eq34 (c : UInt8) : (((c.toNat : Nat) : Int) == 34) = decide (c = 34) := eqb c 34 (by decide)
theorem eq40 (c : UInt8) : (((c.toNat : Nat) : Int) == 40) = decide (c = 40) := eqb c 40 (by decide)
theorem eq41 (c : UInt8) : (((c.toNat : Nat) : Int) == 41) = decide (c = 41) := eqb c 41 (by decide)
theorem clo_quote (q : Bool) (o : Int) (r : List UInt8) : clo q o (34 :: r) = (clo (!q) o r).map (· + 1) := by
  rw [clo, if_neg (by decide +revert), if_neg (by decide +revert), tg_34]
theorem clo_in {c : UInt8} (h : c ≠ 34) (o : Int) (r : List UInt8) : clo true o (c :: r) = (clo true o r).map (· + 1) := by
  rw [clo, tg_ne h, if_neg (by simp), if_neg (by simp)]
theorem clo_open (o : Int) (r : List UInt8) : clo false o (40 :: r) = (clo false (o + 1) r).map (· + 1) := by
  rw [clo, if_pos (by decide)]
theorem clo_last {o : Int} (h : o - 1 = 0) (r : List UInt8) : clo false o (41 :: r) = some 0 := by
  rw [clo, if_neg (by decide), if_pos (by decide), if_pos h]
theorem clo_close {o : Int} (h : ¬ o - 1 = 0) (r : List UInt8) : clo false o (41 :: r) = (clo false (o - 1) r).map (· + 1) := by
  rw [clo, if_neg (by decide), if_pos (by decide), if_neg h]
theorem clo_other {c : UInt8} (h : c ≠ 34) (h1 : c ≠ 40) (h2 : c ≠ 41) (o : Int) (r : List UInt8) : clo false o (c :: r) = (clo false o r).map (· + 1) := by
  rw [clo, tg_ne h, if_neg (by simp [h1]), if_neg (by simp [h2])]
set_option maxRecDepth 20000 in
set_option maxHeartbeats 4000000 in
theorem closing_calls (s : ByteArray) (i : Nat) (w : World) (hs : s.size ≤ 600) (hi : i ≤ s.size) :
    Calls Tryd.prog 16 #[.string s, .int .i64 (i : Int)] w fun e w' => e = .returned (.int .i64 (cloR i (clo false 0 (s.data.toList.drop i)))) ∧ w' = w := by
  have H0 : Hid (cloR i (clo false 0 (s.data.toList.drop i)) = cloR i (clo false 0 (s.data.toList.drop i))) := rfl
  generalize hR : cloR i (clo false 0 (s.data.toList.drop i)) = R at *
  have H1 : Hid (cloR i (clo false 0 (s.data.toList.drop i)) = R) := hR
  clear hR H0
  go_enter Tryd.func16, Tryd.ntmps16
  go_wp2_with fail
  go_loop [5, 6, 7] (fun ov qv iv => ∃ (j : Nat) (o : Int) (q : Bool), j ≤ s.size ∧ ov = .int .i64 o ∧ qv = .bool q ∧ iv = .int .i64 (j : Int) ∧ -((j : Int)) ≤ o ∧ o ≤ j ∧ Hid (cloR j (clo q o (s.data.toList.drop j)) = R)) (fun _ _ iv => s.size - (intOf iv).toNat)
  case atStart => exact ⟨i, 0, false, hi, rfl, rfl, rfl, by omega, by omega, H1.out⟩
  case round =>
    obtain ⟨j, o, q, hj, rfl, rfl, rfl, ho1, ho2, HR⟩ := hrel
    clear H1 hi
    by_cases hlt : j < s.size
    · have hdk : decide ((j : Int) < (s.size : Int)) = true := by simp; omega
      have HG : Hid (s.data.toList[j]? = some s[j]) := getElem?_at s j hlt
      have HD : Hid (cloR j (clo q o (s[j] :: s.data.toList.drop (j + 1))) = R) := by
        have := HR.out
        rw [drop_at HG.out] at this
        exact this
      have e34 := eq34 s[j]
      have e40 := eq40 s[j]
      have e41 := eq41 s[j]
      clear HR HG
      by_cases h34 : s[j] = 34
      · rw [decide_eq_true h34] at e34
        rw [decide_eq_false (by rw [h34]; decide)] at e40 e41
        have HN : Hid (cloR (j + 1) (clo (!q) o (s.data.toList.drop (j + 1))) = R) := by
          have := HD.out
          rw [h34, clo_quote, cloR_next] at this
          exact this
        clear HD h34
        cases q
        · go_wp2
          go_round
          case rel => exact ⟨j + 1, o, true, by omega, rfl, rfl, by go_num, by omega, by omega, HN.out⟩
          case measure => simp [intOf]; omega
        · go_wp2
          go_round
          case rel => exact ⟨j + 1, o, false, by omega, rfl, rfl, by go_num, by omega, by omega, HN.out⟩
          case measure => simp [intOf]; omega
      · rw [decide_eq_false h34] at e34
        cases q with
        | true =>
          have HN : Hid (cloR (j + 1) (clo true o (s.data.toList.drop (j + 1))) = R) := by
            have := HD.out
            rw [clo_in h34, cloR_next] at this
            exact this
          clear HD h34 e40 e41
          go_wp2
          go_round
          case rel => exact ⟨j + 1, o, true, by omega, rfl, rfl, by go_num, by omega, by omega, HN.out⟩
          case measure => simp [intOf]; omega
        | false =>
          by_cases h40 : s[j] = 40
          · rw [decide_eq_true h40] at e40
            rw [decide_eq_false (by rw [h40]; decide)] at e41
            have HN : Hid (cloR (j + 1) (clo false (o + 1) (s.data.toList.drop (j + 1))) = R) := by
              have := HD.out
              rw [h40, clo_open, cloR_next] at this
              exact this
            clear HD h34 h40
            go_wp2
            go_round
            case rel => exact ⟨j + 1, o + 1, false, by omega, by go_num, rfl, by go_num, by omega, by omega, HN.out⟩
            case measure => simp [intOf]; omega
          · rw [decide_eq_false h40] at e40
            by_cases h41 : s[j] = 41
            · rw [decide_eq_true h41] at e41
              by_cases ho : o - 1 = 0
              · have HN : Hid ((j : Int) = R) := by
                  have := HD.out
                  rw [h41, clo_last ho] at this
                  have h2 : ((j + 0 : Nat) : Int) = R := this
                  exact (show (j : Int) = R by omega)
                obtain rfl : o = 1 := by omega
                clear HD h34 h40 h41
                go_wp2
                go_ret
                exact ⟨ret_i64 HN.out, rfl⟩
              · have HN : Hid (cloR (j + 1) (clo false (o - 1) (s.data.toList.drop (j + 1))) = R) := by
                  have := HD.out
                  rw [h41, clo_close ho, cloR_next] at this
                  exact this
                have hoz : ((o - 1 : Int) == 0) = false := by rw [beq_eq_false_iff_ne]; exact ho
                clear HD h34 h40 h41
                go_wp2
                go_round
                case rel => exact ⟨j + 1, o - 1, false, by omega, by go_num, rfl, by go_num, by omega, by omega, HN.out⟩
                case measure => simp [intOf]; omega
            · rw [decide_eq_false h41] at e41
              have HN : Hid (cloR (j + 1) (clo false o (s.data.toList.drop (j + 1))) = R) := by
                have := HD.out
                rw [clo_other h34 h40 h41, cloR_next] at this
                exact this
              clear HD h34 h40 h41
              go_wp2
              go_round
              case rel => exact ⟨j + 1, o, false, by omega, rfl, rfl, by go_num, by omega, by omega, HN.out⟩
              case measure => simp [intOf]; omega
    · have hdk : decide ((j : Int) < (s.size : Int)) = false := by simp; omega
      have HN : Hid (-1 = R) := by
        have := HR.out
        rw [List.drop_eq_nil_of_le (by rw [size_toList]; omega)] at this
        exact this
      clear HR
      go_wp2
      go_ret
      exact ⟨ret_i64 HN.out, rfl⟩
end Go.Proofs.YtpeldiibjhffiaaDoor
namespace Go.Proofs.YtpeldiibjhffiaaDoor
open Go.RowKit Go.Deep

section
variable {P : Program} {ops : Array Oper} {Q : Exit → Act → World → Prop} {md : Region.Mode} {S : World → Prop} {x : Nat}
theorem wpAnyX_two {i j : Nat} {o p : Oper} {fuel : Nat} {listed : Array Bool} {a : Act} {w : World} (hr : Region.ready md ops listed = [i, j]) (ho : ops[i]? = some o) (hp : ops[j]? = some p)
    (h : ∀ K' : Act → World → Prop, Shut (∀ a w, (i ≠ x → S w) → wpAnyX P md ops Q S x fuel (listed.setIfInBounds i true) a w → K' a w) → if Region.wanted o (yielded ops a.tmps) = true then Oper.wp P o a w K' Q else K' (a.put o.dst undef) w)
    (h' : ∀ K' : Act → World → Prop, Shut (∀ a w, (j ≠ x → S w) → wpAnyX P md ops Q S x fuel (listed.setIfInBounds j true) a w → K' a w) → if Region.wanted p (yielded ops a.tmps) = true then Oper.wp P p a w K' Q else K' (a.put p.dst undef) w) :
    wpAnyX P md ops Q S x (fuel + 1) listed a w := by
  refine ⟨fun h0 => absurd (hr.symm.trans h0) (by simp), fun k hk => ?_⟩
  rw [hr] at hk
  simp only [List.mem_cons, List.not_mem_nil, or_false] at hk
  rcases hk with rfl | rfl
  · exact wpOp_step ho (fun K' hK => h K' (fun a w hS hW => hK a w ⟨hS, hW⟩))
  · exact wpOp_step hp (fun K' hK => h' K' (fun a w hS hW => hK a w ⟨hS, hW⟩))
theorem wpAnyX_three {i j l : Nat} {o p q : Oper} {fuel : Nat} {listed : Array Bool} {a : Act} {w : World} (hr : Region.ready md ops listed = [i, j, l]) (ho : ops[i]? = some o) (hp : ops[j]? = some p) (hq : ops[l]? = some q)
    (h : ∀ K' : Act → World → Prop, Shut (∀ a w, (i ≠ x → S w) → wpAnyX P md ops Q S x fuel (listed.setIfInBounds i true) a w → K' a w) → if Region.wanted o (yielded ops a.tmps) = true then Oper.wp P o a w K' Q else K' (a.put o.dst undef) w)
    (h' : ∀ K' : Act → World → Prop, Shut (∀ a w, (j ≠ x → S w) → wpAnyX P md ops Q S x fuel (listed.setIfInBounds j true) a w → K' a w) → if Region.wanted p (yielded ops a.tmps) = true then Oper.wp P p a w K' Q else K' (a.put p.dst undef) w)
    (h'' : ∀ K' : Act → World → Prop, Shut (∀ a w, (l ≠ x → S w) → wpAnyX P md ops Q S x fuel (listed.setIfInBounds l true) a w → K' a w) → if Region.wanted q (yielded ops a.tmps) = true then Oper.wp P q a w K' Q else K' (a.put q.dst undef) w) :
    wpAnyX P md ops Q S x (fuel + 1) listed a w := by
  refine ⟨fun h0 => absurd (hr.symm.trans h0) (by simp), fun k hk => ?_⟩
  rw [hr] at hk
  simp only [List.mem_cons, List.not_mem_nil, or_false] at hk
  rcases hk with rfl | rfl | rfl
  · exact wpOp_step ho (fun K' hK => h K' (fun a w hS hW => hK a w ⟨hS, hW⟩))
  · exact wpOp_step hp (fun K' hK => h' K' (fun a w hS hW => hK a w ⟨hS, hW⟩))
  · exact wpOp_step hq (fun K' hK => h'' K' (fun a w hS hW => hK a w ⟨hS, hW⟩))
end
/-- A block of a tree's. -/
def TB (w : World) (g : Nat) : Prop := ∃ cs ty, (ty = 37 ∨ ty = 40) ∧ w.heap[g]? = some (.cells cs ty (0, 0))
theorem fo_typed {S : Nat → Prop} {w : World} : ∀ {F : Fo} {ao : Option Addr} {n : Nat}, FoAt true S w F ao n → FoAt true (TB w) w F ao n
  | .nil, _, _, h => h
  | .node _ _ _ k r, _, _, h => by
    obtain ⟨g, off, ka, kn, kc, m, h1, h2, h3, h4, h5, h6, h7, h8, h9⟩ := h
    refine ⟨g, off, ka, kn, kc, m, h1, h2, ?_, h4, h5, h6, h7, fo_typed h8, fo_typed h9⟩
    obtain ⟨cs, hc⟩ := (h4 rfl).2
    exact ⟨cs, 40, .inr rfl, hc⟩
theorem its_typed {S : Nat → Prop} {w : World} : ∀ {l : List It} {ao : Option Addr} {n : Nat}, ItsAt true S w l ao n → ItsAt true (TB w) w l ao n
  | [], _, _, h => h
  | i :: r, _, _, h => by
    obtain ⟨g, off, ka, kn, kc, m, h1, h2, h3, h4, h5, h6, h7, h8, h9⟩ := h
    refine ⟨g, off, ka, kn, kc, m, h1, h2, ?_, h4, h5, h6, h7, fo_typed h8, its_typed h9⟩
    obtain ⟨cs, hc⟩ := (h4 rfl).2
    exact ⟨cs, 37, .inl rfl, hc⟩
/-- A tree is in memory. -/
def Tr (W : World) (L : List It) (ao : Option Addr) (n : Nat) : Prop := ∃ X : Nat → Prop, ItsAt true X W L ao n
theorem Tr.below {W W' : World} {L : List It} {ao : Option Addr} {n : Nat} (h : Tr W L ao n) (hb : Below W.heap.size W W') : Tr W' L ao n := h.imp fun _ h => h.below hb
theorem Tr.set {W : World} {L : List It} {ao : Option Addr} {n g i : Nat} {u : Value} {cs : Array Value} {ty : TypeId} (h : Tr W L ao n) (hg : W.heap[g]? = some (.cells cs ty (0, 0))) (h1 : ty ≠ 37) (h2 : ty ≠ 40) : Tr (W.setCell ⟨g, i, none⟩ u) L ao n := by
  obtain ⟨X, h⟩ := h
  refine ⟨_, itsAt_keep (fun g' _ hS => ?_) (its_typed h)⟩
  obtain ⟨cs', ty', ht, hc⟩ := hS
  refine heap_other rfl ?_
  rintro rfl
  rw [hg] at hc
  cases hc
  rcases ht with h | h
  · exact h1 h
  · exact h2 h
/-- What stays of the whole. -/
def Bs (w : World) (g0 : Nat) (ta : Option Addr) (tn tc : Nat) (L0 : List It) (W : World) : Prop := Below w.heap.size w W ∧ W.heap[g0]? = some (.cells #[.slice ta tn tc] 24 (0, 0)) ∧ Tr W L0 ta tn
theorem Bs.below {w : World} {g0 : Nat} {ta : Option Addr} {tn tc : Nat} {L0 : List It} {W W' : World} (h : Bs w g0 ta tn tc L0 W) (hb : Below W.heap.size W W') : Bs w g0 ta tn tc L0 W' :=
  ⟨h.1.trans (hb.mono h.1.size), by rw [hb.block _ (lt_block h.2.1)]; exact h.2.1, h.2.2.below hb⟩
theorem Bs.set {w : World} {g0 : Nat} {ta : Option Addr} {tn tc : Nat} {L0 : List It} {W : World} (h : Bs w g0 ta tn tc L0 W) {g i : Nat} {u : Value} {cs : Array Value} {ty : TypeId} (hg : W.heap[g]? = some (.cells cs ty (0, 0))) (h1 : ty ≠ 37) (h2 : ty ≠ 40) (h3 : g0 < g) (h4 : w.heap.size ≤ g) : Bs w g0 ta tn tc L0 (W.setCell ⟨g, i, none⟩ u) :=
  ⟨h.1.setCell (p := ⟨g, i, none⟩) h4 u, heap_other h.2.1 (by omega), h.2.2.set hg h1 h2⟩
/-- A variable that is laid. -/
structure Vr (w : World) (g0 : Nat) (W : World) (g : Nat) (cs : Array Value) (ty : TypeId) : Prop where
  at_ : W.heap[g]? = some (.cells cs ty (0, 0))
  hi : g0 < g ∧ w.heap.size ≤ g
theorem Vr.below {w : World} {g0 : Nat} {W W' : World} {g : Nat} {cs : Array Value} {ty : TypeId} (h : Vr w g0 W g cs ty) (hb : Below W.heap.size W W') : Vr w g0 W' g cs ty :=
  ⟨by rw [hb.block _ (lt_block h.at_)]; exact h.at_, h.hi⟩
theorem Vr.new {w : World} {g0 : Nat} {ta : Option Addr} {tn tc : Nat} {L0 : List It} {W : World} (h : Bs w g0 ta tn tc L0 W) (cs : Array Value) (ty : TypeId) : Vr w g0 (W.alloc (.cells cs ty)) W.heap.size cs ty :=
  ⟨heap_alloc_new W _, lt_block h.2.1, h.1.size⟩
theorem Vr.other {w : World} {g0 : Nat} {W : World} {g g' i : Nat} {u : Value} {cs cs' : Array Value} {ty ty' : TypeId} (h : Vr w g0 W g cs ty) (h' : Vr w g0 W g' cs' ty') (hne : ty ≠ ty') : Vr w g0 (W.setCell ⟨g', i, none⟩ u) g cs ty :=
  ⟨heap_other h.at_ (by
    rintro rfl
    have e := h.at_.symm.trans h'.at_
    cases e
    exact hne rfl), h.hi⟩
theorem Vr.put {w : World} {g0 : Nat} {W : World} {g i : Nat} {u : Value} {cs cs' : Array Value} {ty : TypeId} (h : Vr w g0 W g cs ty) (hc : cs.setIfInBounds i u = cs') : Vr w g0 (W.setCell ⟨g, i, none⟩ u) g cs' ty :=
  ⟨heap_put h.at_ hc, h.hi⟩
end Go.Proofs.YtpeldiibjhffiaaDoor
