/-
  PrettyKids is proved for every input: an expression's text is read as it, standing alone, and as the argument of each sign. Its conditions are the row's own: what is handed in reads as data, and the tables that the standard library reads are as its text lays them. PrettyKids: the ways on which nothing is read. PrettyKids: the text is read.
-/
import Derived.Deep.DeepCutAuto
import Derived.Deep.RegionHeld3
import Derived.Test.YtpeldiibjhffiaaDoorBkK
import Derived.Test.YtpeldiibjhffiaaDoorG33
import Derived.Test.YtpeldiibjhffiaaDoorG19
import Derived.Test.YtpeldiibjhffiaaDoorCat
namespace Go.Proofs.YtpeldiibjhffiaaDoor
open Go.RowKit Go.Deep

theorem hK_ok (k : Int) (h : 0 ≤ k ∧ k ≤ 100) : HdOk (hK k) := ⟨(by show InR k; unfold InR; omega), (by show InR 0; unfold InR; omega), (by show 0 ≤ _; omega), (by show InR 0; unfold InR; omega)⟩
theorem kids_same (a b : Ex) (pa : Option Addr) (pn pc : Nat) (qa : Option Addr) (qn qc : Nat) (w : World) (hA : ExAt false (fun _ => True) w a pa pn) (hB : ExAt false (fun _ => True) w b qa qn) (L' : List It) (hs : sameI L' (kI a b) = true) (W : World) (tb : Option Addr) (um uc g1 g2 g3 y1 y2 y3 y4 z : Nat) (hW : Below w.heap.size w W) (hum : um ≤ 4002) (hI : ∃ Y : Nat → Prop, ItsAt true Y W L' tb um)
    (h1 : W.heap[g1]? = some (.cells #[.int .i64 a.1.kind, .int .i64 a.1.num, .string (bs a.1.text), .slice pa pn pc, .int .i64 a.1.pl, .int .i64 b.1.kind, .int .i64 b.1.num, .string (bs b.1.text), .slice qa qn qc, .int .i64 b.1.pl] 40 (0, 0))) (h2 : W.heap[g2]? = some (.cells #[.int .i64 a.1.kind, .int .i64 a.1.num, .string (bs a.1.text), .slice pa pn pc, .int .i64 a.1.pl, .int .i64 b.1.kind, .int .i64 b.1.num, .string (bs b.1.text), .slice qa qn qc, .int .i64 b.1.pl] 40 (0, 0))) (h3 : W.heap[g3]? = some (.cells #[.int .i64 b.1.kind, .int .i64 b.1.num, .string (bs b.1.text), .slice qa qn qc, .int .i64 b.1.pl] 40 (0, 0)))
    (k1 : W.heap[y1]? = some (.cells #[.int .i64 7, .int .i64 0, .string ⟨#[]⟩, .slice (some ⟨g1, 0, none⟩) 2 2, .int .i64 0] 40 (0, 0))) (k2 : W.heap[y2]? = some (.cells #[.int .i64 6, .int .i64 0, .string ⟨#[]⟩, .slice (some ⟨g2, 0, none⟩) 2 2, .int .i64 0] 40 (0, 0))) (k3 : W.heap[y3]? = some (.cells #[.int .i64 a.1.kind, .int .i64 a.1.num, .string (bs a.1.text), .slice pa pn pc, .int .i64 a.1.pl] 40 (0, 0))) (k4 : W.heap[y4]? = some (.cells #[.int .i64 4, .int .i64 0, .string ⟨#[]⟩, .slice (some ⟨g3, 0, none⟩) 1 1, .int .i64 0] 40 (0, 0)))
    (hz : W.heap[z]? = some (.cells #[.int .i64 10, .string ⟨#[]⟩, .slice (some ⟨y1, 0, none⟩) 1 1, .int .i64 0, .int .i64 10, .string ⟨#[]⟩, .slice (some ⟨y2, 0, none⟩) 1 1, .int .i64 0, .int .i64 10, .string ⟨#[]⟩, .slice (some ⟨y3, 0, none⟩) 1 1, .int .i64 0, .int .i64 10, .string ⟨#[]⟩, .slice (some ⟨y4, 0, none⟩) 1 1, .int .i64 0] 37 (0, 0))) :
    Calls Tryd.prog 13 #[.agg #[.slice tb um uc], .agg #[.slice (some ⟨z, 0, none⟩) 4 4]] W fun e w' => e = .returned (.bool true) ∧ Below W.heap.size W w' := by
  have eA := hA.below hW
  have eB := hB.below hW
  have f1 : FoAt false (fun _ => True) W (ofL [a, b]) (some ⟨g1, 0, none⟩) 2 := foAt_row trivial h1 [(a, pa, pn, pc), (b, qa, qn, qc)] 0 (fun _ => rfl) (fun i u hi => by
    rw [Nat.zero_add, ← Array.getElem?_toList]; exact hi) (fun x hx => by
    simp only [List.mem_cons, List.not_mem_nil, or_false] at hx
    rcases hx with rfl | rfl
    · exact eA
    · exact eB)
  have f2 : FoAt false (fun _ => True) W (ofL [a, b]) (some ⟨g2, 0, none⟩) 2 := foAt_row trivial h2 [(a, pa, pn, pc), (b, qa, qn, qc)] 0 (fun _ => rfl) (fun i u hi => by
    rw [Nat.zero_add, ← Array.getElem?_toList]; exact hi) (fun x hx => by
    simp only [List.mem_cons, List.not_mem_nil, or_false] at hx
    rcases hx with rfl | rfl
    · exact eA
    · exact eB)
  have one : ∀ (e : Ex) (ka : Option Addr) (kn kc g : Nat) (cs : Array Value), W.heap[g]? = some (.cells cs 40 (0, 0)) → cs.toList = xsCells (e, ka, kn, kc) → ExAt false (fun _ => True) W e ka kn → FoAt false (fun _ => True) W (ofL [e]) (some ⟨g, 0, none⟩) 1 := fun e ka kn kc g cs hg hcs hE =>
    foAt_row trivial hg [(e, ka, kn, kc)] 0 (fun _ => rfl) (fun i u hi => by
      rw [Nat.zero_add, ← Array.getElem?_toList, hcs]; simpa [xRow] using hi) (fun x hx => by
      simp only [List.mem_cons, List.not_mem_nil, or_false] at hx
      subst hx
      exact hE)
  have f3 := one b qa qn qc g3 _ h3 rfl eB
  have m1 := one (hK 7, ofL [a, b]) (some ⟨g1, 0, none⟩) 2 2 y1 _ k1 rfl ⟨hK_ok 7 (by omega), by unfold maxLen; omega, f1⟩
  have m2 := one (hK 6, ofL [a, b]) (some ⟨g2, 0, none⟩) 2 2 y2 _ k2 rfl ⟨hK_ok 6 (by omega), by unfold maxLen; omega, f2⟩
  have m3 := one a pa pn pc y3 _ k3 rfl eA
  have m4 := one (hK 4, ofL [b]) (some ⟨g3, 0, none⟩) 1 1 y4 _ k4 rfl ⟨hK_ok 4 (by omega), by unfold maxLen; omega, f3⟩
  have iok : ∀ F : Fo, ItOk ⟨10, [], F, 0⟩ := fun F => ⟨(by show InR 10; unfold InR; omega), (by show 0 ≤ _; omega), (by show InR 0; unfold InR; omega)⟩
  have hw : ItsAt false (fun _ => True) W (kI a b) (some ⟨z, 0, none⟩) 4 := itsAt_row trivial hz [(⟨10, [], ofL [(hK 7, ofL [a, b])], 0⟩, some ⟨y1, 0, none⟩, 1, 1), (⟨10, [], ofL [(hK 6, ofL [a, b])], 0⟩, some ⟨y2, 0, none⟩, 1, 1), (⟨10, [], ofL [a], 0⟩, some ⟨y3, 0, none⟩, 1, 1), (⟨10, [], ofL [(hK 4, ofL [b])], 0⟩, some ⟨y4, 0, none⟩, 1, 1)] 0 (fun _ => rfl) (fun i u hi => by
    rw [Nat.zero_add, ← Array.getElem?_toList]; exact hi) (fun x hx => by
    simp only [List.mem_cons, List.not_mem_nil, or_false] at hx
    rcases hx with rfl | rfl | rfl | rfl
    · exact ⟨iok _, (by show 1 ≤ maxLen; decide), m1⟩
    · exact ⟨iok _, (by show 1 ≤ maxLen; decide), m2⟩
    · exact ⟨iok _, (by show 1 ≤ maxLen; decide), m3⟩
    · exact ⟨iok _, (by show 1 ≤ maxLen; decide), m4⟩)
  obtain ⟨Y, hI⟩ := hI
  have := same_calls L' (kI a b) tb (some ⟨z, 0, none⟩) um uc 4 4 W true false Y _ hI hw (by unfold maxLen; omega) (by decide)
  rw [hs] at this
  exact this
theorem depth_small {a : Ex} (ha : rgtF 32 (ofL [a]) = true) : wrap64 (depW a.2 + 1) = ((depF a.2 + 1 : Nat) : Int) := by
  have := depK_of ha
  rw [depW_eq _ (by omega), wrap_small (by omega) (by omega)]
  omega
theorem exprB_ok {e : Ex} {z : List UInt8} (h : exprB e = (z, 0)) : rgtF 32 (ofL [e]) = true ∧ z = txE e := by
  unfold exprB at h
  split at h
  · rename_i hr
    split at h
    · exact ⟨hr, by simpa using (congrArg Prod.fst h).symm⟩
    · simp at h
  · simp at h
end Go.Proofs.YtpeldiibjhffiaaDoor
namespace Go.Proofs.YtpeldiibjhffiaaDoor
open Go.RowKit Go.Deep

theorem below_sk {w W W' : World} {p q : Obj} (h : Below w.heap.size w W ∧ W.heap[w.heap.size]? = some p ∧ W.heap[w.heap.size + 1]? = some q) (hb : Below W.heap.size W W') : Below w.heap.size w W' ∧ W'.heap[w.heap.size]? = some p ∧ W'.heap[w.heap.size + 1]? = some q :=
  ⟨h.1.trans (hb.mono h.1.size), by rw [hb.block _ (lt_block h.2.1)]; exact h.2.1, by rw [hb.block _ (lt_block h.2.2)]; exact h.2.2⟩

set_option maxRecDepth 20000 in
set_option maxHeartbeats 4000000 in
theorem kids_bad1 (a b : Ex) (pa : Option Addr) (pn pc : Nat) (qa : Option Addr) (qn qc : Nat) (w : World) (htab : TabOk w) (hA : ExAt false (fun _ => True) w a pa pn) (hB : ExAt false (fun _ => True) w b qa qn) (hz : (exprB a).2 ≠ 0) :
    Calls Tryd.prog 6 #[.agg #[.int .i64 a.1.kind, .int .i64 a.1.num, .string (bs a.1.text), .slice pa pn pc, .int .i64 a.1.pl], .agg #[.int .i64 b.1.kind, .int .i64 b.1.num, .string (bs b.1.text), .slice qa qn qc, .int .i64 b.1.pl]] w fun e w' => e = .returned (.bool true) ∧ Below w.heap.size w w' := by
  have HA : Hid (∀ W, Below w.heap.size w W → Calls Tryd.prog 10 #[] W fun e w' => e = .returned (.bool true) ∧ Below W.heap.size W w') := fun W hW => awake_calls W (htab.below hW)
  have HPa : Hid (∀ W, Below w.heap.size w W → Calls Tryd.prog 14 #[.agg #[.int .i64 a.1.kind, .int .i64 a.1.num, .string (bs a.1.text), .slice pa pn pc, .int .i64 a.1.pl]] W fun e w' => e = .returned (.tuple #[.string (bs (exprB a).1), .int .i64 (exprB a).2]) ∧ Below W.heap.size W w') := fun W hW => text_bs (exprP_calls a pa pn pc W (hA.below hW) (htab.below hW))
  have HPb : Hid (∀ W, Below w.heap.size w W → Calls Tryd.prog 14 #[.agg #[.int .i64 b.1.kind, .int .i64 b.1.num, .string (bs b.1.text), .slice qa qn qc, .int .i64 b.1.pl]] W fun e w' => e = .returned (.tuple #[.string (bs (exprB b).1), .int .i64 (exprB b).2]) ∧ Below W.heap.size W w') := fun W hW => text_bs (exprP_calls b qa qn qc W (hB.below hW) (htab.below hW))
  have HV : Hid (Below w.heap.size w ((w.alloc (.cells #[.int .i64 a.1.kind, .int .i64 a.1.num, .string (bs a.1.text), .slice pa pn pc, .int .i64 a.1.pl] 40)).alloc (.cells #[.int .i64 b.1.kind, .int .i64 b.1.num, .string (bs b.1.text), .slice qa qn qc, .int .i64 b.1.pl] 40)) ∧ ((w.alloc (.cells #[.int .i64 a.1.kind, .int .i64 a.1.num, .string (bs a.1.text), .slice pa pn pc, .int .i64 a.1.pl] 40)).alloc (.cells #[.int .i64 b.1.kind, .int .i64 b.1.num, .string (bs b.1.text), .slice qa qn qc, .int .i64 b.1.pl] 40)).heap[w.heap.size]? = some (.cells #[.int .i64 a.1.kind, .int .i64 a.1.num, .string (bs a.1.text), .slice pa pn pc, .int .i64 a.1.pl] 40 (0, 0)) ∧ ((w.alloc (.cells #[.int .i64 a.1.kind, .int .i64 a.1.num, .string (bs a.1.text), .slice pa pn pc, .int .i64 a.1.pl] 40)).alloc (.cells #[.int .i64 b.1.kind, .int .i64 b.1.num, .string (bs b.1.text), .slice qa qn qc, .int .i64 b.1.pl] 40)).heap[w.heap.size + 1]? = some (.cells #[.int .i64 b.1.kind, .int .i64 b.1.num, .string (bs b.1.text), .slice qa qn qc, .int .i64 b.1.pl] 40 (0, 0))) := ⟨below_two w _ _, heap_old (heap_alloc_new w _), twoN_new w _ _⟩
  have hz2 : ((exprB a).2 != 0) = true := by simpa using hz
  clear hz
  generalize bs (exprB a).1 = s1 at *
  generalize (exprB a).2 = z1 at *
  generalize bs (exprB b).1 = s2 at *
  generalize (exprB b).2 = z2 at *
  generalize a.1.kind = a0 at *
  generalize a.1.num = a1 at *
  generalize bs a.1.text = a2 at *
  generalize a.1.pl = a4 at *
  generalize b.1.kind = b0 at *
  generalize b.1.num = b1 at *
  generalize bs b.1.text = b2 at *
  generalize b.1.pl = b4 at *
  clear hA hB htab 
  go_enter Tryd.func6, Tryd.ntmps6
  go_wp2_with fail
  refine (HA.out _ HV.out.1).mono ?_
  rintro e w1 ⟨rfl, hb1⟩
  have H1 : Hid (Below w.heap.size w w1 ∧ w1.heap[w.heap.size]? = some (.cells #[.int .i64 a0, .int .i64 a1, .string a2, .slice pa pn pc, .int .i64 a4] 40 (0, 0)) ∧ w1.heap[w.heap.size + 1]? = some (.cells #[.int .i64 b0, .int .i64 b1, .string b2, .slice qa qn qc, .int .i64 b4] 40 (0, 0))) := below_sk HV.out hb1
  clear hb1 HV HA
  have x0 := blk (i := 0) H1.out.2.1 rfl
  have x1 := blk (i := 1) H1.out.2.1 rfl
  have x2 := blk (i := 2) H1.out.2.1 rfl
  have x3 := blk (i := 3) H1.out.2.1 rfl
  have x4 := blk (i := 4) H1.out.2.1 rfl
  go_wp2_with fail
  refine (HPa.out _ H1.out.1).mono ?_
  rintro e w2 ⟨rfl, hb2⟩
  have H2 : Hid (Below w.heap.size w w2 ∧ w2.heap[w.heap.size]? = some (.cells #[.int .i64 a0, .int .i64 a1, .string a2, .slice pa pn pc, .int .i64 a4] 40 (0, 0)) ∧ w2.heap[w.heap.size + 1]? = some (.cells #[.int .i64 b0, .int .i64 b1, .string b2, .slice qa qn qc, .int .i64 b4] 40 (0, 0))) := below_sk H1.out hb2
  clear hb2 H1 HPa x0 x1 x2 x3 x4
  have x0 := blk (i := 0) H2.out.2.2 rfl
  have x1 := blk (i := 1) H2.out.2.2 rfl
  have x2 := blk (i := 2) H2.out.2.2 rfl
  have x3 := blk (i := 3) H2.out.2.2 rfl
  have x4 := blk (i := 4) H2.out.2.2 rfl
  go_wp2_with fail
  refine (HPb.out _ H2.out.1).mono ?_
  rintro e w3 ⟨rfl, hb3⟩
  have H3 : Hid (Below w.heap.size w w3 ∧ w3.heap[w.heap.size]? = some (.cells #[.int .i64 a0, .int .i64 a1, .string a2, .slice pa pn pc, .int .i64 a4] 40 (0, 0)) ∧ w3.heap[w.heap.size + 1]? = some (.cells #[.int .i64 b0, .int .i64 b1, .string b2, .slice qa qn qc, .int .i64 b4] 40 (0, 0))) := below_sk H2.out hb3
  clear hb3 H2 HPb x0 x1 x2 x3 x4
  have HB : Hid (Below w.heap.size w w3) := H3.out.1
  clear H3
  go_wp2
  go_ret
  exact ⟨rfl, HB.out⟩

set_option maxRecDepth 20000 in
set_option maxHeartbeats 4000000 in
theorem kids_bad2 (a b : Ex) (pa : Option Addr) (pn pc : Nat) (qa : Option Addr) (qn qc : Nat) (w : World) (htab : TabOk w) (hA : ExAt false (fun _ => True) w a pa pn) (hB : ExAt false (fun _ => True) w b qa qn) (hy : (exprB a).2 = 0) (hz : (exprB b).2 ≠ 0) :
    Calls Tryd.prog 6 #[.agg #[.int .i64 a.1.kind, .int .i64 a.1.num, .string (bs a.1.text), .slice pa pn pc, .int .i64 a.1.pl], .agg #[.int .i64 b.1.kind, .int .i64 b.1.num, .string (bs b.1.text), .slice qa qn qc, .int .i64 b.1.pl]] w fun e w' => e = .returned (.bool true) ∧ Below w.heap.size w w' := by
  have HA : Hid (∀ W, Below w.heap.size w W → Calls Tryd.prog 10 #[] W fun e w' => e = .returned (.bool true) ∧ Below W.heap.size W w') := fun W hW => awake_calls W (htab.below hW)
  have HPa : Hid (∀ W, Below w.heap.size w W → Calls Tryd.prog 14 #[.agg #[.int .i64 a.1.kind, .int .i64 a.1.num, .string (bs a.1.text), .slice pa pn pc, .int .i64 a.1.pl]] W fun e w' => e = .returned (.tuple #[.string (bs (exprB a).1), .int .i64 (exprB a).2]) ∧ Below W.heap.size W w') := fun W hW => text_bs (exprP_calls a pa pn pc W (hA.below hW) (htab.below hW))
  have HPb : Hid (∀ W, Below w.heap.size w W → Calls Tryd.prog 14 #[.agg #[.int .i64 b.1.kind, .int .i64 b.1.num, .string (bs b.1.text), .slice qa qn qc, .int .i64 b.1.pl]] W fun e w' => e = .returned (.tuple #[.string (bs (exprB b).1), .int .i64 (exprB b).2]) ∧ Below W.heap.size W w') := fun W hW => text_bs (exprP_calls b qa qn qc W (hB.below hW) (htab.below hW))
  have HV : Hid (Below w.heap.size w ((w.alloc (.cells #[.int .i64 a.1.kind, .int .i64 a.1.num, .string (bs a.1.text), .slice pa pn pc, .int .i64 a.1.pl] 40)).alloc (.cells #[.int .i64 b.1.kind, .int .i64 b.1.num, .string (bs b.1.text), .slice qa qn qc, .int .i64 b.1.pl] 40)) ∧ ((w.alloc (.cells #[.int .i64 a.1.kind, .int .i64 a.1.num, .string (bs a.1.text), .slice pa pn pc, .int .i64 a.1.pl] 40)).alloc (.cells #[.int .i64 b.1.kind, .int .i64 b.1.num, .string (bs b.1.text), .slice qa qn qc, .int .i64 b.1.pl] 40)).heap[w.heap.size]? = some (.cells #[.int .i64 a.1.kind, .int .i64 a.1.num, .string (bs a.1.text), .slice pa pn pc, .int .i64 a.1.pl] 40 (0, 0)) ∧ ((w.alloc (.cells #[.int .i64 a.1.kind, .int .i64 a.1.num, .string (bs a.1.text), .slice pa pn pc, .int .i64 a.1.pl] 40)).alloc (.cells #[.int .i64 b.1.kind, .int .i64 b.1.num, .string (bs b.1.text), .slice qa qn qc, .int .i64 b.1.pl] 40)).heap[w.heap.size + 1]? = some (.cells #[.int .i64 b.1.kind, .int .i64 b.1.num, .string (bs b.1.text), .slice qa qn qc, .int .i64 b.1.pl] 40 (0, 0))) := ⟨below_two w _ _, heap_old (heap_alloc_new w _), twoN_new w _ _⟩
  have hz2 : ((exprB b).2 != 0) = true := by simpa using hz
  clear hz
  rw [hy] at HPa
  generalize bs (exprB a).1 = s1 at *
  generalize bs (exprB b).1 = s2 at *
  generalize (exprB b).2 = z2 at *
  generalize a.1.kind = a0 at *
  generalize a.1.num = a1 at *
  generalize bs a.1.text = a2 at *
  generalize a.1.pl = a4 at *
  generalize b.1.kind = b0 at *
  generalize b.1.num = b1 at *
  generalize bs b.1.text = b2 at *
  generalize b.1.pl = b4 at *
  clear hA hB htab hy
  go_enter Tryd.func6, Tryd.ntmps6
  go_wp2_with fail
  refine (HA.out _ HV.out.1).mono ?_
  rintro e w1 ⟨rfl, hb1⟩
  have H1 : Hid (Below w.heap.size w w1 ∧ w1.heap[w.heap.size]? = some (.cells #[.int .i64 a0, .int .i64 a1, .string a2, .slice pa pn pc, .int .i64 a4] 40 (0, 0)) ∧ w1.heap[w.heap.size + 1]? = some (.cells #[.int .i64 b0, .int .i64 b1, .string b2, .slice qa qn qc, .int .i64 b4] 40 (0, 0))) := below_sk HV.out hb1
  clear hb1 HV HA
  have x0 := blk (i := 0) H1.out.2.1 rfl
  have x1 := blk (i := 1) H1.out.2.1 rfl
  have x2 := blk (i := 2) H1.out.2.1 rfl
  have x3 := blk (i := 3) H1.out.2.1 rfl
  have x4 := blk (i := 4) H1.out.2.1 rfl
  go_wp2_with fail
  refine (HPa.out _ H1.out.1).mono ?_
  rintro e w2 ⟨rfl, hb2⟩
  have H2 : Hid (Below w.heap.size w w2 ∧ w2.heap[w.heap.size]? = some (.cells #[.int .i64 a0, .int .i64 a1, .string a2, .slice pa pn pc, .int .i64 a4] 40 (0, 0)) ∧ w2.heap[w.heap.size + 1]? = some (.cells #[.int .i64 b0, .int .i64 b1, .string b2, .slice qa qn qc, .int .i64 b4] 40 (0, 0))) := below_sk H1.out hb2
  clear hb2 H1 HPa x0 x1 x2 x3 x4
  have x0 := blk (i := 0) H2.out.2.2 rfl
  have x1 := blk (i := 1) H2.out.2.2 rfl
  have x2 := blk (i := 2) H2.out.2.2 rfl
  have x3 := blk (i := 3) H2.out.2.2 rfl
  have x4 := blk (i := 4) H2.out.2.2 rfl
  go_wp2_with fail
  refine (HPb.out _ H2.out.1).mono ?_
  rintro e w3 ⟨rfl, hb3⟩
  have H3 : Hid (Below w.heap.size w w3 ∧ w3.heap[w.heap.size]? = some (.cells #[.int .i64 a0, .int .i64 a1, .string a2, .slice pa pn pc, .int .i64 a4] 40 (0, 0)) ∧ w3.heap[w.heap.size + 1]? = some (.cells #[.int .i64 b0, .int .i64 b1, .string b2, .slice qa qn qc, .int .i64 b4] 40 (0, 0))) := below_sk H2.out hb3
  clear hb3 H2 HPb x0 x1 x2 x3 x4
  have HB : Hid (Below w.heap.size w w3) := H3.out.1
  clear H3
  go_wp2
  go_ret
  exact ⟨rfl, HB.out⟩

set_option maxRecDepth 20000 in
set_option maxHeartbeats 4000000 in
theorem kids_big (a b : Ex) (pa : Option Addr) (pn pc : Nat) (qa : Option Addr) (qn qc : Nat) (w : World) (htab : TabOk w) (hA : ExAt false (fun _ => True) w a pa pn) (hB : ExAt false (fun _ => True) w b qa qn) (hy : (exprB a).2 = 0) (hz : (exprB b).2 = 0) (hl : 3900 < 3 * ((bs (exprB a).1).size + (bs (exprB b).1).size)) (h1 : (bs (exprB a).1).size ≤ 4000) (h2 : (bs (exprB b).1).size ≤ 4000) :
    Calls Tryd.prog 6 #[.agg #[.int .i64 a.1.kind, .int .i64 a.1.num, .string (bs a.1.text), .slice pa pn pc, .int .i64 a.1.pl], .agg #[.int .i64 b.1.kind, .int .i64 b.1.num, .string (bs b.1.text), .slice qa qn qc, .int .i64 b.1.pl]] w fun e w' => e = .returned (.bool true) ∧ Below w.heap.size w w' := by
  have HA : Hid (∀ W, Below w.heap.size w W → Calls Tryd.prog 10 #[] W fun e w' => e = .returned (.bool true) ∧ Below W.heap.size W w') := fun W hW => awake_calls W (htab.below hW)
  have HPa : Hid (∀ W, Below w.heap.size w W → Calls Tryd.prog 14 #[.agg #[.int .i64 a.1.kind, .int .i64 a.1.num, .string (bs a.1.text), .slice pa pn pc, .int .i64 a.1.pl]] W fun e w' => e = .returned (.tuple #[.string (bs (exprB a).1), .int .i64 (exprB a).2]) ∧ Below W.heap.size W w') := fun W hW => text_bs (exprP_calls a pa pn pc W (hA.below hW) (htab.below hW))
  have HPb : Hid (∀ W, Below w.heap.size w W → Calls Tryd.prog 14 #[.agg #[.int .i64 b.1.kind, .int .i64 b.1.num, .string (bs b.1.text), .slice qa qn qc, .int .i64 b.1.pl]] W fun e w' => e = .returned (.tuple #[.string (bs (exprB b).1), .int .i64 (exprB b).2]) ∧ Below W.heap.size W w') := fun W hW => text_bs (exprP_calls b qa qn qc W (hB.below hW) (htab.below hW))
  have HV : Hid (Below w.heap.size w ((w.alloc (.cells #[.int .i64 a.1.kind, .int .i64 a.1.num, .string (bs a.1.text), .slice pa pn pc, .int .i64 a.1.pl] 40)).alloc (.cells #[.int .i64 b.1.kind, .int .i64 b.1.num, .string (bs b.1.text), .slice qa qn qc, .int .i64 b.1.pl] 40)) ∧ ((w.alloc (.cells #[.int .i64 a.1.kind, .int .i64 a.1.num, .string (bs a.1.text), .slice pa pn pc, .int .i64 a.1.pl] 40)).alloc (.cells #[.int .i64 b.1.kind, .int .i64 b.1.num, .string (bs b.1.text), .slice qa qn qc, .int .i64 b.1.pl] 40)).heap[w.heap.size]? = some (.cells #[.int .i64 a.1.kind, .int .i64 a.1.num, .string (bs a.1.text), .slice pa pn pc, .int .i64 a.1.pl] 40 (0, 0)) ∧ ((w.alloc (.cells #[.int .i64 a.1.kind, .int .i64 a.1.num, .string (bs a.1.text), .slice pa pn pc, .int .i64 a.1.pl] 40)).alloc (.cells #[.int .i64 b.1.kind, .int .i64 b.1.num, .string (bs b.1.text), .slice qa qn qc, .int .i64 b.1.pl] 40)).heap[w.heap.size + 1]? = some (.cells #[.int .i64 b.1.kind, .int .i64 b.1.num, .string (bs b.1.text), .slice qa qn qc, .int .i64 b.1.pl] 40 (0, 0))) := ⟨below_two w _ _, heap_old (heap_alloc_new w _), twoN_new w _ _⟩
  rw [hy] at HPa
  rw [hz] at HPb
  generalize bs (exprB a).1 = s1 at *
  generalize bs (exprB b).1 = s2 at *
  have hd : decide ((3900 : Int) < 3 * ((s1.size : Int) + (s2.size : Int))) = true := by simp only [decide_eq_true_eq]; omega
  generalize a.1.kind = a0 at *
  generalize a.1.num = a1 at *
  generalize bs a.1.text = a2 at *
  generalize a.1.pl = a4 at *
  generalize b.1.kind = b0 at *
  generalize b.1.num = b1 at *
  generalize bs b.1.text = b2 at *
  generalize b.1.pl = b4 at *
  clear hA hB htab hy hz hl
  go_enter Tryd.func6, Tryd.ntmps6
  go_wp2_with fail
  refine (HA.out _ HV.out.1).mono ?_
  rintro e w1 ⟨rfl, hb1⟩
  have H1 : Hid (Below w.heap.size w w1 ∧ w1.heap[w.heap.size]? = some (.cells #[.int .i64 a0, .int .i64 a1, .string a2, .slice pa pn pc, .int .i64 a4] 40 (0, 0)) ∧ w1.heap[w.heap.size + 1]? = some (.cells #[.int .i64 b0, .int .i64 b1, .string b2, .slice qa qn qc, .int .i64 b4] 40 (0, 0))) := below_sk HV.out hb1
  clear hb1 HV HA
  have x0 := blk (i := 0) H1.out.2.1 rfl
  have x1 := blk (i := 1) H1.out.2.1 rfl
  have x2 := blk (i := 2) H1.out.2.1 rfl
  have x3 := blk (i := 3) H1.out.2.1 rfl
  have x4 := blk (i := 4) H1.out.2.1 rfl
  go_wp2_with fail
  refine (HPa.out _ H1.out.1).mono ?_
  rintro e w2 ⟨rfl, hb2⟩
  have H2 : Hid (Below w.heap.size w w2 ∧ w2.heap[w.heap.size]? = some (.cells #[.int .i64 a0, .int .i64 a1, .string a2, .slice pa pn pc, .int .i64 a4] 40 (0, 0)) ∧ w2.heap[w.heap.size + 1]? = some (.cells #[.int .i64 b0, .int .i64 b1, .string b2, .slice qa qn qc, .int .i64 b4] 40 (0, 0))) := below_sk H1.out hb2
  clear hb2 H1 HPa x0 x1 x2 x3 x4
  have x0 := blk (i := 0) H2.out.2.2 rfl
  have x1 := blk (i := 1) H2.out.2.2 rfl
  have x2 := blk (i := 2) H2.out.2.2 rfl
  have x3 := blk (i := 3) H2.out.2.2 rfl
  have x4 := blk (i := 4) H2.out.2.2 rfl
  go_wp2_with fail
  refine (HPb.out _ H2.out.1).mono ?_
  rintro e w3 ⟨rfl, hb3⟩
  have H3 : Hid (Below w.heap.size w w3 ∧ w3.heap[w.heap.size]? = some (.cells #[.int .i64 a0, .int .i64 a1, .string a2, .slice pa pn pc, .int .i64 a4] 40 (0, 0)) ∧ w3.heap[w.heap.size + 1]? = some (.cells #[.int .i64 b0, .int .i64 b1, .string b2, .slice qa qn qc, .int .i64 b4] 40 (0, 0))) := below_sk H2.out hb3
  clear hb3 H2 HPb x0 x1 x2 x3 x4
  have HB : Hid (Below w.heap.size w w3) := H3.out.1
  clear H3
  go_wp2
  go_ret
  exact ⟨rfl, HB.out⟩

end Go.Proofs.YtpeldiibjhffiaaDoor
namespace Go.Proofs.YtpeldiibjhffiaaDoor
open Go.RowKit Go.Deep

theorem keepb {W W' : World} {g : Nat} {o : Obj} (hb : Below W.heap.size W W') (h : W.heap[g]? = some o) : W'.heap[g]? = some o := by
  rw [hb.block _ (lt_block h)]; exact h

theorem six_new (W : World) (o1 o2 o3 o4 o5 o6 : Obj) : Below W.heap.size W ((((((W.alloc o1).alloc o2).alloc o3).alloc o4).alloc o5).alloc o6) ∧ ((((((W.alloc o1).alloc o2).alloc o3).alloc o4).alloc o5).alloc o6).heap[W.heap.size]? = some o1 ∧ ((((((W.alloc o1).alloc o2).alloc o3).alloc o4).alloc o5).alloc o6).heap[W.heap.size + 1]? = some o2 ∧ ((((((W.alloc o1).alloc o2).alloc o3).alloc o4).alloc o5).alloc o6).heap[W.heap.size + 1 + 1]? = some o3 ∧ ((((((W.alloc o1).alloc o2).alloc o3).alloc o4).alloc o5).alloc o6).heap[W.heap.size + 1 + 1 + 1]? = some o4 ∧ ((((((W.alloc o1).alloc o2).alloc o3).alloc o4).alloc o5).alloc o6).heap[W.heap.size + 1 + 1 + 1 + 1]? = some o5 ∧ ((((((W.alloc o1).alloc o2).alloc o3).alloc o4).alloc o5).alloc o6).heap[W.heap.size + 1 + 1 + 1 + 1 + 1]? = some o6 := by
  have s1 : ∀ (X : World) (o : Obj), (X.alloc o).heap.size = X.heap.size + 1 := fun X o => by simp
  have b : ∀ (X : World) (o : Obj), Below X.heap.size X (X.alloc o) := fun X o => low_alloc X o
  have e2 := twoN_new W o1 o2
  have e3 := twoN_new (W.alloc o1) o2 o3
  have e4 := twoN_new ((W.alloc o1).alloc o2) o3 o4
  have e5 := twoN_new (((W.alloc o1).alloc o2).alloc o3) o4 o5
  have e6 := twoN_new ((((W.alloc o1).alloc o2).alloc o3).alloc o4) o5 o6
  simp only [s1] at e3 e4 e5 e6
  refine ⟨?_, heap_old (heap_old (heap_old (heap_old (heap_old (heap_alloc_new W o1))))), heap_old (heap_old (heap_old (heap_old e2))), heap_old (heap_old (heap_old e3)), heap_old (heap_old e4), heap_old e5, e6⟩
  have h2 := (b W o1).trans ((b (W.alloc o1) o2).mono (b W o1).size)
  have h3 := h2.trans ((b _ o3).mono h2.size)
  have h4 := h3.trans ((b _ o4).mono h3.size)
  have h5 := h4.trans ((b _ o5).mono h4.size)
  exact h5.trans ((b _ o6).mono h5.size)

set_option maxRecDepth 20000 in
set_option maxHeartbeats 4000000 in
theorem kids_read (a b : Ex) (pa : Option Addr) (pn pc : Nat) (qa : Option Addr) (qn qc : Nat) (w : World) (htab : TabOk w) (hA : ExAt false (fun _ => True) w a pa pn) (hB : ExAt false (fun _ => True) w b qa qn) (hy : (exprB a).2 = 0) (hz : (exprB b).2 = 0) (hl : ¬ 3900 < 3 * ((bs (exprB a).1).size + (bs (exprB b).1).size)) (h1 : (bs (exprB a).1).size ≤ 4000) (h2 : (bs (exprB b).1).size ≤ 4000) :
    Calls Tryd.prog 6 #[.agg #[.int .i64 a.1.kind, .int .i64 a.1.num, .string (bs a.1.text), .slice pa pn pc, .int .i64 a.1.pl], .agg #[.int .i64 b.1.kind, .int .i64 b.1.num, .string (bs b.1.text), .slice qa qn qc, .int .i64 b.1.pl]] w fun e w' => e = .returned (.bool true) ∧ Below w.heap.size w w' := by
  have HA : Hid (∀ W, Below w.heap.size w W → Calls Tryd.prog 10 #[] W fun e w' => e = .returned (.bool true) ∧ Below W.heap.size W w') := fun W hW => awake_calls W (htab.below hW)
  have HPa : Hid (∀ W, Below w.heap.size w W → Calls Tryd.prog 14 #[.agg #[.int .i64 a.1.kind, .int .i64 a.1.num, .string (bs a.1.text), .slice pa pn pc, .int .i64 a.1.pl]] W fun e w' => e = .returned (.tuple #[.string (bs (exprB a).1), .int .i64 (exprB a).2]) ∧ Below W.heap.size W w') := fun W hW => text_bs (exprP_calls a pa pn pc W (hA.below hW) (htab.below hW))
  have HPb : Hid (∀ W, Below w.heap.size w W → Calls Tryd.prog 14 #[.agg #[.int .i64 b.1.kind, .int .i64 b.1.num, .string (bs b.1.text), .slice qa qn qc, .int .i64 b.1.pl]] W fun e w' => e = .returned (.tuple #[.string (bs (exprB b).1), .int .i64 (exprB b).2]) ∧ Below W.heap.size W w') := fun W hW => text_bs (exprP_calls b qa qn qc W (hB.below hW) (htab.below hW))
  have HV : Hid (Below w.heap.size w ((w.alloc (.cells #[.int .i64 a.1.kind, .int .i64 a.1.num, .string (bs a.1.text), .slice pa pn pc, .int .i64 a.1.pl] 40)).alloc (.cells #[.int .i64 b.1.kind, .int .i64 b.1.num, .string (bs b.1.text), .slice qa qn qc, .int .i64 b.1.pl] 40)) ∧ ((w.alloc (.cells #[.int .i64 a.1.kind, .int .i64 a.1.num, .string (bs a.1.text), .slice pa pn pc, .int .i64 a.1.pl] 40)).alloc (.cells #[.int .i64 b.1.kind, .int .i64 b.1.num, .string (bs b.1.text), .slice qa qn qc, .int .i64 b.1.pl] 40)).heap[w.heap.size]? = some (.cells #[.int .i64 a.1.kind, .int .i64 a.1.num, .string (bs a.1.text), .slice pa pn pc, .int .i64 a.1.pl] 40 (0, 0)) ∧ ((w.alloc (.cells #[.int .i64 a.1.kind, .int .i64 a.1.num, .string (bs a.1.text), .slice pa pn pc, .int .i64 a.1.pl] 40)).alloc (.cells #[.int .i64 b.1.kind, .int .i64 b.1.num, .string (bs b.1.text), .slice qa qn qc, .int .i64 b.1.pl] 40)).heap[w.heap.size + 1]? = some (.cells #[.int .i64 b.1.kind, .int .i64 b.1.num, .string (bs b.1.text), .slice qa qn qc, .int .i64 b.1.pl] 40 (0, 0))) := ⟨below_two w _ _, heap_old (heap_alloc_new w _), twoN_new w _ _⟩
  obtain ⟨ra, ea⟩ := exprB_ok (show exprB a = ((exprB a).1, 0) from by rw [← hy])
  obtain ⟨rb, eb⟩ := exprB_ok (show exprB b = ((exprB b).1, 0) from by rw [← hz])
  have hkp := kids_parse ra rb
  have hda := depth_small ra
  have hdb := depth_small rb
  have HDa : Hid (∀ W, Below w.heap.size w W → Calls Tryd.prog 15 #[.agg #[.int .i64 a.1.kind, .int .i64 a.1.num, .string (bs a.1.text), .slice pa pn pc, .int .i64 a.1.pl]] W fun e w' => e = .returned (.int .i64 ((depF a.2 + 1 : Nat) : Int)) ∧ Below W.heap.size W w') := fun W hW => by
    have := depth_calls _ a pa pn pc W false (fun _ => True) (hA.below hW) (Nat.lt_succ_self _)
    rw [hda] at this
    exact this
  have HDb : Hid (∀ W, Below w.heap.size w W → Calls Tryd.prog 15 #[.agg #[.int .i64 b.1.kind, .int .i64 b.1.num, .string (bs b.1.text), .slice qa qn qc, .int .i64 b.1.pl]] W fun e w' => e = .returned (.int .i64 ((depF b.2 + 1 : Nat) : Int)) ∧ Below W.heap.size W w') := fun W hW => by
    have := depth_calls _ b qa qn qc W false (fun _ => True) (hB.below hW) (Nat.lt_succ_self _)
    rw [hdb] at this
    exact this
  have hdla := depK_of ra
  have hdlb := depK_of rb
  have HSm : Hid _ := kids_same a b pa pn pc qa qn qc w hA hB
  rw [hy] at HPa
  rw [hz] at HPb
  rw [ea] at HPa h1 hl
  rw [eb] at HPb h2 hl
  have l1 : (bs (txE a)).size = (txE a).length := by rw [← ByteArray.size_data, ← Array.length_toList, bs_data]
  have l2 : (bs (txE b)).size = (txE b).length := by rw [← ByteArray.size_data, ← Array.length_toList, bs_data]
  have g1 : (bs (txE a)).data.toList = txE a := bs_data _
  have g2 : (bs (txE b)).data.toList = txE b := bs_data _
  generalize bs (txE a) = s1 at *
  generalize bs (txE b) = s2 at *
  obtain ⟨c1, d1, n1, e1⟩ := cat_var (⟨#[108, 101, 97, 115, 116, 32, 40]⟩ : ByteArray) s1 (by rw [show (⟨#[108, 101, 97, 115, 116, 32, 40]⟩ : ByteArray).size = 7 from rfl]; omega)
  rw [show (⟨#[108, 101, 97, 115, 116, 32, 40]⟩ : ByteArray).size = 7 from rfl] at n1
  obtain ⟨c2, d2, n2, e2⟩ := cat_var c1 (⟨#[41, 32, 42, 32, 40]⟩ : ByteArray) (by rw [show (⟨#[41, 32, 42, 32, 40]⟩ : ByteArray).size = 5 from rfl]; omega)
  rw [show (⟨#[41, 32, 42, 32, 40]⟩ : ByteArray).size = 5 from rfl] at n2
  obtain ⟨c3, d3, n3, e3⟩ := cat_var c2 s2 (by omega)
  obtain ⟨c4, d4, n4, e4⟩ := cat_var c3 (⟨#[41, 59, 32, 108, 101, 97, 115, 116, 32, 40]⟩ : ByteArray) (by rw [show (⟨#[41, 59, 32, 108, 101, 97, 115, 116, 32, 40]⟩ : ByteArray).size = 10 from rfl]; omega)
  rw [show (⟨#[41, 59, 32, 108, 101, 97, 115, 116, 32, 40]⟩ : ByteArray).size = 10 from rfl] at n4
  obtain ⟨c5, d5, n5, e5⟩ := cat_var c4 s1 (by omega)
  obtain ⟨c6, d6, n6, e6⟩ := cat_var c5 (⟨#[41, 32, 45, 32, 40]⟩ : ByteArray) (by rw [show (⟨#[41, 32, 45, 32, 40]⟩ : ByteArray).size = 5 from rfl]; omega)
  rw [show (⟨#[41, 32, 45, 32, 40]⟩ : ByteArray).size = 5 from rfl] at n6
  obtain ⟨c7, d7, n7, e7⟩ := cat_var c6 s2 (by omega)
  obtain ⟨c8, d8, n8, e8⟩ := cat_var c7 (⟨#[41, 59, 32, 108, 101, 97, 115, 116, 32]⟩ : ByteArray) (by rw [show (⟨#[41, 59, 32, 108, 101, 97, 115, 116, 32]⟩ : ByteArray).size = 9 from rfl]; omega)
  rw [show (⟨#[41, 59, 32, 108, 101, 97, 115, 116, 32]⟩ : ByteArray).size = 9 from rfl] at n8
  obtain ⟨c9, d9, n9, e9⟩ := cat_var c8 s1 (by omega)
  obtain ⟨c10, d10, n10, e10⟩ := cat_var c9 (⟨#[59, 32, 108, 101, 97, 115, 116, 32, 45, 40]⟩ : ByteArray) (by rw [show (⟨#[59, 32, 108, 101, 97, 115, 116, 32, 45, 40]⟩ : ByteArray).size = 10 from rfl]; omega)
  rw [show (⟨#[59, 32, 108, 101, 97, 115, 116, 32, 45, 40]⟩ : ByteArray).size = 10 from rfl] at n10
  obtain ⟨c11, d11, n11, e11⟩ := cat_var c10 s2 (by omega)
  obtain ⟨c12, d12, n12, e12⟩ := cat_var c11 (⟨#[41, 59]⟩ : ByteArray) (by rw [show (⟨#[41, 59]⟩ : ByteArray).size = 2 from rfl]; omega)
  rw [show (⟨#[41, 59]⟩ : ByteArray).size = 2 from rfl] at n12
  have hkl : (kB (txE a) (txE b)).length ≤ 4000 := by
    simp only [kB, List.length_append, List.length_cons, List.length_nil]
    omega
  have hc12 : c12.data.toList = kB (txE a) (txE b) := by
    rw [d12, d11, d10, d9, d8, d7, d6, d5, d4, d3, d2, d1, g1, g2]
    simp [kB]
  have HPp : Hid (∀ W, Calls Tryd.prog 12 #[.string c12] W fun e w' => TreePost (parseW (kB (txE a) (txE b))) W e w') := fun W => by
    have := parse_calls c12 W
    rw [hc12] at this
    exact this
  have HKp := hkp hkl
  generalize parseW (kB (txE a) (txE b)) = P at *
  have hd : decide ((3900 : Int) < 3 * ((s1.size : Int) + (s2.size : Int))) = false := by simp only [decide_eq_false_iff_not]; omega
  generalize depF a.2 + 1 = dA at *
  generalize depF b.2 + 1 = dB at *
  have HKp2 : Hid ((32 ≤ max dA dB → P.2.1 = 71) ∧ (¬ 32 ≤ max dA dB → P.2.1 = 0 ∧ sameI P.1 (kI a b) = true)) := HKp
  clear HKp hkp hda hdb ea eb d1 d2 d3 d4 d5 d6 d7 d8 d9 d10 d11 d12 n1 n2 n3 n4 n5 n6 n7 n8 n9 n10 n11 n12 g1 g2 l1 l2 hkl hc12 ra rb hl
  generalize a.1.kind = a0 at *
  generalize a.1.num = a1 at *
  generalize bs a.1.text = a2 at *
  generalize a.1.pl = a4 at *
  generalize b.1.kind = b0 at *
  generalize b.1.num = b1 at *
  generalize bs b.1.text = b2 at *
  generalize b.1.pl = b4 at *
  clear hA hB htab hy hz
  go_enter Tryd.func6, Tryd.ntmps6
  go_wp2_with fail
  refine (HA.out _ HV.out.1).mono ?_
  rintro e w1 ⟨rfl, hb1⟩
  have H1 : Hid (Below w.heap.size w w1 ∧ w1.heap[w.heap.size]? = some (.cells #[.int .i64 a0, .int .i64 a1, .string a2, .slice pa pn pc, .int .i64 a4] 40 (0, 0)) ∧ w1.heap[w.heap.size + 1]? = some (.cells #[.int .i64 b0, .int .i64 b1, .string b2, .slice qa qn qc, .int .i64 b4] 40 (0, 0))) := below_sk HV.out hb1
  clear hb1 HV HA
  have x0 := blk (i := 0) H1.out.2.1 rfl
  have x1 := blk (i := 1) H1.out.2.1 rfl
  have x2 := blk (i := 2) H1.out.2.1 rfl
  have x3 := blk (i := 3) H1.out.2.1 rfl
  have x4 := blk (i := 4) H1.out.2.1 rfl
  go_wp2_with fail
  refine (HPa.out _ H1.out.1).mono ?_
  rintro e w2 ⟨rfl, hb2⟩
  have H2 : Hid (Below w.heap.size w w2 ∧ w2.heap[w.heap.size]? = some (.cells #[.int .i64 a0, .int .i64 a1, .string a2, .slice pa pn pc, .int .i64 a4] 40 (0, 0)) ∧ w2.heap[w.heap.size + 1]? = some (.cells #[.int .i64 b0, .int .i64 b1, .string b2, .slice qa qn qc, .int .i64 b4] 40 (0, 0))) := below_sk H1.out hb2
  clear hb2 H1 HPa x0 x1 x2 x3 x4
  have x0 := blk (i := 0) H2.out.2.2 rfl
  have x1 := blk (i := 1) H2.out.2.2 rfl
  have x2 := blk (i := 2) H2.out.2.2 rfl
  have x3 := blk (i := 3) H2.out.2.2 rfl
  have x4 := blk (i := 4) H2.out.2.2 rfl
  go_wp2_with fail
  refine (HPb.out _ H2.out.1).mono ?_
  rintro e w3 ⟨rfl, hb3⟩
  have H3 : Hid (Below w.heap.size w w3 ∧ w3.heap[w.heap.size]? = some (.cells #[.int .i64 a0, .int .i64 a1, .string a2, .slice pa pn pc, .int .i64 a4] 40 (0, 0)) ∧ w3.heap[w.heap.size + 1]? = some (.cells #[.int .i64 b0, .int .i64 b1, .string b2, .slice qa qn qc, .int .i64 b4] 40 (0, 0))) := below_sk H2.out hb3
  clear hb3 H2 HPb x0 x1 x2 x3 x4
  go_wp2_with fail
  refine (HPp.out _).mono ?_
  rintro e w4 ⟨tb, um, uc, rfl, hum, hI, hb4⟩
  have HK : Hid ((32 ≤ max dA dB → P.2.1 = 71) ∧ (¬ 32 ≤ max dA dB → P.2.1 = 0 ∧ sameI P.1 (kI a b) = true)) := HKp2.out
  clear HKp2
  generalize P.2.1 = code at *
  generalize P.2.2 = pl at *
  generalize P.1 = L' at *
  have HU : Hid (um ≤ 4002) := hum
  have h4 := below_sk H3.out hb4
  have hbt := below_two w4 (.cells #[.slice tb um uc] 24) (.cells #[.int .i64 code, .int .i64 pl] 32)
  have H5 : Hid ((Below w.heap.size w ((w4.alloc (.cells #[.slice tb um uc] 24)).alloc (.cells #[.int .i64 code, .int .i64 pl] 32)) ∧ ((w4.alloc (.cells #[.slice tb um uc] 24)).alloc (.cells #[.int .i64 code, .int .i64 pl] 32)).heap[w.heap.size]? = some (.cells #[.int .i64 a0, .int .i64 a1, .string a2, .slice pa pn pc, .int .i64 a4] 40 (0, 0)) ∧ ((w4.alloc (.cells #[.slice tb um uc] 24)).alloc (.cells #[.int .i64 code, .int .i64 pl] 32)).heap[w.heap.size + 1]? = some (.cells #[.int .i64 b0, .int .i64 b1, .string b2, .slice qa qn qc, .int .i64 b4] 40 (0, 0))) ∧ ((w4.alloc (.cells #[.slice tb um uc] 24)).alloc (.cells #[.int .i64 code, .int .i64 pl] 32)).heap[w4.heap.size]? = some (.cells #[.slice tb um uc] 24 (0, 0)) ∧ ((w4.alloc (.cells #[.slice tb um uc] 24)).alloc (.cells #[.int .i64 code, .int .i64 pl] 32)).heap[w4.heap.size + 1]? = some (.cells #[.int .i64 code, .int .i64 pl] 32 (0, 0))) := ⟨below_sk h4 hbt, heap_old (heap_alloc_new w4 _), twoN_new w4 _ _⟩
  have HI2 : Hid (ItsAt true (fun g => w3.heap.size ≤ g) ((w4.alloc (.cells #[.slice tb um uc] 24)).alloc (.cells #[.int .i64 code, .int .i64 pl] 32)) L' tb um) := hI.below hbt
  clear hbt h4 hb4 hI hum H3 HPp
  clear e1 e2 e3 e4 e5 e6 e7 e8 e9 e10 e11 e12
  go_upto_region 8 with (fail)
  generalize ((w4.alloc (.cells #[.slice tb um uc] 24)).alloc (.cells #[.int .i64 code, .int .i64 pl] 32)) = w5 at *
  have HI : Hid (ItsAt true (fun g => w3.heap.size ≤ g) w5 L' tb um) := HI2.out
  clear HI2
  have x0 := blk (i := 0) H5.out.1.2.1 rfl
  have x1 := blk (i := 1) H5.out.1.2.1 rfl
  have x2 := blk (i := 2) H5.out.1.2.1 rfl
  have x3 := blk (i := 3) H5.out.1.2.1 rfl
  have x4 := blk (i := 4) H5.out.1.2.1 rfl
  have y0 := blk (i := 0) H5.out.1.2.2 rfl
  have y1 := blk (i := 1) H5.out.1.2.2 rfl
  have y2 := blk (i := 2) H5.out.1.2.2 rfl
  have y3 := blk (i := 3) H5.out.1.2.2 rfl
  have y4 := blk (i := 4) H5.out.1.2.2 rfl
  have hbt := below_two w5 (.cells #[.int .i64 a0, .int .i64 a1, .string a2, .slice pa pn pc, .int .i64 a4, .int .i64 b0, .int .i64 b1, .string b2, .slice qa qn qc, .int .i64 b4] 40) (.cells #[.int .i64 7, .int .i64 0, .string ⟨#[]⟩, .slice (some ⟨w5.heap.size, 0, none⟩) 2 2, .int .i64 0] 40)
  have H6 : Hid ((Below w.heap.size w ((w5.alloc (.cells #[.int .i64 a0, .int .i64 a1, .string a2, .slice pa pn pc, .int .i64 a4, .int .i64 b0, .int .i64 b1, .string b2, .slice qa qn qc, .int .i64 b4] 40)).alloc (.cells #[.int .i64 7, .int .i64 0, .string ⟨#[]⟩, .slice (some ⟨w5.heap.size, 0, none⟩) 2 2, .int .i64 0] 40)) ∧ ((w5.alloc (.cells #[.int .i64 a0, .int .i64 a1, .string a2, .slice pa pn pc, .int .i64 a4, .int .i64 b0, .int .i64 b1, .string b2, .slice qa qn qc, .int .i64 b4] 40)).alloc (.cells #[.int .i64 7, .int .i64 0, .string ⟨#[]⟩, .slice (some ⟨w5.heap.size, 0, none⟩) 2 2, .int .i64 0] 40)).heap[w.heap.size]? = some (.cells #[.int .i64 a0, .int .i64 a1, .string a2, .slice pa pn pc, .int .i64 a4] 40 (0, 0)) ∧ ((w5.alloc (.cells #[.int .i64 a0, .int .i64 a1, .string a2, .slice pa pn pc, .int .i64 a4, .int .i64 b0, .int .i64 b1, .string b2, .slice qa qn qc, .int .i64 b4] 40)).alloc (.cells #[.int .i64 7, .int .i64 0, .string ⟨#[]⟩, .slice (some ⟨w5.heap.size, 0, none⟩) 2 2, .int .i64 0] 40)).heap[w.heap.size + 1]? = some (.cells #[.int .i64 b0, .int .i64 b1, .string b2, .slice qa qn qc, .int .i64 b4] 40 (0, 0))) ∧ ((w5.alloc (.cells #[.int .i64 a0, .int .i64 a1, .string a2, .slice pa pn pc, .int .i64 a4, .int .i64 b0, .int .i64 b1, .string b2, .slice qa qn qc, .int .i64 b4] 40)).alloc (.cells #[.int .i64 7, .int .i64 0, .string ⟨#[]⟩, .slice (some ⟨w5.heap.size, 0, none⟩) 2 2, .int .i64 0] 40)).heap[w4.heap.size]? = some (.cells #[.slice tb um uc] 24 (0, 0)) ∧ ((w5.alloc (.cells #[.int .i64 a0, .int .i64 a1, .string a2, .slice pa pn pc, .int .i64 a4, .int .i64 b0, .int .i64 b1, .string b2, .slice qa qn qc, .int .i64 b4] 40)).alloc (.cells #[.int .i64 7, .int .i64 0, .string ⟨#[]⟩, .slice (some ⟨w5.heap.size, 0, none⟩) 2 2, .int .i64 0] 40)).heap[w4.heap.size + 1]? = some (.cells #[.int .i64 code, .int .i64 pl] 32 (0, 0)) ∧ ((w5.alloc (.cells #[.int .i64 a0, .int .i64 a1, .string a2, .slice pa pn pc, .int .i64 a4, .int .i64 b0, .int .i64 b1, .string b2, .slice qa qn qc, .int .i64 b4] 40)).alloc (.cells #[.int .i64 7, .int .i64 0, .string ⟨#[]⟩, .slice (some ⟨w5.heap.size, 0, none⟩) 2 2, .int .i64 0] 40)).heap[w5.heap.size]? = some (.cells #[.int .i64 a0, .int .i64 a1, .string a2, .slice pa pn pc, .int .i64 a4, .int .i64 b0, .int .i64 b1, .string b2, .slice qa qn qc, .int .i64 b4] 40 (0, 0)) ∧ ((w5.alloc (.cells #[.int .i64 a0, .int .i64 a1, .string a2, .slice pa pn pc, .int .i64 a4, .int .i64 b0, .int .i64 b1, .string b2, .slice qa qn qc, .int .i64 b4] 40)).alloc (.cells #[.int .i64 7, .int .i64 0, .string ⟨#[]⟩, .slice (some ⟨w5.heap.size, 0, none⟩) 2 2, .int .i64 0] 40)).heap[w5.heap.size + 1]? = some (.cells #[.int .i64 7, .int .i64 0, .string ⟨#[]⟩, .slice (some ⟨w5.heap.size, 0, none⟩) 2 2, .int .i64 0] 40 (0, 0))) := ⟨below_sk H5.out.1 hbt, keepb hbt H5.out.2.1, keepb hbt H5.out.2.2, heap_old (heap_alloc_new w5 _), twoN_new w5 _ _⟩
  have HI2 : Hid (ItsAt true (fun g => w3.heap.size ≤ g) ((w5.alloc (.cells #[.int .i64 a0, .int .i64 a1, .string a2, .slice pa pn pc, .int .i64 a4, .int .i64 b0, .int .i64 b1, .string b2, .slice qa qn qc, .int .i64 b4] 40)).alloc (.cells #[.int .i64 7, .int .i64 0, .string ⟨#[]⟩, .slice (some ⟨w5.heap.size, 0, none⟩) 2 2, .int .i64 0] 40)) L' tb um) := HI.out.below hbt
  clear hbt HI H5
  go_upto_region 9 with (fail)
  generalize ((w5.alloc (.cells #[.int .i64 a0, .int .i64 a1, .string a2, .slice pa pn pc, .int .i64 a4, .int .i64 b0, .int .i64 b1, .string b2, .slice qa qn qc, .int .i64 b4] 40)).alloc (.cells #[.int .i64 7, .int .i64 0, .string ⟨#[]⟩, .slice (some ⟨w5.heap.size, 0, none⟩) 2 2, .int .i64 0] 40)) = w6 at *
  have HI : Hid (ItsAt true (fun g => w3.heap.size ≤ g) w6 L' tb um) := HI2.out
  clear HI2
  clear x0 x1 x2 x3 x4 y0 y1 y2 y3 y4
  have x0 := blk (i := 0) H6.out.1.2.1 rfl
  have x1 := blk (i := 1) H6.out.1.2.1 rfl
  have x2 := blk (i := 2) H6.out.1.2.1 rfl
  have x3 := blk (i := 3) H6.out.1.2.1 rfl
  have x4 := blk (i := 4) H6.out.1.2.1 rfl
  have y0 := blk (i := 0) H6.out.1.2.2 rfl
  have y1 := blk (i := 1) H6.out.1.2.2 rfl
  have y2 := blk (i := 2) H6.out.1.2.2 rfl
  have y3 := blk (i := 3) H6.out.1.2.2 rfl
  have y4 := blk (i := 4) H6.out.1.2.2 rfl
  have hbt := below_two w6 (.cells #[.int .i64 a0, .int .i64 a1, .string a2, .slice pa pn pc, .int .i64 a4, .int .i64 b0, .int .i64 b1, .string b2, .slice qa qn qc, .int .i64 b4] 40) (.cells #[.int .i64 6, .int .i64 0, .string ⟨#[]⟩, .slice (some ⟨w6.heap.size, 0, none⟩) 2 2, .int .i64 0] 40)
  have H7 : Hid ((Below w.heap.size w ((w6.alloc (.cells #[.int .i64 a0, .int .i64 a1, .string a2, .slice pa pn pc, .int .i64 a4, .int .i64 b0, .int .i64 b1, .string b2, .slice qa qn qc, .int .i64 b4] 40)).alloc (.cells #[.int .i64 6, .int .i64 0, .string ⟨#[]⟩, .slice (some ⟨w6.heap.size, 0, none⟩) 2 2, .int .i64 0] 40)) ∧ ((w6.alloc (.cells #[.int .i64 a0, .int .i64 a1, .string a2, .slice pa pn pc, .int .i64 a4, .int .i64 b0, .int .i64 b1, .string b2, .slice qa qn qc, .int .i64 b4] 40)).alloc (.cells #[.int .i64 6, .int .i64 0, .string ⟨#[]⟩, .slice (some ⟨w6.heap.size, 0, none⟩) 2 2, .int .i64 0] 40)).heap[w.heap.size]? = some (.cells #[.int .i64 a0, .int .i64 a1, .string a2, .slice pa pn pc, .int .i64 a4] 40 (0, 0)) ∧ ((w6.alloc (.cells #[.int .i64 a0, .int .i64 a1, .string a2, .slice pa pn pc, .int .i64 a4, .int .i64 b0, .int .i64 b1, .string b2, .slice qa qn qc, .int .i64 b4] 40)).alloc (.cells #[.int .i64 6, .int .i64 0, .string ⟨#[]⟩, .slice (some ⟨w6.heap.size, 0, none⟩) 2 2, .int .i64 0] 40)).heap[w.heap.size + 1]? = some (.cells #[.int .i64 b0, .int .i64 b1, .string b2, .slice qa qn qc, .int .i64 b4] 40 (0, 0))) ∧ ((w6.alloc (.cells #[.int .i64 a0, .int .i64 a1, .string a2, .slice pa pn pc, .int .i64 a4, .int .i64 b0, .int .i64 b1, .string b2, .slice qa qn qc, .int .i64 b4] 40)).alloc (.cells #[.int .i64 6, .int .i64 0, .string ⟨#[]⟩, .slice (some ⟨w6.heap.size, 0, none⟩) 2 2, .int .i64 0] 40)).heap[w4.heap.size]? = some (.cells #[.slice tb um uc] 24 (0, 0)) ∧ ((w6.alloc (.cells #[.int .i64 a0, .int .i64 a1, .string a2, .slice pa pn pc, .int .i64 a4, .int .i64 b0, .int .i64 b1, .string b2, .slice qa qn qc, .int .i64 b4] 40)).alloc (.cells #[.int .i64 6, .int .i64 0, .string ⟨#[]⟩, .slice (some ⟨w6.heap.size, 0, none⟩) 2 2, .int .i64 0] 40)).heap[w4.heap.size + 1]? = some (.cells #[.int .i64 code, .int .i64 pl] 32 (0, 0)) ∧ ((w6.alloc (.cells #[.int .i64 a0, .int .i64 a1, .string a2, .slice pa pn pc, .int .i64 a4, .int .i64 b0, .int .i64 b1, .string b2, .slice qa qn qc, .int .i64 b4] 40)).alloc (.cells #[.int .i64 6, .int .i64 0, .string ⟨#[]⟩, .slice (some ⟨w6.heap.size, 0, none⟩) 2 2, .int .i64 0] 40)).heap[w5.heap.size]? = some (.cells #[.int .i64 a0, .int .i64 a1, .string a2, .slice pa pn pc, .int .i64 a4, .int .i64 b0, .int .i64 b1, .string b2, .slice qa qn qc, .int .i64 b4] 40 (0, 0)) ∧ ((w6.alloc (.cells #[.int .i64 a0, .int .i64 a1, .string a2, .slice pa pn pc, .int .i64 a4, .int .i64 b0, .int .i64 b1, .string b2, .slice qa qn qc, .int .i64 b4] 40)).alloc (.cells #[.int .i64 6, .int .i64 0, .string ⟨#[]⟩, .slice (some ⟨w6.heap.size, 0, none⟩) 2 2, .int .i64 0] 40)).heap[w5.heap.size + 1]? = some (.cells #[.int .i64 7, .int .i64 0, .string ⟨#[]⟩, .slice (some ⟨w5.heap.size, 0, none⟩) 2 2, .int .i64 0] 40 (0, 0)) ∧ ((w6.alloc (.cells #[.int .i64 a0, .int .i64 a1, .string a2, .slice pa pn pc, .int .i64 a4, .int .i64 b0, .int .i64 b1, .string b2, .slice qa qn qc, .int .i64 b4] 40)).alloc (.cells #[.int .i64 6, .int .i64 0, .string ⟨#[]⟩, .slice (some ⟨w6.heap.size, 0, none⟩) 2 2, .int .i64 0] 40)).heap[w6.heap.size]? = some (.cells #[.int .i64 a0, .int .i64 a1, .string a2, .slice pa pn pc, .int .i64 a4, .int .i64 b0, .int .i64 b1, .string b2, .slice qa qn qc, .int .i64 b4] 40 (0, 0)) ∧ ((w6.alloc (.cells #[.int .i64 a0, .int .i64 a1, .string a2, .slice pa pn pc, .int .i64 a4, .int .i64 b0, .int .i64 b1, .string b2, .slice qa qn qc, .int .i64 b4] 40)).alloc (.cells #[.int .i64 6, .int .i64 0, .string ⟨#[]⟩, .slice (some ⟨w6.heap.size, 0, none⟩) 2 2, .int .i64 0] 40)).heap[w6.heap.size + 1]? = some (.cells #[.int .i64 6, .int .i64 0, .string ⟨#[]⟩, .slice (some ⟨w6.heap.size, 0, none⟩) 2 2, .int .i64 0] 40 (0, 0))) := ⟨below_sk H6.out.1 hbt, keepb hbt H6.out.2.1, keepb hbt H6.out.2.2.1, keepb hbt H6.out.2.2.2.1, keepb hbt H6.out.2.2.2.2, heap_old (heap_alloc_new w6 _), twoN_new w6 _ _⟩
  have HI2 : Hid (ItsAt true (fun g => w3.heap.size ≤ g) ((w6.alloc (.cells #[.int .i64 a0, .int .i64 a1, .string a2, .slice pa pn pc, .int .i64 a4, .int .i64 b0, .int .i64 b1, .string b2, .slice qa qn qc, .int .i64 b4] 40)).alloc (.cells #[.int .i64 6, .int .i64 0, .string ⟨#[]⟩, .slice (some ⟨w6.heap.size, 0, none⟩) 2 2, .int .i64 0] 40)) L' tb um) := HI.out.below hbt
  clear hbt HI H6
  go_upto_region 10 with (fail)
  generalize ((w6.alloc (.cells #[.int .i64 a0, .int .i64 a1, .string a2, .slice pa pn pc, .int .i64 a4, .int .i64 b0, .int .i64 b1, .string b2, .slice qa qn qc, .int .i64 b4] 40)).alloc (.cells #[.int .i64 6, .int .i64 0, .string ⟨#[]⟩, .slice (some ⟨w6.heap.size, 0, none⟩) 2 2, .int .i64 0] 40)) = w7 at *
  have HI : Hid (ItsAt true (fun g => w3.heap.size ≤ g) w7 L' tb um) := HI2.out
  clear HI2
  clear x0 x1 x2 x3 x4 y0 y1 y2 y3 y4
  have y0 := blk (i := 0) H7.out.1.2.2 rfl
  have y1 := blk (i := 1) H7.out.1.2.2 rfl
  have y2 := blk (i := 2) H7.out.1.2.2 rfl
  have y3 := blk (i := 3) H7.out.1.2.2 rfl
  have y4 := blk (i := 4) H7.out.1.2.2 rfl
  have hbt := below_two w7 (.cells #[.int .i64 b0, .int .i64 b1, .string b2, .slice qa qn qc, .int .i64 b4] 40) (.cells #[.int .i64 4, .int .i64 0, .string ⟨#[]⟩, .slice (some ⟨w7.heap.size, 0, none⟩) 1 1, .int .i64 0] 40)
  have H8 : Hid ((Below w.heap.size w ((w7.alloc (.cells #[.int .i64 b0, .int .i64 b1, .string b2, .slice qa qn qc, .int .i64 b4] 40)).alloc (.cells #[.int .i64 4, .int .i64 0, .string ⟨#[]⟩, .slice (some ⟨w7.heap.size, 0, none⟩) 1 1, .int .i64 0] 40)) ∧ ((w7.alloc (.cells #[.int .i64 b0, .int .i64 b1, .string b2, .slice qa qn qc, .int .i64 b4] 40)).alloc (.cells #[.int .i64 4, .int .i64 0, .string ⟨#[]⟩, .slice (some ⟨w7.heap.size, 0, none⟩) 1 1, .int .i64 0] 40)).heap[w.heap.size]? = some (.cells #[.int .i64 a0, .int .i64 a1, .string a2, .slice pa pn pc, .int .i64 a4] 40 (0, 0)) ∧ ((w7.alloc (.cells #[.int .i64 b0, .int .i64 b1, .string b2, .slice qa qn qc, .int .i64 b4] 40)).alloc (.cells #[.int .i64 4, .int .i64 0, .string ⟨#[]⟩, .slice (some ⟨w7.heap.size, 0, none⟩) 1 1, .int .i64 0] 40)).heap[w.heap.size + 1]? = some (.cells #[.int .i64 b0, .int .i64 b1, .string b2, .slice qa qn qc, .int .i64 b4] 40 (0, 0))) ∧ ((w7.alloc (.cells #[.int .i64 b0, .int .i64 b1, .string b2, .slice qa qn qc, .int .i64 b4] 40)).alloc (.cells #[.int .i64 4, .int .i64 0, .string ⟨#[]⟩, .slice (some ⟨w7.heap.size, 0, none⟩) 1 1, .int .i64 0] 40)).heap[w4.heap.size]? = some (.cells #[.slice tb um uc] 24 (0, 0)) ∧ ((w7.alloc (.cells #[.int .i64 b0, .int .i64 b1, .string b2, .slice qa qn qc, .int .i64 b4] 40)).alloc (.cells #[.int .i64 4, .int .i64 0, .string ⟨#[]⟩, .slice (some ⟨w7.heap.size, 0, none⟩) 1 1, .int .i64 0] 40)).heap[w4.heap.size + 1]? = some (.cells #[.int .i64 code, .int .i64 pl] 32 (0, 0)) ∧ ((w7.alloc (.cells #[.int .i64 b0, .int .i64 b1, .string b2, .slice qa qn qc, .int .i64 b4] 40)).alloc (.cells #[.int .i64 4, .int .i64 0, .string ⟨#[]⟩, .slice (some ⟨w7.heap.size, 0, none⟩) 1 1, .int .i64 0] 40)).heap[w5.heap.size]? = some (.cells #[.int .i64 a0, .int .i64 a1, .string a2, .slice pa pn pc, .int .i64 a4, .int .i64 b0, .int .i64 b1, .string b2, .slice qa qn qc, .int .i64 b4] 40 (0, 0)) ∧ ((w7.alloc (.cells #[.int .i64 b0, .int .i64 b1, .string b2, .slice qa qn qc, .int .i64 b4] 40)).alloc (.cells #[.int .i64 4, .int .i64 0, .string ⟨#[]⟩, .slice (some ⟨w7.heap.size, 0, none⟩) 1 1, .int .i64 0] 40)).heap[w5.heap.size + 1]? = some (.cells #[.int .i64 7, .int .i64 0, .string ⟨#[]⟩, .slice (some ⟨w5.heap.size, 0, none⟩) 2 2, .int .i64 0] 40 (0, 0)) ∧ ((w7.alloc (.cells #[.int .i64 b0, .int .i64 b1, .string b2, .slice qa qn qc, .int .i64 b4] 40)).alloc (.cells #[.int .i64 4, .int .i64 0, .string ⟨#[]⟩, .slice (some ⟨w7.heap.size, 0, none⟩) 1 1, .int .i64 0] 40)).heap[w6.heap.size]? = some (.cells #[.int .i64 a0, .int .i64 a1, .string a2, .slice pa pn pc, .int .i64 a4, .int .i64 b0, .int .i64 b1, .string b2, .slice qa qn qc, .int .i64 b4] 40 (0, 0)) ∧ ((w7.alloc (.cells #[.int .i64 b0, .int .i64 b1, .string b2, .slice qa qn qc, .int .i64 b4] 40)).alloc (.cells #[.int .i64 4, .int .i64 0, .string ⟨#[]⟩, .slice (some ⟨w7.heap.size, 0, none⟩) 1 1, .int .i64 0] 40)).heap[w6.heap.size + 1]? = some (.cells #[.int .i64 6, .int .i64 0, .string ⟨#[]⟩, .slice (some ⟨w6.heap.size, 0, none⟩) 2 2, .int .i64 0] 40 (0, 0)) ∧ ((w7.alloc (.cells #[.int .i64 b0, .int .i64 b1, .string b2, .slice qa qn qc, .int .i64 b4] 40)).alloc (.cells #[.int .i64 4, .int .i64 0, .string ⟨#[]⟩, .slice (some ⟨w7.heap.size, 0, none⟩) 1 1, .int .i64 0] 40)).heap[w7.heap.size]? = some (.cells #[.int .i64 b0, .int .i64 b1, .string b2, .slice qa qn qc, .int .i64 b4] 40 (0, 0)) ∧ ((w7.alloc (.cells #[.int .i64 b0, .int .i64 b1, .string b2, .slice qa qn qc, .int .i64 b4] 40)).alloc (.cells #[.int .i64 4, .int .i64 0, .string ⟨#[]⟩, .slice (some ⟨w7.heap.size, 0, none⟩) 1 1, .int .i64 0] 40)).heap[w7.heap.size + 1]? = some (.cells #[.int .i64 4, .int .i64 0, .string ⟨#[]⟩, .slice (some ⟨w7.heap.size, 0, none⟩) 1 1, .int .i64 0] 40 (0, 0))) := ⟨below_sk H7.out.1 hbt, keepb hbt H7.out.2.1, keepb hbt H7.out.2.2.1, keepb hbt H7.out.2.2.2.1, keepb hbt H7.out.2.2.2.2.1, keepb hbt H7.out.2.2.2.2.2.1, keepb hbt H7.out.2.2.2.2.2.2, heap_old (heap_alloc_new w7 _), twoN_new w7 _ _⟩
  have HI2 : Hid (ItsAt true (fun g => w3.heap.size ≤ g) ((w7.alloc (.cells #[.int .i64 b0, .int .i64 b1, .string b2, .slice qa qn qc, .int .i64 b4] 40)).alloc (.cells #[.int .i64 4, .int .i64 0, .string ⟨#[]⟩, .slice (some ⟨w7.heap.size, 0, none⟩) 1 1, .int .i64 0] 40)) L' tb um) := HI.out.below hbt
  clear hbt HI H7
  go_upto_region 11 with (fail)
  generalize ((w7.alloc (.cells #[.int .i64 b0, .int .i64 b1, .string b2, .slice qa qn qc, .int .i64 b4] 40)).alloc (.cells #[.int .i64 4, .int .i64 0, .string ⟨#[]⟩, .slice (some ⟨w7.heap.size, 0, none⟩) 1 1, .int .i64 0] 40)) = w8 at *
  have HI : Hid (ItsAt true (fun g => w3.heap.size ≤ g) w8 L' tb um) := HI2.out
  clear HI2
  clear y0 y1 y2 y3 y4
  obtain ⟨J, hJ0, hJB, hJK, hJO⟩ : ∃ J : World → Prop, J w8 ∧ (∀ W W', J W → Below W.heap.size W W' → J W') ∧ (∀ W, J W → W.cell? ⟨w.heap.size, 0, none⟩ = some (.int .i64 a0) ∧ W.cell? ⟨w.heap.size, 1, none⟩ = some (.int .i64 a1) ∧ W.cell? ⟨w.heap.size, 2, none⟩ = some (.string a2) ∧ W.cell? ⟨w.heap.size, 3, none⟩ = some (.slice pa pn pc) ∧ W.cell? ⟨w.heap.size, 4, none⟩ = some (.int .i64 a4) ∧ W.cell? ⟨w.heap.size + 1, 0, none⟩ = some (.int .i64 b0) ∧ W.cell? ⟨w.heap.size + 1, 1, none⟩ = some (.int .i64 b1) ∧ W.cell? ⟨w.heap.size + 1, 2, none⟩ = some (.string b2) ∧ W.cell? ⟨w.heap.size + 1, 3, none⟩ = some (.slice qa qn qc) ∧ W.cell? ⟨w.heap.size + 1, 4, none⟩ = some (.int .i64 b4)) ∧ (∀ W, J W → ((Below w.heap.size w W ∧ W.heap[w.heap.size]? = some (.cells #[.int .i64 a0, .int .i64 a1, .string a2, .slice pa pn pc, .int .i64 a4] 40 (0, 0)) ∧ W.heap[w.heap.size + 1]? = some (.cells #[.int .i64 b0, .int .i64 b1, .string b2, .slice qa qn qc, .int .i64 b4] 40 (0, 0))) ∧ W.heap[w4.heap.size]? = some (.cells #[.slice tb um uc] 24 (0, 0)) ∧ W.heap[w4.heap.size + 1]? = some (.cells #[.int .i64 code, .int .i64 pl] 32 (0, 0)) ∧ W.heap[w5.heap.size]? = some (.cells #[.int .i64 a0, .int .i64 a1, .string a2, .slice pa pn pc, .int .i64 a4, .int .i64 b0, .int .i64 b1, .string b2, .slice qa qn qc, .int .i64 b4] 40 (0, 0)) ∧ W.heap[w5.heap.size + 1]? = some (.cells #[.int .i64 7, .int .i64 0, .string ⟨#[]⟩, .slice (some ⟨w5.heap.size, 0, none⟩) 2 2, .int .i64 0] 40 (0, 0)) ∧ W.heap[w6.heap.size]? = some (.cells #[.int .i64 a0, .int .i64 a1, .string a2, .slice pa pn pc, .int .i64 a4, .int .i64 b0, .int .i64 b1, .string b2, .slice qa qn qc, .int .i64 b4] 40 (0, 0)) ∧ W.heap[w6.heap.size + 1]? = some (.cells #[.int .i64 6, .int .i64 0, .string ⟨#[]⟩, .slice (some ⟨w6.heap.size, 0, none⟩) 2 2, .int .i64 0] 40 (0, 0)) ∧ W.heap[w7.heap.size]? = some (.cells #[.int .i64 b0, .int .i64 b1, .string b2, .slice qa qn qc, .int .i64 b4] 40 (0, 0)) ∧ W.heap[w7.heap.size + 1]? = some (.cells #[.int .i64 4, .int .i64 0, .string ⟨#[]⟩, .slice (some ⟨w7.heap.size, 0, none⟩) 1 1, .int .i64 0] 40 (0, 0))) ∧ ItsAt true (fun g => w3.heap.size ≤ g) W L' tb um) := by
    refine ⟨fun W => ((Below w.heap.size w W ∧ W.heap[w.heap.size]? = some (.cells #[.int .i64 a0, .int .i64 a1, .string a2, .slice pa pn pc, .int .i64 a4] 40 (0, 0)) ∧ W.heap[w.heap.size + 1]? = some (.cells #[.int .i64 b0, .int .i64 b1, .string b2, .slice qa qn qc, .int .i64 b4] 40 (0, 0))) ∧ W.heap[w4.heap.size]? = some (.cells #[.slice tb um uc] 24 (0, 0)) ∧ W.heap[w4.heap.size + 1]? = some (.cells #[.int .i64 code, .int .i64 pl] 32 (0, 0)) ∧ W.heap[w5.heap.size]? = some (.cells #[.int .i64 a0, .int .i64 a1, .string a2, .slice pa pn pc, .int .i64 a4, .int .i64 b0, .int .i64 b1, .string b2, .slice qa qn qc, .int .i64 b4] 40 (0, 0)) ∧ W.heap[w5.heap.size + 1]? = some (.cells #[.int .i64 7, .int .i64 0, .string ⟨#[]⟩, .slice (some ⟨w5.heap.size, 0, none⟩) 2 2, .int .i64 0] 40 (0, 0)) ∧ W.heap[w6.heap.size]? = some (.cells #[.int .i64 a0, .int .i64 a1, .string a2, .slice pa pn pc, .int .i64 a4, .int .i64 b0, .int .i64 b1, .string b2, .slice qa qn qc, .int .i64 b4] 40 (0, 0)) ∧ W.heap[w6.heap.size + 1]? = some (.cells #[.int .i64 6, .int .i64 0, .string ⟨#[]⟩, .slice (some ⟨w6.heap.size, 0, none⟩) 2 2, .int .i64 0] 40 (0, 0)) ∧ W.heap[w7.heap.size]? = some (.cells #[.int .i64 b0, .int .i64 b1, .string b2, .slice qa qn qc, .int .i64 b4] 40 (0, 0)) ∧ W.heap[w7.heap.size + 1]? = some (.cells #[.int .i64 4, .int .i64 0, .string ⟨#[]⟩, .slice (some ⟨w7.heap.size, 0, none⟩) 1 1, .int .i64 0] 40 (0, 0))) ∧ ItsAt true (fun g => w3.heap.size ≤ g) W L' tb um, ⟨H8.out, HI.out⟩, fun W W' h hb => ⟨⟨below_sk (h.1.1) hb, keepb hb h.1.2.1, keepb hb h.1.2.2.1, keepb hb h.1.2.2.2.1, keepb hb h.1.2.2.2.2.1, keepb hb h.1.2.2.2.2.2.1, keepb hb h.1.2.2.2.2.2.2.1, keepb hb h.1.2.2.2.2.2.2.2.1, keepb hb h.1.2.2.2.2.2.2.2.2⟩, h.2.below hb⟩, fun W h0 => ?_, fun W h => h⟩
    have h := h0.1.1.2
    exact ⟨blk (i := 0) h.1 rfl, blk (i := 1) h.1 rfl, blk (i := 2) h.1 rfl, blk (i := 3) h.1 rfl, blk (i := 4) h.1 rfl, blk (i := 0) h.2 rfl, blk (i := 1) h.2 rfl, blk (i := 2) h.2 rfl, blk (i := 3) h.2 rfl, blk (i := 4) h.2 rfl⟩
  have HJB : Hid (∀ W W', J W → Below W.heap.size W W' → J W') := hJB
  have HJK : Hid (∀ W, J W → W.cell? ⟨w.heap.size, 0, none⟩ = some (.int .i64 a0) ∧ W.cell? ⟨w.heap.size, 1, none⟩ = some (.int .i64 a1) ∧ W.cell? ⟨w.heap.size, 2, none⟩ = some (.string a2) ∧ W.cell? ⟨w.heap.size, 3, none⟩ = some (.slice pa pn pc) ∧ W.cell? ⟨w.heap.size, 4, none⟩ = some (.int .i64 a4) ∧ W.cell? ⟨w.heap.size + 1, 0, none⟩ = some (.int .i64 b0) ∧ W.cell? ⟨w.heap.size + 1, 1, none⟩ = some (.int .i64 b1) ∧ W.cell? ⟨w.heap.size + 1, 2, none⟩ = some (.string b2) ∧ W.cell? ⟨w.heap.size + 1, 3, none⟩ = some (.slice qa qn qc) ∧ W.cell? ⟨w.heap.size + 1, 4, none⟩ = some (.int .i64 b4)) := hJK
  have HJO : Hid (∀ W, J W → ((Below w.heap.size w W ∧ W.heap[w.heap.size]? = some (.cells #[.int .i64 a0, .int .i64 a1, .string a2, .slice pa pn pc, .int .i64 a4] 40 (0, 0)) ∧ W.heap[w.heap.size + 1]? = some (.cells #[.int .i64 b0, .int .i64 b1, .string b2, .slice qa qn qc, .int .i64 b4] 40 (0, 0))) ∧ W.heap[w4.heap.size]? = some (.cells #[.slice tb um uc] 24 (0, 0)) ∧ W.heap[w4.heap.size + 1]? = some (.cells #[.int .i64 code, .int .i64 pl] 32 (0, 0)) ∧ W.heap[w5.heap.size]? = some (.cells #[.int .i64 a0, .int .i64 a1, .string a2, .slice pa pn pc, .int .i64 a4, .int .i64 b0, .int .i64 b1, .string b2, .slice qa qn qc, .int .i64 b4] 40 (0, 0)) ∧ W.heap[w5.heap.size + 1]? = some (.cells #[.int .i64 7, .int .i64 0, .string ⟨#[]⟩, .slice (some ⟨w5.heap.size, 0, none⟩) 2 2, .int .i64 0] 40 (0, 0)) ∧ W.heap[w6.heap.size]? = some (.cells #[.int .i64 a0, .int .i64 a1, .string a2, .slice pa pn pc, .int .i64 a4, .int .i64 b0, .int .i64 b1, .string b2, .slice qa qn qc, .int .i64 b4] 40 (0, 0)) ∧ W.heap[w6.heap.size + 1]? = some (.cells #[.int .i64 6, .int .i64 0, .string ⟨#[]⟩, .slice (some ⟨w6.heap.size, 0, none⟩) 2 2, .int .i64 0] 40 (0, 0)) ∧ W.heap[w7.heap.size]? = some (.cells #[.int .i64 b0, .int .i64 b1, .string b2, .slice qa qn qc, .int .i64 b4] 40 (0, 0)) ∧ W.heap[w7.heap.size + 1]? = some (.cells #[.int .i64 4, .int .i64 0, .string ⟨#[]⟩, .slice (some ⟨w7.heap.size, 0, none⟩) 1 1, .int .i64 0] 40 (0, 0))) ∧ ItsAt true (fun g => w3.heap.size ≤ g) W L' tb um) := hJO
  have HJW : Hid (∀ W, J W → Below w.heap.size w W) := fun W h => (hJO W h).1.1.1
  have HJD : Hid (∀ W, J W → J W.drew) := fun W h => hJB _ _ h (Below.refl _ _).drew
  clear H8 HI hJB hJK hJO
  obtain ⟨x0, x1, x2, x3, x4, x5, x6, x7, x8, x9⟩ := HJK.out _ hJ0
  have hJ1 := HJD.out _ hJ0
  go_region_held3 (fun W => J W ∧ W.cell? ⟨w.heap.size, 0, none⟩ = some (.int .i64 a0) ∧ W.cell? ⟨w.heap.size, 1, none⟩ = some (.int .i64 a1) ∧ W.cell? ⟨w.heap.size, 2, none⟩ = some (.string a2) ∧ W.cell? ⟨w.heap.size, 3, none⟩ = some (.slice pa pn pc) ∧ W.cell? ⟨w.heap.size, 4, none⟩ = some (.int .i64 a4) ∧ W.cell? ⟨w.heap.size + 1, 0, none⟩ = some (.int .i64 b0) ∧ W.cell? ⟨w.heap.size + 1, 1, none⟩ = some (.int .i64 b1) ∧ W.cell? ⟨w.heap.size + 1, 2, none⟩ = some (.string b2) ∧ W.cell? ⟨w.heap.size + 1, 3, none⟩ = some (.slice qa qn qc) ∧ W.cell? ⟨w.heap.size + 1, 4, none⟩ = some (.int .i64 b4)) (first | exact ⟨by assumption, HJK.out _ (by assumption)⟩ | exact ⟨HJD.out _ (by assumption), HJK.out _ (HJD.out _ (by assumption))⟩) (first
    | (go_at_call 15; with_reducible refine (HDa.out _ (HJW.out _ (by assumption))).mono ?_; rintro e W1 ⟨rfl, hb⟩; have HJ' := HJB.out _ _ (by assumption) hb; have hc' := HJK.out _ HJ'; clear hb)
    | (go_at_call 15; with_reducible refine (HDb.out _ (HJW.out _ (by assumption))).mono ?_; rintro e W1 ⟨rfl, hb⟩; have HJ' := HJB.out _ _ (by assumption) hb; have hc' := HJK.out _ HJ'; clear hb))
  have HQ : Hid (((Below w.heap.size w W1 ∧ W1.heap[w.heap.size]? = some (.cells #[.int .i64 a0, .int .i64 a1, .string a2, .slice pa pn pc, .int .i64 a4] 40 (0, 0)) ∧ W1.heap[w.heap.size + 1]? = some (.cells #[.int .i64 b0, .int .i64 b1, .string b2, .slice qa qn qc, .int .i64 b4] 40 (0, 0))) ∧ W1.heap[w4.heap.size]? = some (.cells #[.slice tb um uc] 24 (0, 0)) ∧ W1.heap[w4.heap.size + 1]? = some (.cells #[.int .i64 code, .int .i64 pl] 32 (0, 0)) ∧ W1.heap[w5.heap.size]? = some (.cells #[.int .i64 a0, .int .i64 a1, .string a2, .slice pa pn pc, .int .i64 a4, .int .i64 b0, .int .i64 b1, .string b2, .slice qa qn qc, .int .i64 b4] 40 (0, 0)) ∧ W1.heap[w5.heap.size + 1]? = some (.cells #[.int .i64 7, .int .i64 0, .string ⟨#[]⟩, .slice (some ⟨w5.heap.size, 0, none⟩) 2 2, .int .i64 0] 40 (0, 0)) ∧ W1.heap[w6.heap.size]? = some (.cells #[.int .i64 a0, .int .i64 a1, .string a2, .slice pa pn pc, .int .i64 a4, .int .i64 b0, .int .i64 b1, .string b2, .slice qa qn qc, .int .i64 b4] 40 (0, 0)) ∧ W1.heap[w6.heap.size + 1]? = some (.cells #[.int .i64 6, .int .i64 0, .string ⟨#[]⟩, .slice (some ⟨w6.heap.size, 0, none⟩) 2 2, .int .i64 0] 40 (0, 0)) ∧ W1.heap[w7.heap.size]? = some (.cells #[.int .i64 b0, .int .i64 b1, .string b2, .slice qa qn qc, .int .i64 b4] 40 (0, 0)) ∧ W1.heap[w7.heap.size + 1]? = some (.cells #[.int .i64 4, .int .i64 0, .string ⟨#[]⟩, .slice (some ⟨w7.heap.size, 0, none⟩) 1 1, .int .i64 0] 40 (0, 0))) ∧ ItsAt true (fun g => w3.heap.size ≤ g) W1 L' tb um) := HJO.out _ HJ'
  clear x0 x1 x2 x3 x4 x5 x6 x7 x8 x9 hc' HJ' hJ0 hJ1 HJB HJK HJO HJW HJD HDa HDb
  rename_i hcx
  clear hcx
  by_cases hdp : 32 ≤ max dA dB
  · have hg : decide ((32 : Int) ≤ max (dA : Int) (dB : Int)) = true := by simp only [decide_eq_true_eq]; omega
    have hcd := HK.out.1 hdp
    subst hcd
    have f := blk (i := 0) HQ.out.1.2.2.1 rfl
    have HBf : Hid (Below w.heap.size w W1) := HQ.out.1.1.1
    clear HQ hdp HK HSm
    go_wp2
    go_ret
    exact ⟨rfl, HBf.out⟩
  · have hg : decide ((32 : Int) ≤ max (dA : Int) (dB : Int)) = false := by simp only [decide_eq_false_iff_not]; omega
    obtain ⟨hcd, hsm⟩ := HK.out.2 hdp
    subst hcd
    have HSm2 : Hid (sameI L' (kI a b) = true) := hsm
    clear hsm hdp HK
    have v0 : W1.cell? ⟨w5.heap.size + 1, 0, none⟩ = some (.int .i64 7) := blk (i := 0) HQ.out.1.2.2.2.2.1 rfl
    have v1 : W1.cell? ⟨w5.heap.size + 1, 1, none⟩ = some (.int .i64 0) := blk (i := 1) HQ.out.1.2.2.2.2.1 rfl
    have v2 : W1.cell? ⟨w5.heap.size + 1, 2, none⟩ = some (.string ⟨#[]⟩) := blk (i := 2) HQ.out.1.2.2.2.2.1 rfl
    have v3 : W1.cell? ⟨w5.heap.size + 1, 3, none⟩ = some (.slice (some ⟨w5.heap.size, 0, none⟩) 2 2) := blk (i := 3) HQ.out.1.2.2.2.2.1 rfl
    have v4 : W1.cell? ⟨w5.heap.size + 1, 4, none⟩ = some (.int .i64 0) := blk (i := 4) HQ.out.1.2.2.2.2.1 rfl
    have y0 : ∀ o0 : Obj, (W1.alloc o0).cell? ⟨w6.heap.size + 1, 0, none⟩ = some (.int .i64 6) := fun o0 => blk (i := 0) (heap_old HQ.out.1.2.2.2.2.2.2.1) rfl
    have y1 : ∀ o0 : Obj, (W1.alloc o0).cell? ⟨w6.heap.size + 1, 1, none⟩ = some (.int .i64 0) := fun o0 => blk (i := 1) (heap_old HQ.out.1.2.2.2.2.2.2.1) rfl
    have y2 : ∀ o0 : Obj, (W1.alloc o0).cell? ⟨w6.heap.size + 1, 2, none⟩ = some (.string ⟨#[]⟩) := fun o0 => blk (i := 2) (heap_old HQ.out.1.2.2.2.2.2.2.1) rfl
    have y3 : ∀ o0 : Obj, (W1.alloc o0).cell? ⟨w6.heap.size + 1, 3, none⟩ = some (.slice (some ⟨w6.heap.size, 0, none⟩) 2 2) := fun o0 => blk (i := 3) (heap_old HQ.out.1.2.2.2.2.2.2.1) rfl
    have y4 : ∀ o0 : Obj, (W1.alloc o0).cell? ⟨w6.heap.size + 1, 4, none⟩ = some (.int .i64 0) := fun o0 => blk (i := 4) (heap_old HQ.out.1.2.2.2.2.2.2.1) rfl
    have x0 : ∀ o0 o1 : Obj, ((W1.alloc o0).alloc o1).cell? ⟨w.heap.size, 0, none⟩ = some (.int .i64 a0) := fun o0 o1 => blk (i := 0) (heap_old (heap_old HQ.out.1.1.2.1)) rfl
    have x1 : ∀ o0 o1 : Obj, ((W1.alloc o0).alloc o1).cell? ⟨w.heap.size, 1, none⟩ = some (.int .i64 a1) := fun o0 o1 => blk (i := 1) (heap_old (heap_old HQ.out.1.1.2.1)) rfl
    have x2 : ∀ o0 o1 : Obj, ((W1.alloc o0).alloc o1).cell? ⟨w.heap.size, 2, none⟩ = some (.string a2) := fun o0 o1 => blk (i := 2) (heap_old (heap_old HQ.out.1.1.2.1)) rfl
    have x3 : ∀ o0 o1 : Obj, ((W1.alloc o0).alloc o1).cell? ⟨w.heap.size, 3, none⟩ = some (.slice pa pn pc) := fun o0 o1 => blk (i := 3) (heap_old (heap_old HQ.out.1.1.2.1)) rfl
    have x4 : ∀ o0 o1 : Obj, ((W1.alloc o0).alloc o1).cell? ⟨w.heap.size, 4, none⟩ = some (.int .i64 a4) := fun o0 o1 => blk (i := 4) (heap_old (heap_old HQ.out.1.1.2.1)) rfl
    have u0 : ∀ o0 o1 o2 : Obj, (((W1.alloc o0).alloc o1).alloc o2).cell? ⟨w7.heap.size + 1, 0, none⟩ = some (.int .i64 4) := fun o0 o1 o2 => blk (i := 0) (heap_old (heap_old (heap_old HQ.out.1.2.2.2.2.2.2.2.2))) rfl
    have u1 : ∀ o0 o1 o2 : Obj, (((W1.alloc o0).alloc o1).alloc o2).cell? ⟨w7.heap.size + 1, 1, none⟩ = some (.int .i64 0) := fun o0 o1 o2 => blk (i := 1) (heap_old (heap_old (heap_old HQ.out.1.2.2.2.2.2.2.2.2))) rfl
    have u2 : ∀ o0 o1 o2 : Obj, (((W1.alloc o0).alloc o1).alloc o2).cell? ⟨w7.heap.size + 1, 2, none⟩ = some (.string ⟨#[]⟩) := fun o0 o1 o2 => blk (i := 2) (heap_old (heap_old (heap_old HQ.out.1.2.2.2.2.2.2.2.2))) rfl
    have u3 : ∀ o0 o1 o2 : Obj, (((W1.alloc o0).alloc o1).alloc o2).cell? ⟨w7.heap.size + 1, 3, none⟩ = some (.slice (some ⟨w7.heap.size, 0, none⟩) 1 1) := fun o0 o1 o2 => blk (i := 3) (heap_old (heap_old (heap_old HQ.out.1.2.2.2.2.2.2.2.2))) rfl
    have u4 : ∀ o0 o1 o2 : Obj, (((W1.alloc o0).alloc o1).alloc o2).cell? ⟨w7.heap.size + 1, 4, none⟩ = some (.int .i64 0) := fun o0 o1 o2 => blk (i := 4) (heap_old (heap_old (heap_old HQ.out.1.2.2.2.2.2.2.2.2))) rfl
    have hs6 := six_new W1 (.cells #[.int .i64 7, .int .i64 0, .string ⟨#[]⟩, .slice (some ⟨w5.heap.size, 0, none⟩) 2 2, .int .i64 0] 40) (.cells #[.int .i64 6, .int .i64 0, .string ⟨#[]⟩, .slice (some ⟨w6.heap.size, 0, none⟩) 2 2, .int .i64 0] 40) (.cells #[.int .i64 a0, .int .i64 a1, .string a2, .slice pa pn pc, .int .i64 a4] 40) (.cells #[.int .i64 4, .int .i64 0, .string ⟨#[]⟩, .slice (some ⟨w7.heap.size, 0, none⟩) 1 1, .int .i64 0] 40) (.cells #[.int .i64 10, .string ⟨#[]⟩, .slice (some ⟨W1.heap.size, 0, none⟩) 1 1, .int .i64 0, .int .i64 10, .string ⟨#[]⟩, .slice (some ⟨W1.heap.size + 1, 0, none⟩) 1 1, .int .i64 0, .int .i64 10, .string ⟨#[]⟩, .slice (some ⟨W1.heap.size + 1 + 1, 0, none⟩) 1 1, .int .i64 0, .int .i64 10, .string ⟨#[]⟩, .slice (some ⟨W1.heap.size + 1 + 1 + 1, 0, none⟩) 1 1, .int .i64 0] 37) (.cells #[.slice (some ⟨W1.heap.size + 1 + 1 + 1 + 1, 0, none⟩) 4 4] 24)
    have HS6 : Hid (Calls Tryd.prog 13 #[.agg #[.slice tb um uc], .agg #[.slice (some ⟨W1.heap.size + 1 + 1 + 1 + 1, 0, none⟩) 4 4]] ((((((W1.alloc (.cells #[.int .i64 7, .int .i64 0, .string ⟨#[]⟩, .slice (some ⟨w5.heap.size, 0, none⟩) 2 2, .int .i64 0] 40)).alloc (.cells #[.int .i64 6, .int .i64 0, .string ⟨#[]⟩, .slice (some ⟨w6.heap.size, 0, none⟩) 2 2, .int .i64 0] 40)).alloc (.cells #[.int .i64 a0, .int .i64 a1, .string a2, .slice pa pn pc, .int .i64 a4] 40)).alloc (.cells #[.int .i64 4, .int .i64 0, .string ⟨#[]⟩, .slice (some ⟨w7.heap.size, 0, none⟩) 1 1, .int .i64 0] 40)).alloc (.cells #[.int .i64 10, .string ⟨#[]⟩, .slice (some ⟨W1.heap.size, 0, none⟩) 1 1, .int .i64 0, .int .i64 10, .string ⟨#[]⟩, .slice (some ⟨W1.heap.size + 1, 0, none⟩) 1 1, .int .i64 0, .int .i64 10, .string ⟨#[]⟩, .slice (some ⟨W1.heap.size + 1 + 1, 0, none⟩) 1 1, .int .i64 0, .int .i64 10, .string ⟨#[]⟩, .slice (some ⟨W1.heap.size + 1 + 1 + 1, 0, none⟩) 1 1, .int .i64 0] 37)).alloc (.cells #[.slice (some ⟨W1.heap.size + 1 + 1 + 1 + 1, 0, none⟩) 4 4] 24)) (fun e w' => e = .returned (.bool true) ∧ Below ((((((W1.alloc (.cells #[.int .i64 7, .int .i64 0, .string ⟨#[]⟩, .slice (some ⟨w5.heap.size, 0, none⟩) 2 2, .int .i64 0] 40)).alloc (.cells #[.int .i64 6, .int .i64 0, .string ⟨#[]⟩, .slice (some ⟨w6.heap.size, 0, none⟩) 2 2, .int .i64 0] 40)).alloc (.cells #[.int .i64 a0, .int .i64 a1, .string a2, .slice pa pn pc, .int .i64 a4] 40)).alloc (.cells #[.int .i64 4, .int .i64 0, .string ⟨#[]⟩, .slice (some ⟨w7.heap.size, 0, none⟩) 1 1, .int .i64 0] 40)).alloc (.cells #[.int .i64 10, .string ⟨#[]⟩, .slice (some ⟨W1.heap.size, 0, none⟩) 1 1, .int .i64 0, .int .i64 10, .string ⟨#[]⟩, .slice (some ⟨W1.heap.size + 1, 0, none⟩) 1 1, .int .i64 0, .int .i64 10, .string ⟨#[]⟩, .slice (some ⟨W1.heap.size + 1 + 1, 0, none⟩) 1 1, .int .i64 0, .int .i64 10, .string ⟨#[]⟩, .slice (some ⟨W1.heap.size + 1 + 1 + 1, 0, none⟩) 1 1, .int .i64 0] 37)).alloc (.cells #[.slice (some ⟨W1.heap.size + 1 + 1 + 1 + 1, 0, none⟩) 4 4] 24)).heap.size ((((((W1.alloc (.cells #[.int .i64 7, .int .i64 0, .string ⟨#[]⟩, .slice (some ⟨w5.heap.size, 0, none⟩) 2 2, .int .i64 0] 40)).alloc (.cells #[.int .i64 6, .int .i64 0, .string ⟨#[]⟩, .slice (some ⟨w6.heap.size, 0, none⟩) 2 2, .int .i64 0] 40)).alloc (.cells #[.int .i64 a0, .int .i64 a1, .string a2, .slice pa pn pc, .int .i64 a4] 40)).alloc (.cells #[.int .i64 4, .int .i64 0, .string ⟨#[]⟩, .slice (some ⟨w7.heap.size, 0, none⟩) 1 1, .int .i64 0] 40)).alloc (.cells #[.int .i64 10, .string ⟨#[]⟩, .slice (some ⟨W1.heap.size, 0, none⟩) 1 1, .int .i64 0, .int .i64 10, .string ⟨#[]⟩, .slice (some ⟨W1.heap.size + 1, 0, none⟩) 1 1, .int .i64 0, .int .i64 10, .string ⟨#[]⟩, .slice (some ⟨W1.heap.size + 1 + 1, 0, none⟩) 1 1, .int .i64 0, .int .i64 10, .string ⟨#[]⟩, .slice (some ⟨W1.heap.size + 1 + 1 + 1, 0, none⟩) 1 1, .int .i64 0] 37)).alloc (.cells #[.slice (some ⟨W1.heap.size + 1 + 1 + 1 + 1, 0, none⟩) 4 4] 24)) w')) := HSm.out L' HSm2.out ((((((W1.alloc (.cells #[.int .i64 7, .int .i64 0, .string ⟨#[]⟩, .slice (some ⟨w5.heap.size, 0, none⟩) 2 2, .int .i64 0] 40)).alloc (.cells #[.int .i64 6, .int .i64 0, .string ⟨#[]⟩, .slice (some ⟨w6.heap.size, 0, none⟩) 2 2, .int .i64 0] 40)).alloc (.cells #[.int .i64 a0, .int .i64 a1, .string a2, .slice pa pn pc, .int .i64 a4] 40)).alloc (.cells #[.int .i64 4, .int .i64 0, .string ⟨#[]⟩, .slice (some ⟨w7.heap.size, 0, none⟩) 1 1, .int .i64 0] 40)).alloc (.cells #[.int .i64 10, .string ⟨#[]⟩, .slice (some ⟨W1.heap.size, 0, none⟩) 1 1, .int .i64 0, .int .i64 10, .string ⟨#[]⟩, .slice (some ⟨W1.heap.size + 1, 0, none⟩) 1 1, .int .i64 0, .int .i64 10, .string ⟨#[]⟩, .slice (some ⟨W1.heap.size + 1 + 1, 0, none⟩) 1 1, .int .i64 0, .int .i64 10, .string ⟨#[]⟩, .slice (some ⟨W1.heap.size + 1 + 1 + 1, 0, none⟩) 1 1, .int .i64 0] 37)).alloc (.cells #[.slice (some ⟨W1.heap.size + 1 + 1 + 1 + 1, 0, none⟩) 4 4] 24)) tb um uc w5.heap.size w6.heap.size w7.heap.size (W1.heap.size) (W1.heap.size + 1) (W1.heap.size + 1 + 1) (W1.heap.size + 1 + 1 + 1) (W1.heap.size + 1 + 1 + 1 + 1) (HQ.out.1.1.1.trans (hs6.1.mono HQ.out.1.1.1.size)) HU.out ⟨_, HQ.out.2.below hs6.1⟩ (keepb hs6.1 HQ.out.1.2.2.2.1) (keepb hs6.1 HQ.out.1.2.2.2.2.2.1) (keepb hs6.1 HQ.out.1.2.2.2.2.2.2.2.1) hs6.2.1 hs6.2.2.1 hs6.2.2.2.1 hs6.2.2.2.2.1 hs6.2.2.2.2.2.1
    have HT6 : Hid (Below w.heap.size w ((((((W1.alloc (.cells #[.int .i64 7, .int .i64 0, .string ⟨#[]⟩, .slice (some ⟨w5.heap.size, 0, none⟩) 2 2, .int .i64 0] 40)).alloc (.cells #[.int .i64 6, .int .i64 0, .string ⟨#[]⟩, .slice (some ⟨w6.heap.size, 0, none⟩) 2 2, .int .i64 0] 40)).alloc (.cells #[.int .i64 a0, .int .i64 a1, .string a2, .slice pa pn pc, .int .i64 a4] 40)).alloc (.cells #[.int .i64 4, .int .i64 0, .string ⟨#[]⟩, .slice (some ⟨w7.heap.size, 0, none⟩) 1 1, .int .i64 0] 40)).alloc (.cells #[.int .i64 10, .string ⟨#[]⟩, .slice (some ⟨W1.heap.size, 0, none⟩) 1 1, .int .i64 0, .int .i64 10, .string ⟨#[]⟩, .slice (some ⟨W1.heap.size + 1, 0, none⟩) 1 1, .int .i64 0, .int .i64 10, .string ⟨#[]⟩, .slice (some ⟨W1.heap.size + 1 + 1, 0, none⟩) 1 1, .int .i64 0, .int .i64 10, .string ⟨#[]⟩, .slice (some ⟨W1.heap.size + 1 + 1 + 1, 0, none⟩) 1 1, .int .i64 0] 37)).alloc (.cells #[.slice (some ⟨W1.heap.size + 1 + 1 + 1 + 1, 0, none⟩) 4 4] 24)) ∧ ((((((W1.alloc (.cells #[.int .i64 7, .int .i64 0, .string ⟨#[]⟩, .slice (some ⟨w5.heap.size, 0, none⟩) 2 2, .int .i64 0] 40)).alloc (.cells #[.int .i64 6, .int .i64 0, .string ⟨#[]⟩, .slice (some ⟨w6.heap.size, 0, none⟩) 2 2, .int .i64 0] 40)).alloc (.cells #[.int .i64 a0, .int .i64 a1, .string a2, .slice pa pn pc, .int .i64 a4] 40)).alloc (.cells #[.int .i64 4, .int .i64 0, .string ⟨#[]⟩, .slice (some ⟨w7.heap.size, 0, none⟩) 1 1, .int .i64 0] 40)).alloc (.cells #[.int .i64 10, .string ⟨#[]⟩, .slice (some ⟨W1.heap.size, 0, none⟩) 1 1, .int .i64 0, .int .i64 10, .string ⟨#[]⟩, .slice (some ⟨W1.heap.size + 1, 0, none⟩) 1 1, .int .i64 0, .int .i64 10, .string ⟨#[]⟩, .slice (some ⟨W1.heap.size + 1 + 1, 0, none⟩) 1 1, .int .i64 0, .int .i64 10, .string ⟨#[]⟩, .slice (some ⟨W1.heap.size + 1 + 1 + 1, 0, none⟩) 1 1, .int .i64 0] 37)).alloc (.cells #[.slice (some ⟨W1.heap.size + 1 + 1 + 1 + 1, 0, none⟩) 4 4] 24)).heap[w4.heap.size]? = some (.cells #[.slice tb um uc] 24 (0, 0)) ∧ ((((((W1.alloc (.cells #[.int .i64 7, .int .i64 0, .string ⟨#[]⟩, .slice (some ⟨w5.heap.size, 0, none⟩) 2 2, .int .i64 0] 40)).alloc (.cells #[.int .i64 6, .int .i64 0, .string ⟨#[]⟩, .slice (some ⟨w6.heap.size, 0, none⟩) 2 2, .int .i64 0] 40)).alloc (.cells #[.int .i64 a0, .int .i64 a1, .string a2, .slice pa pn pc, .int .i64 a4] 40)).alloc (.cells #[.int .i64 4, .int .i64 0, .string ⟨#[]⟩, .slice (some ⟨w7.heap.size, 0, none⟩) 1 1, .int .i64 0] 40)).alloc (.cells #[.int .i64 10, .string ⟨#[]⟩, .slice (some ⟨W1.heap.size, 0, none⟩) 1 1, .int .i64 0, .int .i64 10, .string ⟨#[]⟩, .slice (some ⟨W1.heap.size + 1, 0, none⟩) 1 1, .int .i64 0, .int .i64 10, .string ⟨#[]⟩, .slice (some ⟨W1.heap.size + 1 + 1, 0, none⟩) 1 1, .int .i64 0, .int .i64 10, .string ⟨#[]⟩, .slice (some ⟨W1.heap.size + 1 + 1 + 1, 0, none⟩) 1 1, .int .i64 0] 37)).alloc (.cells #[.slice (some ⟨W1.heap.size + 1 + 1 + 1 + 1, 0, none⟩) 4 4] 24)).heap[w4.heap.size + 1]? = some (.cells #[.int .i64 0, .int .i64 pl] 32 (0, 0)) ∧ ((((((W1.alloc (.cells #[.int .i64 7, .int .i64 0, .string ⟨#[]⟩, .slice (some ⟨w5.heap.size, 0, none⟩) 2 2, .int .i64 0] 40)).alloc (.cells #[.int .i64 6, .int .i64 0, .string ⟨#[]⟩, .slice (some ⟨w6.heap.size, 0, none⟩) 2 2, .int .i64 0] 40)).alloc (.cells #[.int .i64 a0, .int .i64 a1, .string a2, .slice pa pn pc, .int .i64 a4] 40)).alloc (.cells #[.int .i64 4, .int .i64 0, .string ⟨#[]⟩, .slice (some ⟨w7.heap.size, 0, none⟩) 1 1, .int .i64 0] 40)).alloc (.cells #[.int .i64 10, .string ⟨#[]⟩, .slice (some ⟨W1.heap.size, 0, none⟩) 1 1, .int .i64 0, .int .i64 10, .string ⟨#[]⟩, .slice (some ⟨W1.heap.size + 1, 0, none⟩) 1 1, .int .i64 0, .int .i64 10, .string ⟨#[]⟩, .slice (some ⟨W1.heap.size + 1 + 1, 0, none⟩) 1 1, .int .i64 0, .int .i64 10, .string ⟨#[]⟩, .slice (some ⟨W1.heap.size + 1 + 1 + 1, 0, none⟩) 1 1, .int .i64 0] 37)).alloc (.cells #[.slice (some ⟨W1.heap.size + 1 + 1 + 1 + 1, 0, none⟩) 4 4] 24)).heap[W1.heap.size + 1 + 1 + 1 + 1 + 1]? = some (.cells #[.slice (some ⟨W1.heap.size + 1 + 1 + 1 + 1, 0, none⟩) 4 4] 24 (0, 0))) := ⟨HQ.out.1.1.1.trans (hs6.1.mono HQ.out.1.1.1.size), keepb hs6.1 HQ.out.1.2.1, keepb hs6.1 HQ.out.1.2.2.1, hs6.2.2.2.2.2.2⟩
    clear hs6 HSm HSm2 HU HQ
    go_upto_region 15 with (fail)
    generalize ((((((W1.alloc (.cells #[.int .i64 7, .int .i64 0, .string ⟨#[]⟩, .slice (some ⟨w5.heap.size, 0, none⟩) 2 2, .int .i64 0] 40)).alloc (.cells #[.int .i64 6, .int .i64 0, .string ⟨#[]⟩, .slice (some ⟨w6.heap.size, 0, none⟩) 2 2, .int .i64 0] 40)).alloc (.cells #[.int .i64 a0, .int .i64 a1, .string a2, .slice pa pn pc, .int .i64 a4] 40)).alloc (.cells #[.int .i64 4, .int .i64 0, .string ⟨#[]⟩, .slice (some ⟨w7.heap.size, 0, none⟩) 1 1, .int .i64 0] 40)).alloc (.cells #[.int .i64 10, .string ⟨#[]⟩, .slice (some ⟨W1.heap.size, 0, none⟩) 1 1, .int .i64 0, .int .i64 10, .string ⟨#[]⟩, .slice (some ⟨W1.heap.size + 1, 0, none⟩) 1 1, .int .i64 0, .int .i64 10, .string ⟨#[]⟩, .slice (some ⟨W1.heap.size + 1 + 1, 0, none⟩) 1 1, .int .i64 0, .int .i64 10, .string ⟨#[]⟩, .slice (some ⟨W1.heap.size + 1 + 1 + 1, 0, none⟩) 1 1, .int .i64 0] 37)).alloc (.cells #[.slice (some ⟨W1.heap.size + 1 + 1 + 1 + 1, 0, none⟩) 4 4] 24)) = W9 at *
    clear v0 v1 v2 v3 v4 y0 y1 y2 y3 y4 x0 x1 x2 x3 x4 u0 u1 u2 u3 u4
    have t0 := blk (i := 0) HT6.out.2.1 rfl
    have t1 := blk (i := 0) HT6.out.2.2.2 rfl
    go_wp2_with fail
    refine HS6.out.mono ?_
    rintro e W10 ⟨rfl, hb10⟩
    have f := blk (i := 0) (keepb hb10 HT6.out.2.2.1) rfl
    have HBf : Hid (Below w.heap.size w W10) := HT6.out.1.trans (hb10.mono HT6.out.1.size)
    clear hb10 HT6 HS6 t0 t1
    go_wp2
    go_ret
    exact ⟨rfl, HBf.out⟩
end Go.Proofs.YtpeldiibjhffiaaDoor
