/-
  The function value that hands on all paths into a cell: where the cell counts.
-/
import Derived.Test.YtegndeefddlccaaPiA
import Derived.Lib.SlBytesConst
import Derived.Shelf.Abstract
import Derived.Shelf.RegionOpen
import Derived.WalkKit
import Derived.OwnWalkIn
import Derived.TacticsInMore
import Derived.LoopNIn
import Derived.LoopIn
namespace Go.Proofs.Ytegndeefddlccaa
open Go.RowKit Go.Shelf
attribute [local go_sem] Oper.semAt_some

theorem hdd (k : Nat) : Fence.wide.depth.isSome = true → 1 ≤ k := fun h => by cases h
theorem conv89 (w : World) (C : Array Value) (n c : Nat) : (convert 89 89 (.slice (some ⟨w.heap.size, 0, none⟩) n c)).run Try.prog (w.alloc (.cells C 5)) = .ok (.slice (some ⟨w.heap.size, 0, none⟩) n c) (w.alloc (.cells C 5 (C.size, C.size + 1))) :=
  Lib.run_convert_bytes_const w 89 5 C n c Try.underlying89 Try.underlying5
def mdi : List UInt8 := [77, 68, 73]
def partB (m : Md) (nx ny n : Nat) (i j : Int) (b : List UInt8) (c : UInt8) : List Pt := if goB m c then intoF m nx ny n (i - dnB c) (j - ovB c) (c :: b) else []
def begL (m : Md) (i j : Int) (b : List UInt8) : List Pt := if beginB m i j then [⟨i, j, b⟩] else []
theorem intoF_yes {m : Md} {nx ny n : Nat} {i j : Int} {b : List UInt8} (h : hasB m nx ny i j = true) : intoF m nx ny (n + 1) i j b = begL m i j b ++ mdi.flatMap (partB m nx ny n i j b) := by
  simp [intoF, h, begL, mdi, partB]
/-- Between two rounds of its loop. -/
structure LpS (J : List Pt → (Nat → Prop) → World → Prop) (s : List Pt) (O : Nat → Prop) (W : World) (fd : Array Value) (i j : Int) (b : List UInt8) (l bf bi bj bb bm : Nat) (ds : List Nat) (Ok : Nat → Prop) (w : World) : Prop where
  hJ : J s Ok w
  fr : Fr O W w
  ok : ∀ q, Ok q → O q ∨ W.heap.size ≤ q
  A : InA fd i j b l bf bi bj bb W.heap.size w
  nA : ¬ Ok bf ∧ ¬ Ok bi ∧ ¬ Ok bj ∧ ¬ Ok bb ∧ ¬ Ok W.heap.size
  m : w.heap[bm]? = some (.cells #[.int .u8 77, .int .u8 68, .int .u8 73] 5 (3, 4))
  nm : ¬ Ok bm
  nd : ds.Nodup
  ds : ∀ D ∈ ds, w.heap[D]? = some (.deferred (some [])) ∧ ¬ Ok D ∧ W.heap.size ≤ D
theorem LpS.next {J : List Pt → (Nat → Prop) → World → Prop} {s : List Pt} {O : Nat → Prop} {W : World} {fd : Array Value} {i j : Int} {b : List UInt8} {l bf bi bj bb bm : Nat} {ds : List Nat} {Ok : Nat → Prop} {w w' : World} (h : LpS J s O W fd i j b l bf bi bj bb bm ds Ok w) (hst : Stab W.heap.size J) (hb : Below w.heap.size w w') :
    LpS J s O W fd i j b l bf bi bj bb bm ds Ok w' :=
  ⟨hst _ _ _ _ (fun _ => False) h.hJ (Fr.of_below hb) (fun _ h => h.elim), h.fr.then_below hb, h.ok, h.A.next hb, h.nA, (Fr.of_below (O := fun _ => False) hb).heap h.m (fun h => h), h.nm, h.nd, fun D hD => ⟨(Fr.of_below (O := fun _ => False) hb).heap (h.ds D hD).1 (fun h => h), (h.ds D hD).2⟩⟩
theorem LpS.done {J : List Pt → (Nat → Prop) → World → Prop} {s s' : List Pt} {O : Nat → Prop} {W : World} {fd : Array Value} {i j : Int} {b : List UInt8} {l bf bi bj bb bm D : Nat} {ds : List Nat} {Ok O' : Nat → Prop} {w w' : World} (h : LpS J s O W fd i j b l bf bi bj bb bm ds Ok w)
    (hD : w.heap.size ≤ D) (hJ : J s' O' w') (hd : w'.heap[D]? = some (.deferred (some []))) (hn : ¬ O' D) (hf : Fr Ok w w') (ho : ∀ k, O' k → Ok k ∨ w.heap.size ≤ k) : LpS J s' O W fd i j b l bf bi bj bb bm (D :: ds) O' w' := by
  have lt : ∀ {k : Nat} {o : Obj}, w.heap[k]? = some o → ¬ Ok k → ¬ O' k := fun hk hno ho' => by
    rcases ho _ ho' with h1 | h1
    · exact hno h1
    · have := (Array.getElem?_eq_some_iff.1 hk).1; omega
  refine ⟨hJ, h.fr.trans hf h.ok, fun q hq => ?_, h.A.keep hf h.nA, ⟨lt h.A.f h.nA.1, lt h.A.i h.nA.2.1, lt h.A.j h.nA.2.2.1, lt h.A.b h.nA.2.2.2.1, lt h.A.y h.nA.2.2.2.2⟩, hf.heap h.m h.nm, lt h.m h.nm, ?_, ?_⟩
  · rcases ho q hq with h1 | h1
    · exact h.ok q h1
    · exact .inr (Nat.le_trans h.fr.size h1)
  · refine List.nodup_cons.2 ⟨fun hm => ?_, h.nd⟩
    have := (Array.getElem?_eq_some_iff.1 (h.ds D hm).1).1
    omega
  · intro E hE
    rcases List.mem_cons.1 hE with rfl | hE
    · exact ⟨hd, hn, Nat.le_trans h.fr.size hD⟩
    · exact ⟨hf.heap (h.ds E hE).1 (h.ds E hE).2.1, lt (h.ds E hE).1 (h.ds E hE).2.1, (h.ds E hE).2.2⟩
def mk (D : Nat) : Deferred := { target := .collected D, args := #[] }

theorem LpS.start {J : List Pt → (Nat → Prop) → World → Prop} {s : List Pt} {O O3 : Nat → Prop} {W w3 : World} {fd : Array Value} {i j : Int} {b : List UInt8} {l bf bi bj bb : Nat} (hst : Stab W.heap.size J) (hlt : ∀ s O A, J s O A → ∀ k, O k → k < A.heap.size) (hJ : J s O3 w3) (hf : Fr O W w3) (ho : ∀ k, O3 k → O k ∨ W.heap.size ≤ k)
    (hA : InA fd i j b l bf bi bj bb W.heap.size w3) (hn : ¬ O3 bf ∧ ¬ O3 bi ∧ ¬ O3 bj ∧ ¬ O3 bb ∧ ¬ O3 W.heap.size) :
    LpS J s O W fd i j b l bf bi bj bb w3.heap.size [] O3 (w3.alloc (.cells #[.int .u8 77, .int .u8 68, .int .u8 73] 5 (3, 4))) :=
  ⟨hst _ _ _ _ (fun _ => False) hJ (Fr.of_below (bl1 _ _)) (fun _ h => h.elim), hf.alloc _, ho, hA.next (bl1 _ _), hn, hp_at rfl, fun h => by have := hlt _ _ _ hJ _ h; omega, List.nodup_nil, fun D hD => by cases hD⟩

theorem w64 {x : Int} (h : -9223372036854775808 ≤ x ∧ x < 9223372036854775808) : wrap64 x = x := by unfold wrap64; omega
theorem RoundIn.inR {m m' l' : Nat} {P : Program} {l : Nat} {f : FuncId} {tmps : Array Value} {assign body : Code} {w : World} {R : Ending → World → Prop}
    (h : RoundIn Fence.wide m P l f tmps assign body w R) : RoundIn (Fence.wide.inRound l') m' P l f tmps assign body w R := RoundIn.any (m' := m') h
theorem enc_cons (c : UInt8) (hc : c = 77 ∨ c = 68 ∨ c = 73) (b : List UInt8) : Utf8.encode c.toNat ++ bs b = bs (c :: b) := by
  rcases hc with rfl | rfl | rfl
  · have : Utf8.encode (77 : UInt8).toNat = bs [77] := by decide
    rw [this]; apply ByteArray.ext; simp [bs, ByteArray.data_append]
  · have : Utf8.encode (68 : UInt8).toNat = bs [68] := by decide
    rw [this]; apply ByteArray.ext; simp [bs, ByteArray.data_append]
  · have : Utf8.encode (73 : UInt8).toNat = bs [73] := by decide
    rw [this]; apply ByteArray.ext; simp [bs, ByteArray.data_append]
theorem cat_cons (c : UInt8) (hc : c = 77 ∨ c = 68 ∨ c = 73) (b : List UInt8) (hb : b.length ≤ 1000) (W : World) : (Op.stringOp .add (Utf8.encode c.toNat) (bs b)).run Try.prog W = .ok (.string (bs (c :: b))) W := by
  have e := enc_cons c hc b
  have hs : (Utf8.encode c.toNat).size + (bs b).size ≤ 1000000000 := by
    rw [← ByteArray.size_append, e]; simp [bs, ByteArray.size]; omega
  rw [run_string_add_sum W _ _ (by omega), e]
def pBox (x : Pt) : Obj := .cells #[.int .i64 x.i, .int .i64 x.j, .string (bs x.cols)] 33

set_option maxRecDepth 100000 in
set_option maxHeartbeats 4000000 in
theorem into1_yes (m : Md) (sa : Option Addr) (sn sc : Nat) (ga : Option Addr) (gn gc : Nat) (xa : Option Addr) (xn xc : Nat) (ya : Option Addr) (yn yc : Nat) (i j : Int) (b : List UInt8) (bf bi bj bb l : Nat) (W : World)
    (hx : xn ≤ maxLen) (hy : yn ≤ maxLen) (hg : m.gaps.length = gn) (hi : i ≤ 1000000) (hj : j ≤ 1000000)
    (h1 : W.heap[bf]? = some (.cells (fdCells m sa sn sc ga gn gc xa xn xc ya yn yc) 55 (0, 0))) (h2 : W.heap[bi]? = some (.cells #[.int .i64 i] 3 (0, 0))) (h3 : W.heap[bj]? = some (.cells #[.int .i64 j] 3 (0, 0))) (h4 : W.heap[bb]? = some (.cells #[.string (bs b)] 9 (0, 0))) (hh : hasB m xn yn i j = true)
    (J : List Pt → (Nat → Prop) → World → Prop) (O : Nat → Prop) (n : Nat) (hC : ∀ k, (k = bf ∨ k = bi ∨ k = bj ∨ k = bb) → ¬ O k) (hst : Stab W.heap.size J) (hlt : ∀ s O A, J s O A → ∀ k, O k → k < A.heap.size)
    (hY : ∀ pre x post O W1, intoF m xn yn (n + 1) i j b = pre ++ x :: post → J pre O W1 → YieldAt Fence.wide 0 Try.prog l (encP x) W1 fun e W' => e = .returned (.bool true) ∧ RoundOk J (pre ++ [x]) O W1 W')
    (h0 : J [] O W) (hbl0 : b.length ≤ 1000)
    (hI : ∀ c : UInt8, c = 77 ∨ c = 68 ∨ c = 73 → ∀ (bf' bi' bj' bb' : Nat) (W' : World), W'.heap[bf']? = some (.cells (fdCells m sa sn sc ga gn gc xa xn xc ya yn yc) 55 (0, 0)) → W'.heap[bi']? = some (.cells #[.int .i64 (i - dnB c)] 3 (0, 0)) → W'.heap[bj']? = some (.cells #[.int .i64 (j - ovB c)] 3 (0, 0)) → W'.heap[bb']? = some (.cells #[.string (bs (c :: b))] 9 (0, 0)) →
      Gives Try.prog 65 #[.pointer (some ⟨bf', 0, none⟩), .pointer (some ⟨bi', 0, none⟩), .pointer (some ⟨bj', 0, none⟩), .pointer (some ⟨bb', 0, none⟩)] encP (intoF m xn yn n (i - dnB c) (j - ovB c) (c :: b)) (fun k => k = bf' ∨ k = bi' ∨ k = bj' ∨ k = bb') W') :
    CallsIn Fence.wide 0 Try.prog 65 #[.func (.yield l) #[] #[], .pointer (some ⟨bf, 0, none⟩), .pointer (some ⟨bi, 0, none⟩), .pointer (some ⟨bj, 0, none⟩), .pointer (some ⟨bb, 0, none⟩)] W fun e W' => (∃ v, e = .returned v) ∧ RoundOk J (intoF m xn yn (n + 1) i j b) O W W' := by
  have hij := hasB_cells hh
  have hxs := intoF_yes (n := n) (b := b) hh
  have hOW : ¬ O W.heap.size := fun h => by have := hlt _ _ _ h0 _ h; omega
  have hA := inA_start (l := l) h1 h2 h3 h4
  have hbl := bl1 W (.cells #[.func (.yield l) #[] #[]] 58)
  obtain ⟨c0, c1, c2, c3, c4, c5, c6, c7, c8, c9, c10, c11⟩ := fdC_of hA.f; have ci := cell_block hA.i 0 _ rfl; have cj := cell_block hA.j 0 _ rfl; have cb := cell_block hA.b 0 _ rfl; have cy := cell_block hA.y 0 _ rfl
  obtain ⟨bg, hbg⟩ : ∃ bg, beginB m i j = bg := ⟨_, rfl⟩
  have hcv := conv89
  refine callsIn_of_wp_marks Try.func65 rfl trivial ?_ rfl
  simp only [Try.ntmps65, List.size_toArray, List.length_cons, List.length_nil, Nat.reduceAdd, Nat.reduceSub, Array.replicate_succ, Array.replicate_zero, List.push_toArray, List.append_toArray, List.nil_append, List.cons_append]
  gi_wp2_with (first
    | (refine ⟨trivial, rfl, ?_⟩; gi_at_call 45; refine (callsIn_wide.2 (has_calls m sa sn sc ga gn gc xa xn xc ya yn yc i j _ hx hy)).mono ?_; rintro e w1 ⟨rfl, hb1⟩; rw [hh]; have hA1 := hA.next hb1; have hbl1 := hbl.trans (hb1.mono (by simp)); obtain ⟨d0, d1, d2, d3, d4, d5, d6, d7, d8, d9, d10, d11⟩ := fdC_of hA1.f; have di := cell_block hA1.i 0 _ rfl; have dj := cell_block hA1.j 0 _ rfl; have db := cell_block hA1.b 0 _ rfl; have dy := cell_block hA1.y 0 _ rfl)
    | (refine ⟨trivial, rfl, ?_⟩; gi_at_call 46; refine (callsIn_wide.2 (mayBegin_calls m sa sn sc ga gn gc xa xn xc ya yn yc i j _)).mono ?_; rintro e w2 ⟨rfl, hb2⟩; rw [hbg]; have hA2 := hA1.next hb2; have hbl2 := hbl1.trans (hb2.mono hbl1.size); obtain ⟨e0, e1, e2, e3, e4, e5, e6, e7, e8, e9, e10, e11⟩ := fdC_of hA2.f; have ei := cell_block hA2.i 0 _ rfl; have ej := cell_block hA2.j 0 _ rfl; have eb := cell_block hA2.b 0 _ rfl; have ey := cell_block hA2.y 0 _ rfl; have hJ2 : J [] O w2 := hst _ _ _ _ (fun _ => False) h0 (Fr.of_below hbl2) (fun _ h => h.elim); have hsp : bg = false ∨ (bg = true ∧ YieldAt Fence.wide 0 Try.prog l (encP ⟨i, j, b⟩) w2 fun e W' => e = .returned (.bool true) ∧ RoundOk J ([] ++ [⟨i, j, b⟩]) O w2 W') := (by cases bg; exact .inl rfl; exact .inr ⟨rfl, hY [] _ _ O w2 (by rw [hxs]; simp only [begL, hbg, if_true]; rfl) hJ2⟩); rcases hsp with rfl | ⟨rfl, fn, tmps, assign, body, hy2, hR⟩; try simp only [encP, ptV] at hy2))
  case h_2 =>
    refine ⟨fun _ h => (by cases h), ?_⟩
    gi_wp2
    have hL0 := LpS.start (fd := fdCells m sa sn sc ga gn gc xa xn xc ya yn yc) (l := l) (s := begL m i j b ++ []) hst hlt (by simpa [begL, hbg] using hJ2) (Fr.of_below hbl2) (fun k h => .inl h) hA2 ⟨hC _ (by simp), hC _ (by simp), hC _ (by simp), hC _ (by simp), hOW⟩
    generalize w2.heap.size = bm at hL0 ⊢
    refine wpIn_loop (fun a w => ∃ (k : Nat) (ds : List Nat) (Ok : Nat → Prop) (u0 u6 u7 u8 u9 u10 u11 u12 u13 u14 u15 u16 u17 u18 u19 u20 u21 u22 u23 u24 u25 u26 u27 u28 u29 u33 u34 u35 u36 u37 u38 u39 u40 u41 u42 u43 u44 u45 u46 u47 u48 u49 u50 u51 u52 u53 u54 u55 u56 u57 u58 u59 u60 u61 u62 : Value), a = { tmps := #[u0, .pointer (some ⟨bf, 0, none⟩), .pointer (some ⟨bi, 0, none⟩), .pointer (some ⟨bj, 0, none⟩), .pointer (some ⟨bb, 0, none⟩), .pointer (some ⟨W.heap.size, 0, none⟩), u6, u7, u8, u9, u10, u11, u12, u13, u14, u15, u16, u17, u18, u19, u20, u21, u22, u23, u24, u25, u26, u27, u28, u29, .slice (some ⟨bm, 0, none⟩) 3 3, .int .i64 3, .int .i64 (k : Int), u33, u34, u35, u36, u37, u38, u39, u40, u41, u42, u43, u44, u45, u46, u47, u48, u49, u50, u51, u52, u53, u54, u55, u56, u57, u58, u59, u60, u61, u62], defers := ds.map mk } ∧ k ≤ 3 ∧ LpS J (begL m i j b ++ (mdi.take k).flatMap (partB m xn yn n i j b)) O W (fdCells m sa sn sc ga gn gc xa xn xc ya yn yc) i j b l bf bi bj bb bm ds Ok w) (fun a _ => 3 - (intOf (a.tmps.getD 32 undef)).toNat) ?_ ?_
    · exact ⟨0, [], O, _, _, _, _, _, _, _, _, _, _, _, _, _, _, _, _, _, _, _, _, _, _, _, _, _, _, _, _, _, _, _, _, _, _, _, _, _, _, _, _, _, _, _, _, _, _, _, _, _, _, _, _, _, _, _, rfl, by omega, hL0⟩
    · clear hL0
      rintro a wr ⟨k, ds, Ok, u0, u6, u7, u8, u9, u10, u11, u12, u13, u14, u15, u16, u17, u18, u19, u20, u21, u22, u23, u24, u25, u26, u27, u28, u29, u33, u34, u35, u36, u37, u38, u39, u40, u41, u42, u43, u44, u45, u46, u47, u48, u49, u50, u51, u52, u53, u54, u55, u56, u57, u58, u59, u60, u61, u62, rfl, hk, hL⟩
      have hcs : k = 0 ∨ k = 1 ∨ k = 2 ∨ k = 3 := by omega
      rcases hcs with rfl | rfl | rfl | rfl
      · have hm0 := cell_block hL.m 0 _ rfl
        obtain ⟨f0, f1, f2, f3, f4, f5, f6, f7, f8, f9, f10, f11⟩ := fdC_of hL.A.f; have fi := cell_block hL.A.i 0 _ rfl; have fj := cell_block hL.A.j 0 _ rfl; have fb := cell_block hL.A.b 0 _ rfl; have fy := cell_block hL.A.y 0 _ rfl
        obtain ⟨go, hgo⟩ : ∃ go, goB m 77 = go := ⟨_, rfl⟩
        have hcat : ∀ W, (Op.stringOp .add (Utf8.encode 77) (bs b)).run Try.prog W = .ok (.string (bs (77 :: b))) W := cat_cons 77 (by simp) b hbl0
        have hwi : wrap64 (i - dnB 77) = i - dnB 77 := w64 (by simp [dnB]; omega)
        have hwj : wrap64 (j - ovB 77) = j - ovB 77 := w64 (by simp [ovB]; omega)
        gi_wp2_with (first
          | (refine ⟨trivial, rfl, ?_⟩; gi_at_call 48; refine (callsIn_wide.2 (mayGo_calls m sa sn sc ga gn gc xa xn xc ya yn yc 77 _ hg)).mono ?_; rintro e w4 ⟨rfl, hb4⟩; rw [hgo]; replace hL := hL.next hst hb4; obtain ⟨g0, g1, g2, g3, g4, g5, g6, g7, g8, g9, g10, g11⟩ := fdC_of hL.A.f; have gi := cell_block hL.A.i 0 _ rfl; have gj := cell_block hL.A.j 0 _ rfl; have gb := cell_block hL.A.b 0 _ rfl; have gy := cell_block hL.A.y 0 _ rfl; cases go)
          | (refine ⟨trivial, rfl, ?_⟩; gi_at_call 47; refine (callsIn_wide.2 (step_calls 77 _)).mono ?_; rintro e w5 ⟨rfl, rfl⟩))
        · refine ⟨⟨1, ds, Ok, _, _, _, _, _, _, _, _, _, _, _, _, _, _, _, _, _, _, _, _, _, _, _, _, _, _, _, _, _, _, _, _, _, _, _, _, _, _, _, _, _, _, _, _, _, _, _, _, _, _, _, _, _, _, _, rfl, by omega, ?_⟩, by simp [intOf]⟩
          have hp : partB m xn yn n i j b 77 = [] := by simp [partB, hgo]
          simpa [mdi, hp] using hL
        · refine ⟨trivial, rfl, ?_⟩
          refine (callsIn_wide.2 (into_calls m sa sn sc ga gn gc xa xn xc ya yn yc (i - dnB 77) (j - ovB 77) (77 :: b) _)).mono ?_
          rintro e w6 ⟨bf', bi', bj', bb', rfl, hb6, hge, hbf', hbi', hbj', hbb'⟩
          have hL4 := hL
          replace hL := hL.next hst hb6
          gi_wp2
          have hlt4 : ∀ k, Ok k → k < w4.heap.size := fun k h => hlt _ _ _ hL4.hJ _ h
          have hp : partB m xn yn n i j b 77 = intoF m xn yn n (i - dnB 77) (j - ovB 77) (77 :: b) := by simp [partB, hgo]
          refine rf_law (gf := 65) (encs := encP) (xs := partB m xn yn n i j b 77) (C := fun k => k = bf' ∨ k = bi' ∨ k = bj' ∨ k = bb') rfl (enters_of Try.func65 (by kernel_rfl) rfl) (fun _ => rfl)
            (fun W' hb' => by rw [hp]; exact hI 77 (by simp) bf' bi' bj' bb' W' ((Fr.of_below (O := fun _ => False) hb').heap hbf' (fun h => h)) ((Fr.of_below (O := fun _ => False) hb').heap hbi' (fun h => h)) ((Fr.of_below (O := fun _ => False) hb').heap hbj' (fun h => h)) ((Fr.of_below (O := fun _ => False) hb').heap hbb' (fun h => h)))
            (fun pre Oq Wq => J (begL m i j b ++ (mdi.take 0).flatMap (partB m xn yn n i j b) ++ pre) Oq Wq ∧ Wq.heap[W.heap.size]? = some (.cells #[.func (.yield l) #[] #[]] 58 (0, 0)) ∧ ¬ Oq W.heap.size) Ok
            (fun s Oq A h => hlt _ _ _ h.1) (fun q hq => ⟨?_, fun ho => ?_⟩) (fun s Oq A B T h hf hT => ⟨(hst.mono hL.fr.size) _ _ _ _ _ h.1 hf hT, hf.heap h.2.1 (fun ht => by have := (hT _ ht).1; have := (Array.getElem?_eq_some_iff.1 hL.A.y).1; omega), h.2.2⟩) ⟨by simpa using hL.hJ, hL.A.y, hL.nA.2.2.2.2⟩ pBox ?_ ?_
          · rcases hq with rfl | rfl | rfl | rfl
            · exact (Array.getElem?_eq_some_iff.1 hbf').1
            · exact (Array.getElem?_eq_some_iff.1 hbi').1
            · exact (Array.getElem?_eq_some_iff.1 hbj').1
            · exact (Array.getElem?_eq_some_iff.1 hbb').1
          · have := hlt4 _ ho
            rcases hq with rfl | rfl | rfl | rfl <;> omega
          · intro l' pre x post Oq Wq hxp hKq hnl hle
            simp only [encP, ptV]
            gi_wp2
            refine ⟨rfl, ?_⟩
            rintro W2 ⟨hJq, hyq, hnq⟩ hbx hnb
            have hx0 := cell_block hbx 0 _ rfl
            have hx1 := cell_block hbx 1 _ rfl
            have hx2 := cell_block hbx 2 _ rfl
            have hyc := cell_block hyq 0 _ rfl
            obtain ⟨fn', tmps', assign', body', hyy, hR'⟩ := hY (begL m i j b ++ (mdi.take 0).flatMap (partB m xn yn n i j b) ++ pre) x (post ++ (mdi.drop 1).flatMap (partB m xn yn n i j b)) Oq W2 (by rw [hxs]; simp [mdi] at hxp ⊢; rw [hxp]; try simp) hJq
            simp only [encP, ptV] at hyy
            gi_wp2
            refine ⟨rfl, ?_⟩
            refine (RoundIn.inR hR').mono ?_
            rintro e W3 ⟨rfl, O', hJ', hf', ho'⟩
            gi_wp2
            refine ⟨O', ⟨by simpa using hJ', hf'.heap hyq hnq, fun h => ?_⟩, hf', ho'⟩
            rcases ho' _ h with h | h
            · exact hnq h
            · have := (Array.getElem?_eq_some_iff.1 hyq).1; omega
          · rintro D O' W' hD ⟨hJ', hy', hn'⟩ hd hnD hf' ho'
            gi_wp2
            have hL' := hL.done hD hJ' hd hnD hf' ho'
            refine ⟨⟨1, D :: ds, O', _, _, _, _, _, _, _, _, _, _, _, _, _, _, _, _, _, _, _, _, _, _, _, _, _, _, _, _, _, _, _, _, _, _, _, _, _, _, _, _, _, _, _, _, _, _, _, _, _, _, _, _, _, _, _, rfl, by omega, ?_⟩, by simp [intOf]⟩
            simpa [mdi] using hL'
      · have hm1 := cell_block hL.m 1 _ rfl
        obtain ⟨f0, f1, f2, f3, f4, f5, f6, f7, f8, f9, f10, f11⟩ := fdC_of hL.A.f; have fi := cell_block hL.A.i 0 _ rfl; have fj := cell_block hL.A.j 0 _ rfl; have fb := cell_block hL.A.b 0 _ rfl; have fy := cell_block hL.A.y 0 _ rfl
        obtain ⟨go, hgo⟩ : ∃ go, goB m 68 = go := ⟨_, rfl⟩
        have hcat : ∀ W, (Op.stringOp .add (Utf8.encode 68) (bs b)).run Try.prog W = .ok (.string (bs (68 :: b))) W := cat_cons 68 (by simp) b hbl0
        have hwi : wrap64 (i - dnB 68) = i - dnB 68 := w64 (by simp [dnB]; omega)
        have hwj : wrap64 (j - ovB 68) = j - ovB 68 := w64 (by simp [ovB]; omega)
        gi_wp2_with (first
          | (refine ⟨trivial, rfl, ?_⟩; gi_at_call 48; refine (callsIn_wide.2 (mayGo_calls m sa sn sc ga gn gc xa xn xc ya yn yc 68 _ hg)).mono ?_; rintro e w4 ⟨rfl, hb4⟩; rw [hgo]; replace hL := hL.next hst hb4; obtain ⟨g0, g1, g2, g3, g4, g5, g6, g7, g8, g9, g10, g11⟩ := fdC_of hL.A.f; have gi := cell_block hL.A.i 0 _ rfl; have gj := cell_block hL.A.j 0 _ rfl; have gb := cell_block hL.A.b 0 _ rfl; have gy := cell_block hL.A.y 0 _ rfl; cases go)
          | (refine ⟨trivial, rfl, ?_⟩; gi_at_call 47; refine (callsIn_wide.2 (step_calls 68 _)).mono ?_; rintro e w5 ⟨rfl, rfl⟩))
        · refine ⟨⟨2, ds, Ok, _, _, _, _, _, _, _, _, _, _, _, _, _, _, _, _, _, _, _, _, _, _, _, _, _, _, _, _, _, _, _, _, _, _, _, _, _, _, _, _, _, _, _, _, _, _, _, _, _, _, _, _, _, _, _, rfl, by omega, ?_⟩, by simp [intOf]⟩
          have hp : partB m xn yn n i j b 68 = [] := by simp [partB, hgo]
          simpa [mdi, hp] using hL
        · refine ⟨trivial, rfl, ?_⟩
          refine (callsIn_wide.2 (into_calls m sa sn sc ga gn gc xa xn xc ya yn yc (i - dnB 68) (j - ovB 68) (68 :: b) _)).mono ?_
          rintro e w6 ⟨bf', bi', bj', bb', rfl, hb6, hge, hbf', hbi', hbj', hbb'⟩
          have hL4 := hL
          replace hL := hL.next hst hb6
          gi_wp2
          have hlt4 : ∀ k, Ok k → k < w4.heap.size := fun k h => hlt _ _ _ hL4.hJ _ h
          have hp : partB m xn yn n i j b 68 = intoF m xn yn n (i - dnB 68) (j - ovB 68) (68 :: b) := by simp [partB, hgo]
          refine rf_law (gf := 65) (encs := encP) (xs := partB m xn yn n i j b 68) (C := fun k => k = bf' ∨ k = bi' ∨ k = bj' ∨ k = bb') rfl (enters_of Try.func65 (by kernel_rfl) rfl) (fun _ => rfl)
            (fun W' hb' => by rw [hp]; exact hI 68 (by simp) bf' bi' bj' bb' W' ((Fr.of_below (O := fun _ => False) hb').heap hbf' (fun h => h)) ((Fr.of_below (O := fun _ => False) hb').heap hbi' (fun h => h)) ((Fr.of_below (O := fun _ => False) hb').heap hbj' (fun h => h)) ((Fr.of_below (O := fun _ => False) hb').heap hbb' (fun h => h)))
            (fun pre Oq Wq => J (begL m i j b ++ (mdi.take 1).flatMap (partB m xn yn n i j b) ++ pre) Oq Wq ∧ Wq.heap[W.heap.size]? = some (.cells #[.func (.yield l) #[] #[]] 58 (0, 0)) ∧ ¬ Oq W.heap.size) Ok
            (fun s Oq A h => hlt _ _ _ h.1) (fun q hq => ⟨?_, fun ho => ?_⟩) (fun s Oq A B T h hf hT => ⟨(hst.mono hL.fr.size) _ _ _ _ _ h.1 hf hT, hf.heap h.2.1 (fun ht => by have := (hT _ ht).1; have := (Array.getElem?_eq_some_iff.1 hL.A.y).1; omega), h.2.2⟩) ⟨by simpa using hL.hJ, hL.A.y, hL.nA.2.2.2.2⟩ pBox ?_ ?_
          · rcases hq with rfl | rfl | rfl | rfl
            · exact (Array.getElem?_eq_some_iff.1 hbf').1
            · exact (Array.getElem?_eq_some_iff.1 hbi').1
            · exact (Array.getElem?_eq_some_iff.1 hbj').1
            · exact (Array.getElem?_eq_some_iff.1 hbb').1
          · have := hlt4 _ ho
            rcases hq with rfl | rfl | rfl | rfl <;> omega
          · intro l' pre x post Oq Wq hxp hKq hnl hle
            simp only [encP, ptV]
            gi_wp2
            refine ⟨rfl, ?_⟩
            rintro W2 ⟨hJq, hyq, hnq⟩ hbx hnb
            have hx0 := cell_block hbx 0 _ rfl
            have hx1 := cell_block hbx 1 _ rfl
            have hx2 := cell_block hbx 2 _ rfl
            have hyc := cell_block hyq 0 _ rfl
            obtain ⟨fn', tmps', assign', body', hyy, hR'⟩ := hY (begL m i j b ++ (mdi.take 1).flatMap (partB m xn yn n i j b) ++ pre) x (post ++ (mdi.drop 2).flatMap (partB m xn yn n i j b)) Oq W2 (by rw [hxs]; simp [mdi] at hxp ⊢; rw [hxp]; try simp) hJq
            simp only [encP, ptV] at hyy
            gi_wp2
            refine ⟨rfl, ?_⟩
            refine (RoundIn.inR hR').mono ?_
            rintro e W3 ⟨rfl, O', hJ', hf', ho'⟩
            gi_wp2
            refine ⟨O', ⟨by simpa using hJ', hf'.heap hyq hnq, fun h => ?_⟩, hf', ho'⟩
            rcases ho' _ h with h | h
            · exact hnq h
            · have := (Array.getElem?_eq_some_iff.1 hyq).1; omega
          · rintro D O' W' hD ⟨hJ', hy', hn'⟩ hd hnD hf' ho'
            gi_wp2
            have hL' := hL.done hD hJ' hd hnD hf' ho'
            refine ⟨⟨2, D :: ds, O', _, _, _, _, _, _, _, _, _, _, _, _, _, _, _, _, _, _, _, _, _, _, _, _, _, _, _, _, _, _, _, _, _, _, _, _, _, _, _, _, _, _, _, _, _, _, _, _, _, _, _, _, _, _, _, rfl, by omega, ?_⟩, by simp [intOf]⟩
            simpa [mdi] using hL'
      · have hm2 := cell_block hL.m 2 _ rfl
        obtain ⟨f0, f1, f2, f3, f4, f5, f6, f7, f8, f9, f10, f11⟩ := fdC_of hL.A.f; have fi := cell_block hL.A.i 0 _ rfl; have fj := cell_block hL.A.j 0 _ rfl; have fb := cell_block hL.A.b 0 _ rfl; have fy := cell_block hL.A.y 0 _ rfl
        obtain ⟨go, hgo⟩ : ∃ go, goB m 73 = go := ⟨_, rfl⟩
        have hcat : ∀ W, (Op.stringOp .add (Utf8.encode 73) (bs b)).run Try.prog W = .ok (.string (bs (73 :: b))) W := cat_cons 73 (by simp) b hbl0
        have hwi : wrap64 (i - dnB 73) = i - dnB 73 := w64 (by simp [dnB]; omega)
        have hwj : wrap64 (j - ovB 73) = j - ovB 73 := w64 (by simp [ovB]; omega)
        gi_wp2_with (first
          | (refine ⟨trivial, rfl, ?_⟩; gi_at_call 48; refine (callsIn_wide.2 (mayGo_calls m sa sn sc ga gn gc xa xn xc ya yn yc 73 _ hg)).mono ?_; rintro e w4 ⟨rfl, hb4⟩; rw [hgo]; replace hL := hL.next hst hb4; obtain ⟨g0, g1, g2, g3, g4, g5, g6, g7, g8, g9, g10, g11⟩ := fdC_of hL.A.f; have gi := cell_block hL.A.i 0 _ rfl; have gj := cell_block hL.A.j 0 _ rfl; have gb := cell_block hL.A.b 0 _ rfl; have gy := cell_block hL.A.y 0 _ rfl; cases go)
          | (refine ⟨trivial, rfl, ?_⟩; gi_at_call 47; refine (callsIn_wide.2 (step_calls 73 _)).mono ?_; rintro e w5 ⟨rfl, rfl⟩))
        · refine ⟨⟨3, ds, Ok, _, _, _, _, _, _, _, _, _, _, _, _, _, _, _, _, _, _, _, _, _, _, _, _, _, _, _, _, _, _, _, _, _, _, _, _, _, _, _, _, _, _, _, _, _, _, _, _, _, _, _, _, _, _, _, rfl, by omega, ?_⟩, by simp [intOf]⟩
          have hp : partB m xn yn n i j b 73 = [] := by simp [partB, hgo]
          simpa [mdi, hp] using hL
        · refine ⟨trivial, rfl, ?_⟩
          refine (callsIn_wide.2 (into_calls m sa sn sc ga gn gc xa xn xc ya yn yc (i - dnB 73) (j - ovB 73) (73 :: b) _)).mono ?_
          rintro e w6 ⟨bf', bi', bj', bb', rfl, hb6, hge, hbf', hbi', hbj', hbb'⟩
          have hL4 := hL
          replace hL := hL.next hst hb6
          gi_wp2
          have hlt4 : ∀ k, Ok k → k < w4.heap.size := fun k h => hlt _ _ _ hL4.hJ _ h
          have hp : partB m xn yn n i j b 73 = intoF m xn yn n (i - dnB 73) (j - ovB 73) (73 :: b) := by simp [partB, hgo]
          refine rf_law (gf := 65) (encs := encP) (xs := partB m xn yn n i j b 73) (C := fun k => k = bf' ∨ k = bi' ∨ k = bj' ∨ k = bb') rfl (enters_of Try.func65 (by kernel_rfl) rfl) (fun _ => rfl)
            (fun W' hb' => by rw [hp]; exact hI 73 (by simp) bf' bi' bj' bb' W' ((Fr.of_below (O := fun _ => False) hb').heap hbf' (fun h => h)) ((Fr.of_below (O := fun _ => False) hb').heap hbi' (fun h => h)) ((Fr.of_below (O := fun _ => False) hb').heap hbj' (fun h => h)) ((Fr.of_below (O := fun _ => False) hb').heap hbb' (fun h => h)))
            (fun pre Oq Wq => J (begL m i j b ++ (mdi.take 2).flatMap (partB m xn yn n i j b) ++ pre) Oq Wq ∧ Wq.heap[W.heap.size]? = some (.cells #[.func (.yield l) #[] #[]] 58 (0, 0)) ∧ ¬ Oq W.heap.size) Ok
            (fun s Oq A h => hlt _ _ _ h.1) (fun q hq => ⟨?_, fun ho => ?_⟩) (fun s Oq A B T h hf hT => ⟨(hst.mono hL.fr.size) _ _ _ _ _ h.1 hf hT, hf.heap h.2.1 (fun ht => by have := (hT _ ht).1; have := (Array.getElem?_eq_some_iff.1 hL.A.y).1; omega), h.2.2⟩) ⟨by simpa using hL.hJ, hL.A.y, hL.nA.2.2.2.2⟩ pBox ?_ ?_
          · rcases hq with rfl | rfl | rfl | rfl
            · exact (Array.getElem?_eq_some_iff.1 hbf').1
            · exact (Array.getElem?_eq_some_iff.1 hbi').1
            · exact (Array.getElem?_eq_some_iff.1 hbj').1
            · exact (Array.getElem?_eq_some_iff.1 hbb').1
          · have := hlt4 _ ho
            rcases hq with rfl | rfl | rfl | rfl <;> omega
          · intro l' pre x post Oq Wq hxp hKq hnl hle
            simp only [encP, ptV]
            gi_wp2
            refine ⟨rfl, ?_⟩
            rintro W2 ⟨hJq, hyq, hnq⟩ hbx hnb
            have hx0 := cell_block hbx 0 _ rfl
            have hx1 := cell_block hbx 1 _ rfl
            have hx2 := cell_block hbx 2 _ rfl
            have hyc := cell_block hyq 0 _ rfl
            obtain ⟨fn', tmps', assign', body', hyy, hR'⟩ := hY (begL m i j b ++ (mdi.take 2).flatMap (partB m xn yn n i j b) ++ pre) x (post ++ (mdi.drop 3).flatMap (partB m xn yn n i j b)) Oq W2 (by rw [hxs]; simp [mdi] at hxp ⊢; rw [hxp]; try simp) hJq
            simp only [encP, ptV] at hyy
            gi_wp2
            refine ⟨rfl, ?_⟩
            refine (RoundIn.inR hR').mono ?_
            rintro e W3 ⟨rfl, O', hJ', hf', ho'⟩
            gi_wp2
            refine ⟨O', ⟨by simpa using hJ', hf'.heap hyq hnq, fun h => ?_⟩, hf', ho'⟩
            rcases ho' _ h with h | h
            · exact hnq h
            · have := (Array.getElem?_eq_some_iff.1 hyq).1; omega
          · rintro D O' W' hD ⟨hJ', hy', hn'⟩ hd hnD hf' ho'
            gi_wp2
            have hL' := hL.done hD hJ' hd hnD hf' ho'
            refine ⟨⟨3, D :: ds, O', _, _, _, _, _, _, _, _, _, _, _, _, _, _, _, _, _, _, _, _, _, _, _, _, _, _, _, _, _, _, _, _, _, _, _, _, _, _, _, _, _, _, _, _, _, _, _, _, _, _, _, _, _, _, _, rfl, by omega, ?_⟩, by simp [intOf]⟩
            simpa [mdi] using hL'
      · gi_wp2
        refine leaves_marks ds wr hL.nd (fun D hD => (hL.ds D hD).1) (fun W' hf => ⟨_, results_none rfl _ _ _, ⟨_, rfl⟩, Ok, ?_, ?_, hL.ok⟩)
        · rw [hxs]
          exact hst _ _ _ _ _ hL.hJ hf (fun D hD => ⟨(hL.ds D hD).2.2, (hL.ds D hD).2.1⟩)
        · exact hL.fr.trans hf (fun D hD => .inr (hL.ds D hD).2.2)
  · simp only [encP, ptV] at hy2
    rw [hy2, Oper.uponIn_round]
    refine ⟨hdd _, ?_⟩
    refine (RoundIn.any hR).mono ?_
    rintro e w3 ⟨rfl, O3, hJ3, hf3, ho3⟩
    gi_wp2
    have nk : ∀ (k : Nat) (o : Obj), w2.heap[k]? = some o → ¬ O k → ¬ O3 k := fun k o hk hn h => by
      rcases ho3 _ h with h | h
      · exact hn h
      · have := (Array.getElem?_eq_some_iff.1 hk).1; omega
    have hL0 := LpS.start (fd := fdCells m sa sn sc ga gn gc xa xn xc ya yn yc) (l := l) (s := begL m i j b ++ []) hst hlt (by simpa [begL, hbg] using hJ3) ((Fr.of_below (O := O) hbl2).trans hf3 (fun k h => .inl h)) (fun k h => by rcases ho3 k h with h | h; exact .inl h; exact .inr (Nat.le_trans hbl2.size h)) (hA2.keep hf3 ⟨hC _ (by simp), hC _ (by simp), hC _ (by simp), hC _ (by simp), hOW⟩) ⟨nk _ _ hA2.f (hC _ (by simp)), nk _ _ hA2.i (hC _ (by simp)), nk _ _ hA2.j (hC _ (by simp)), nk _ _ hA2.b (hC _ (by simp)), nk _ _ hA2.y hOW⟩
    generalize w3.heap.size = bm at hL0 ⊢
    refine wpIn_loop (fun a w => ∃ (k : Nat) (ds : List Nat) (Ok : Nat → Prop) (u0 u6 u7 u8 u9 u10 u11 u12 u13 u14 u15 u16 u17 u18 u19 u20 u21 u22 u23 u24 u25 u26 u27 u28 u29 u33 u34 u35 u36 u37 u38 u39 u40 u41 u42 u43 u44 u45 u46 u47 u48 u49 u50 u51 u52 u53 u54 u55 u56 u57 u58 u59 u60 u61 u62 : Value), a = { tmps := #[u0, .pointer (some ⟨bf, 0, none⟩), .pointer (some ⟨bi, 0, none⟩), .pointer (some ⟨bj, 0, none⟩), .pointer (some ⟨bb, 0, none⟩), .pointer (some ⟨W.heap.size, 0, none⟩), u6, u7, u8, u9, u10, u11, u12, u13, u14, u15, u16, u17, u18, u19, u20, u21, u22, u23, u24, u25, u26, u27, u28, u29, .slice (some ⟨bm, 0, none⟩) 3 3, .int .i64 3, .int .i64 (k : Int), u33, u34, u35, u36, u37, u38, u39, u40, u41, u42, u43, u44, u45, u46, u47, u48, u49, u50, u51, u52, u53, u54, u55, u56, u57, u58, u59, u60, u61, u62], defers := ds.map mk } ∧ k ≤ 3 ∧ LpS J (begL m i j b ++ (mdi.take k).flatMap (partB m xn yn n i j b)) O W (fdCells m sa sn sc ga gn gc xa xn xc ya yn yc) i j b l bf bi bj bb bm ds Ok w) (fun a _ => 3 - (intOf (a.tmps.getD 32 undef)).toNat) ?_ ?_
    · exact ⟨0, [], O3, _, _, _, _, _, _, _, _, _, _, _, _, _, _, _, _, _, _, _, _, _, _, _, _, _, _, _, _, _, _, _, _, _, _, _, _, _, _, _, _, _, _, _, _, _, _, _, _, _, _, _, _, _, _, _, rfl, by omega, hL0⟩
    · clear hL0
      rintro a wr ⟨k, ds, Ok, u0, u6, u7, u8, u9, u10, u11, u12, u13, u14, u15, u16, u17, u18, u19, u20, u21, u22, u23, u24, u25, u26, u27, u28, u29, u33, u34, u35, u36, u37, u38, u39, u40, u41, u42, u43, u44, u45, u46, u47, u48, u49, u50, u51, u52, u53, u54, u55, u56, u57, u58, u59, u60, u61, u62, rfl, hk, hL⟩
      have hcs : k = 0 ∨ k = 1 ∨ k = 2 ∨ k = 3 := by omega
      rcases hcs with rfl | rfl | rfl | rfl
      · have hm0 := cell_block hL.m 0 _ rfl
        obtain ⟨f0, f1, f2, f3, f4, f5, f6, f7, f8, f9, f10, f11⟩ := fdC_of hL.A.f; have fi := cell_block hL.A.i 0 _ rfl; have fj := cell_block hL.A.j 0 _ rfl; have fb := cell_block hL.A.b 0 _ rfl; have fy := cell_block hL.A.y 0 _ rfl
        obtain ⟨go, hgo⟩ : ∃ go, goB m 77 = go := ⟨_, rfl⟩
        have hcat : ∀ W, (Op.stringOp .add (Utf8.encode 77) (bs b)).run Try.prog W = .ok (.string (bs (77 :: b))) W := cat_cons 77 (by simp) b hbl0
        have hwi : wrap64 (i - dnB 77) = i - dnB 77 := w64 (by simp [dnB]; omega)
        have hwj : wrap64 (j - ovB 77) = j - ovB 77 := w64 (by simp [ovB]; omega)
        gi_wp2_with (first
          | (refine ⟨trivial, rfl, ?_⟩; gi_at_call 48; refine (callsIn_wide.2 (mayGo_calls m sa sn sc ga gn gc xa xn xc ya yn yc 77 _ hg)).mono ?_; rintro e w4 ⟨rfl, hb4⟩; rw [hgo]; replace hL := hL.next hst hb4; obtain ⟨g0, g1, g2, g3, g4, g5, g6, g7, g8, g9, g10, g11⟩ := fdC_of hL.A.f; have gi := cell_block hL.A.i 0 _ rfl; have gj := cell_block hL.A.j 0 _ rfl; have gb := cell_block hL.A.b 0 _ rfl; have gy := cell_block hL.A.y 0 _ rfl; cases go)
          | (refine ⟨trivial, rfl, ?_⟩; gi_at_call 47; refine (callsIn_wide.2 (step_calls 77 _)).mono ?_; rintro e w5 ⟨rfl, rfl⟩))
        · refine ⟨⟨1, ds, Ok, _, _, _, _, _, _, _, _, _, _, _, _, _, _, _, _, _, _, _, _, _, _, _, _, _, _, _, _, _, _, _, _, _, _, _, _, _, _, _, _, _, _, _, _, _, _, _, _, _, _, _, _, _, _, _, rfl, by omega, ?_⟩, by simp [intOf]⟩
          have hp : partB m xn yn n i j b 77 = [] := by simp [partB, hgo]
          simpa [mdi, hp] using hL
        · refine ⟨trivial, rfl, ?_⟩
          refine (callsIn_wide.2 (into_calls m sa sn sc ga gn gc xa xn xc ya yn yc (i - dnB 77) (j - ovB 77) (77 :: b) _)).mono ?_
          rintro e w6 ⟨bf', bi', bj', bb', rfl, hb6, hge, hbf', hbi', hbj', hbb'⟩
          have hL4 := hL
          replace hL := hL.next hst hb6
          gi_wp2
          have hlt4 : ∀ k, Ok k → k < w4.heap.size := fun k h => hlt _ _ _ hL4.hJ _ h
          have hp : partB m xn yn n i j b 77 = intoF m xn yn n (i - dnB 77) (j - ovB 77) (77 :: b) := by simp [partB, hgo]
          refine rf_law (gf := 65) (encs := encP) (xs := partB m xn yn n i j b 77) (C := fun k => k = bf' ∨ k = bi' ∨ k = bj' ∨ k = bb') rfl (enters_of Try.func65 (by kernel_rfl) rfl) (fun _ => rfl)
            (fun W' hb' => by rw [hp]; exact hI 77 (by simp) bf' bi' bj' bb' W' ((Fr.of_below (O := fun _ => False) hb').heap hbf' (fun h => h)) ((Fr.of_below (O := fun _ => False) hb').heap hbi' (fun h => h)) ((Fr.of_below (O := fun _ => False) hb').heap hbj' (fun h => h)) ((Fr.of_below (O := fun _ => False) hb').heap hbb' (fun h => h)))
            (fun pre Oq Wq => J (begL m i j b ++ (mdi.take 0).flatMap (partB m xn yn n i j b) ++ pre) Oq Wq ∧ Wq.heap[W.heap.size]? = some (.cells #[.func (.yield l) #[] #[]] 58 (0, 0)) ∧ ¬ Oq W.heap.size) Ok
            (fun s Oq A h => hlt _ _ _ h.1) (fun q hq => ⟨?_, fun ho => ?_⟩) (fun s Oq A B T h hf hT => ⟨(hst.mono hL.fr.size) _ _ _ _ _ h.1 hf hT, hf.heap h.2.1 (fun ht => by have := (hT _ ht).1; have := (Array.getElem?_eq_some_iff.1 hL.A.y).1; omega), h.2.2⟩) ⟨by simpa using hL.hJ, hL.A.y, hL.nA.2.2.2.2⟩ pBox ?_ ?_
          · rcases hq with rfl | rfl | rfl | rfl
            · exact (Array.getElem?_eq_some_iff.1 hbf').1
            · exact (Array.getElem?_eq_some_iff.1 hbi').1
            · exact (Array.getElem?_eq_some_iff.1 hbj').1
            · exact (Array.getElem?_eq_some_iff.1 hbb').1
          · have := hlt4 _ ho
            rcases hq with rfl | rfl | rfl | rfl <;> omega
          · intro l' pre x post Oq Wq hxp hKq hnl hle
            simp only [encP, ptV]
            gi_wp2
            refine ⟨rfl, ?_⟩
            rintro W2 ⟨hJq, hyq, hnq⟩ hbx hnb
            have hx0 := cell_block hbx 0 _ rfl
            have hx1 := cell_block hbx 1 _ rfl
            have hx2 := cell_block hbx 2 _ rfl
            have hyc := cell_block hyq 0 _ rfl
            obtain ⟨fn', tmps', assign', body', hyy, hR'⟩ := hY (begL m i j b ++ (mdi.take 0).flatMap (partB m xn yn n i j b) ++ pre) x (post ++ (mdi.drop 1).flatMap (partB m xn yn n i j b)) Oq W2 (by rw [hxs]; simp [mdi] at hxp ⊢; rw [hxp]; try simp) hJq
            simp only [encP, ptV] at hyy
            gi_wp2
            refine ⟨rfl, ?_⟩
            refine (RoundIn.inR hR').mono ?_
            rintro e W3 ⟨rfl, O', hJ', hf', ho'⟩
            gi_wp2
            refine ⟨O', ⟨by simpa using hJ', hf'.heap hyq hnq, fun h => ?_⟩, hf', ho'⟩
            rcases ho' _ h with h | h
            · exact hnq h
            · have := (Array.getElem?_eq_some_iff.1 hyq).1; omega
          · rintro D O' W' hD ⟨hJ', hy', hn'⟩ hd hnD hf' ho'
            gi_wp2
            have hL' := hL.done hD hJ' hd hnD hf' ho'
            refine ⟨⟨1, D :: ds, O', _, _, _, _, _, _, _, _, _, _, _, _, _, _, _, _, _, _, _, _, _, _, _, _, _, _, _, _, _, _, _, _, _, _, _, _, _, _, _, _, _, _, _, _, _, _, _, _, _, _, _, _, _, _, _, rfl, by omega, ?_⟩, by simp [intOf]⟩
            simpa [mdi] using hL'
      · have hm1 := cell_block hL.m 1 _ rfl
        obtain ⟨f0, f1, f2, f3, f4, f5, f6, f7, f8, f9, f10, f11⟩ := fdC_of hL.A.f; have fi := cell_block hL.A.i 0 _ rfl; have fj := cell_block hL.A.j 0 _ rfl; have fb := cell_block hL.A.b 0 _ rfl; have fy := cell_block hL.A.y 0 _ rfl
        obtain ⟨go, hgo⟩ : ∃ go, goB m 68 = go := ⟨_, rfl⟩
        have hcat : ∀ W, (Op.stringOp .add (Utf8.encode 68) (bs b)).run Try.prog W = .ok (.string (bs (68 :: b))) W := cat_cons 68 (by simp) b hbl0
        have hwi : wrap64 (i - dnB 68) = i - dnB 68 := w64 (by simp [dnB]; omega)
        have hwj : wrap64 (j - ovB 68) = j - ovB 68 := w64 (by simp [ovB]; omega)
        gi_wp2_with (first
          | (refine ⟨trivial, rfl, ?_⟩; gi_at_call 48; refine (callsIn_wide.2 (mayGo_calls m sa sn sc ga gn gc xa xn xc ya yn yc 68 _ hg)).mono ?_; rintro e w4 ⟨rfl, hb4⟩; rw [hgo]; replace hL := hL.next hst hb4; obtain ⟨g0, g1, g2, g3, g4, g5, g6, g7, g8, g9, g10, g11⟩ := fdC_of hL.A.f; have gi := cell_block hL.A.i 0 _ rfl; have gj := cell_block hL.A.j 0 _ rfl; have gb := cell_block hL.A.b 0 _ rfl; have gy := cell_block hL.A.y 0 _ rfl; cases go)
          | (refine ⟨trivial, rfl, ?_⟩; gi_at_call 47; refine (callsIn_wide.2 (step_calls 68 _)).mono ?_; rintro e w5 ⟨rfl, rfl⟩))
        · refine ⟨⟨2, ds, Ok, _, _, _, _, _, _, _, _, _, _, _, _, _, _, _, _, _, _, _, _, _, _, _, _, _, _, _, _, _, _, _, _, _, _, _, _, _, _, _, _, _, _, _, _, _, _, _, _, _, _, _, _, _, _, _, rfl, by omega, ?_⟩, by simp [intOf]⟩
          have hp : partB m xn yn n i j b 68 = [] := by simp [partB, hgo]
          simpa [mdi, hp] using hL
        · refine ⟨trivial, rfl, ?_⟩
          refine (callsIn_wide.2 (into_calls m sa sn sc ga gn gc xa xn xc ya yn yc (i - dnB 68) (j - ovB 68) (68 :: b) _)).mono ?_
          rintro e w6 ⟨bf', bi', bj', bb', rfl, hb6, hge, hbf', hbi', hbj', hbb'⟩
          have hL4 := hL
          replace hL := hL.next hst hb6
          gi_wp2
          have hlt4 : ∀ k, Ok k → k < w4.heap.size := fun k h => hlt _ _ _ hL4.hJ _ h
          have hp : partB m xn yn n i j b 68 = intoF m xn yn n (i - dnB 68) (j - ovB 68) (68 :: b) := by simp [partB, hgo]
          refine rf_law (gf := 65) (encs := encP) (xs := partB m xn yn n i j b 68) (C := fun k => k = bf' ∨ k = bi' ∨ k = bj' ∨ k = bb') rfl (enters_of Try.func65 (by kernel_rfl) rfl) (fun _ => rfl)
            (fun W' hb' => by rw [hp]; exact hI 68 (by simp) bf' bi' bj' bb' W' ((Fr.of_below (O := fun _ => False) hb').heap hbf' (fun h => h)) ((Fr.of_below (O := fun _ => False) hb').heap hbi' (fun h => h)) ((Fr.of_below (O := fun _ => False) hb').heap hbj' (fun h => h)) ((Fr.of_below (O := fun _ => False) hb').heap hbb' (fun h => h)))
            (fun pre Oq Wq => J (begL m i j b ++ (mdi.take 1).flatMap (partB m xn yn n i j b) ++ pre) Oq Wq ∧ Wq.heap[W.heap.size]? = some (.cells #[.func (.yield l) #[] #[]] 58 (0, 0)) ∧ ¬ Oq W.heap.size) Ok
            (fun s Oq A h => hlt _ _ _ h.1) (fun q hq => ⟨?_, fun ho => ?_⟩) (fun s Oq A B T h hf hT => ⟨(hst.mono hL.fr.size) _ _ _ _ _ h.1 hf hT, hf.heap h.2.1 (fun ht => by have := (hT _ ht).1; have := (Array.getElem?_eq_some_iff.1 hL.A.y).1; omega), h.2.2⟩) ⟨by simpa using hL.hJ, hL.A.y, hL.nA.2.2.2.2⟩ pBox ?_ ?_
          · rcases hq with rfl | rfl | rfl | rfl
            · exact (Array.getElem?_eq_some_iff.1 hbf').1
            · exact (Array.getElem?_eq_some_iff.1 hbi').1
            · exact (Array.getElem?_eq_some_iff.1 hbj').1
            · exact (Array.getElem?_eq_some_iff.1 hbb').1
          · have := hlt4 _ ho
            rcases hq with rfl | rfl | rfl | rfl <;> omega
          · intro l' pre x post Oq Wq hxp hKq hnl hle
            simp only [encP, ptV]
            gi_wp2
            refine ⟨rfl, ?_⟩
            rintro W2 ⟨hJq, hyq, hnq⟩ hbx hnb
            have hx0 := cell_block hbx 0 _ rfl
            have hx1 := cell_block hbx 1 _ rfl
            have hx2 := cell_block hbx 2 _ rfl
            have hyc := cell_block hyq 0 _ rfl
            obtain ⟨fn', tmps', assign', body', hyy, hR'⟩ := hY (begL m i j b ++ (mdi.take 1).flatMap (partB m xn yn n i j b) ++ pre) x (post ++ (mdi.drop 2).flatMap (partB m xn yn n i j b)) Oq W2 (by rw [hxs]; simp [mdi] at hxp ⊢; rw [hxp]; try simp) hJq
            simp only [encP, ptV] at hyy
            gi_wp2
            refine ⟨rfl, ?_⟩
            refine (RoundIn.inR hR').mono ?_
            rintro e W3 ⟨rfl, O', hJ', hf', ho'⟩
            gi_wp2
            refine ⟨O', ⟨by simpa using hJ', hf'.heap hyq hnq, fun h => ?_⟩, hf', ho'⟩
            rcases ho' _ h with h | h
            · exact hnq h
            · have := (Array.getElem?_eq_some_iff.1 hyq).1; omega
          · rintro D O' W' hD ⟨hJ', hy', hn'⟩ hd hnD hf' ho'
            gi_wp2
            have hL' := hL.done hD hJ' hd hnD hf' ho'
            refine ⟨⟨2, D :: ds, O', _, _, _, _, _, _, _, _, _, _, _, _, _, _, _, _, _, _, _, _, _, _, _, _, _, _, _, _, _, _, _, _, _, _, _, _, _, _, _, _, _, _, _, _, _, _, _, _, _, _, _, _, _, _, _, rfl, by omega, ?_⟩, by simp [intOf]⟩
            simpa [mdi] using hL'
      · have hm2 := cell_block hL.m 2 _ rfl
        obtain ⟨f0, f1, f2, f3, f4, f5, f6, f7, f8, f9, f10, f11⟩ := fdC_of hL.A.f; have fi := cell_block hL.A.i 0 _ rfl; have fj := cell_block hL.A.j 0 _ rfl; have fb := cell_block hL.A.b 0 _ rfl; have fy := cell_block hL.A.y 0 _ rfl
        obtain ⟨go, hgo⟩ : ∃ go, goB m 73 = go := ⟨_, rfl⟩
        have hcat : ∀ W, (Op.stringOp .add (Utf8.encode 73) (bs b)).run Try.prog W = .ok (.string (bs (73 :: b))) W := cat_cons 73 (by simp) b hbl0
        have hwi : wrap64 (i - dnB 73) = i - dnB 73 := w64 (by simp [dnB]; omega)
        have hwj : wrap64 (j - ovB 73) = j - ovB 73 := w64 (by simp [ovB]; omega)
        gi_wp2_with (first
          | (refine ⟨trivial, rfl, ?_⟩; gi_at_call 48; refine (callsIn_wide.2 (mayGo_calls m sa sn sc ga gn gc xa xn xc ya yn yc 73 _ hg)).mono ?_; rintro e w4 ⟨rfl, hb4⟩; rw [hgo]; replace hL := hL.next hst hb4; obtain ⟨g0, g1, g2, g3, g4, g5, g6, g7, g8, g9, g10, g11⟩ := fdC_of hL.A.f; have gi := cell_block hL.A.i 0 _ rfl; have gj := cell_block hL.A.j 0 _ rfl; have gb := cell_block hL.A.b 0 _ rfl; have gy := cell_block hL.A.y 0 _ rfl; cases go)
          | (refine ⟨trivial, rfl, ?_⟩; gi_at_call 47; refine (callsIn_wide.2 (step_calls 73 _)).mono ?_; rintro e w5 ⟨rfl, rfl⟩))
        · refine ⟨⟨3, ds, Ok, _, _, _, _, _, _, _, _, _, _, _, _, _, _, _, _, _, _, _, _, _, _, _, _, _, _, _, _, _, _, _, _, _, _, _, _, _, _, _, _, _, _, _, _, _, _, _, _, _, _, _, _, _, _, _, rfl, by omega, ?_⟩, by simp [intOf]⟩
          have hp : partB m xn yn n i j b 73 = [] := by simp [partB, hgo]
          simpa [mdi, hp] using hL
        · refine ⟨trivial, rfl, ?_⟩
          refine (callsIn_wide.2 (into_calls m sa sn sc ga gn gc xa xn xc ya yn yc (i - dnB 73) (j - ovB 73) (73 :: b) _)).mono ?_
          rintro e w6 ⟨bf', bi', bj', bb', rfl, hb6, hge, hbf', hbi', hbj', hbb'⟩
          have hL4 := hL
          replace hL := hL.next hst hb6
          gi_wp2
          have hlt4 : ∀ k, Ok k → k < w4.heap.size := fun k h => hlt _ _ _ hL4.hJ _ h
          have hp : partB m xn yn n i j b 73 = intoF m xn yn n (i - dnB 73) (j - ovB 73) (73 :: b) := by simp [partB, hgo]
          refine rf_law (gf := 65) (encs := encP) (xs := partB m xn yn n i j b 73) (C := fun k => k = bf' ∨ k = bi' ∨ k = bj' ∨ k = bb') rfl (enters_of Try.func65 (by kernel_rfl) rfl) (fun _ => rfl)
            (fun W' hb' => by rw [hp]; exact hI 73 (by simp) bf' bi' bj' bb' W' ((Fr.of_below (O := fun _ => False) hb').heap hbf' (fun h => h)) ((Fr.of_below (O := fun _ => False) hb').heap hbi' (fun h => h)) ((Fr.of_below (O := fun _ => False) hb').heap hbj' (fun h => h)) ((Fr.of_below (O := fun _ => False) hb').heap hbb' (fun h => h)))
            (fun pre Oq Wq => J (begL m i j b ++ (mdi.take 2).flatMap (partB m xn yn n i j b) ++ pre) Oq Wq ∧ Wq.heap[W.heap.size]? = some (.cells #[.func (.yield l) #[] #[]] 58 (0, 0)) ∧ ¬ Oq W.heap.size) Ok
            (fun s Oq A h => hlt _ _ _ h.1) (fun q hq => ⟨?_, fun ho => ?_⟩) (fun s Oq A B T h hf hT => ⟨(hst.mono hL.fr.size) _ _ _ _ _ h.1 hf hT, hf.heap h.2.1 (fun ht => by have := (hT _ ht).1; have := (Array.getElem?_eq_some_iff.1 hL.A.y).1; omega), h.2.2⟩) ⟨by simpa using hL.hJ, hL.A.y, hL.nA.2.2.2.2⟩ pBox ?_ ?_
          · rcases hq with rfl | rfl | rfl | rfl
            · exact (Array.getElem?_eq_some_iff.1 hbf').1
            · exact (Array.getElem?_eq_some_iff.1 hbi').1
            · exact (Array.getElem?_eq_some_iff.1 hbj').1
            · exact (Array.getElem?_eq_some_iff.1 hbb').1
          · have := hlt4 _ ho
            rcases hq with rfl | rfl | rfl | rfl <;> omega
          · intro l' pre x post Oq Wq hxp hKq hnl hle
            simp only [encP, ptV]
            gi_wp2
            refine ⟨rfl, ?_⟩
            rintro W2 ⟨hJq, hyq, hnq⟩ hbx hnb
            have hx0 := cell_block hbx 0 _ rfl
            have hx1 := cell_block hbx 1 _ rfl
            have hx2 := cell_block hbx 2 _ rfl
            have hyc := cell_block hyq 0 _ rfl
            obtain ⟨fn', tmps', assign', body', hyy, hR'⟩ := hY (begL m i j b ++ (mdi.take 2).flatMap (partB m xn yn n i j b) ++ pre) x (post ++ (mdi.drop 3).flatMap (partB m xn yn n i j b)) Oq W2 (by rw [hxs]; simp [mdi] at hxp ⊢; rw [hxp]; try simp) hJq
            simp only [encP, ptV] at hyy
            gi_wp2
            refine ⟨rfl, ?_⟩
            refine (RoundIn.inR hR').mono ?_
            rintro e W3 ⟨rfl, O', hJ', hf', ho'⟩
            gi_wp2
            refine ⟨O', ⟨by simpa using hJ', hf'.heap hyq hnq, fun h => ?_⟩, hf', ho'⟩
            rcases ho' _ h with h | h
            · exact hnq h
            · have := (Array.getElem?_eq_some_iff.1 hyq).1; omega
          · rintro D O' W' hD ⟨hJ', hy', hn'⟩ hd hnD hf' ho'
            gi_wp2
            have hL' := hL.done hD hJ' hd hnD hf' ho'
            refine ⟨⟨3, D :: ds, O', _, _, _, _, _, _, _, _, _, _, _, _, _, _, _, _, _, _, _, _, _, _, _, _, _, _, _, _, _, _, _, _, _, _, _, _, _, _, _, _, _, _, _, _, _, _, _, _, _, _, _, _, _, _, _, rfl, by omega, ?_⟩, by simp [intOf]⟩
            simpa [mdi] using hL'
      · gi_wp2
        refine leaves_marks ds wr hL.nd (fun D hD => (hL.ds D hD).1) (fun W' hf => ⟨_, results_none rfl _ _ _, ⟨_, rfl⟩, Ok, ?_, ?_, hL.ok⟩)
        · rw [hxs]
          exact hst _ _ _ _ _ hL.hJ hf (fun D hD => ⟨(hL.ds D hD).2.2, (hL.ds D hD).2.1⟩)
        · exact hL.fr.trans hf (fun D hD => .inr (hL.ds D hD).2.2)


theorem into1_gives (m : Md) (sa : Option Addr) (sn sc : Nat) (ga : Option Addr) (gn gc : Nat) (xa : Option Addr) (xn xc : Nat) (ya : Option Addr) (yn yc : Nat) (hx : xn ≤ maxLen) (hy : yn ≤ maxLen) (hg : m.gaps.length = gn) : ∀ (n : Nat) (i j : Int) (b : List UInt8) (bf bi bj bb : Nat) (W : World), i + j < n → i ≤ 1000000 → j ≤ 1000000 → b.length + n ≤ 1000 →
    W.heap[bf]? = some (.cells (fdCells m sa sn sc ga gn gc xa xn xc ya yn yc) 55 (0, 0)) → W.heap[bi]? = some (.cells #[.int .i64 i] 3 (0, 0)) → W.heap[bj]? = some (.cells #[.int .i64 j] 3 (0, 0)) → W.heap[bb]? = some (.cells #[.string (bs b)] 9 (0, 0)) →
    Gives Try.prog 65 #[.pointer (some ⟨bf, 0, none⟩), .pointer (some ⟨bi, 0, none⟩), .pointer (some ⟨bj, 0, none⟩), .pointer (some ⟨bb, 0, none⟩)] encP (intoF m xn yn n i j b) (fun k => k = bf ∨ k = bi ∨ k = bj ∨ k = bb) W := by
  have hno : ∀ (n : Nat) (i j : Int) (b : List UInt8) (bf bi bj bb : Nat) (W : World), hasB m xn yn i j = false → W.heap[bf]? = some (.cells (fdCells m sa sn sc ga gn gc xa xn xc ya yn yc) 55 (0, 0)) → W.heap[bi]? = some (.cells #[.int .i64 i] 3 (0, 0)) → W.heap[bj]? = some (.cells #[.int .i64 j] 3 (0, 0)) → W.heap[bb]? = some (.cells #[.string (bs b)] 9 (0, 0)) →
      Gives Try.prog 65 #[.pointer (some ⟨bf, 0, none⟩), .pointer (some ⟨bi, 0, none⟩), .pointer (some ⟨bj, 0, none⟩), .pointer (some ⟨bb, 0, none⟩)] encP (intoF m xn yn n i j b) (fun k => k = bf ∨ k = bi ∨ k = bj ∨ k = bb) W := by
    intro n i j b bf bi bj bb W hh h1 h2 h3 h4 l J O hC hst hlt hY h0
    rw [intoF_no hh]
    refine (into1_no m sa sn sc ga gn gc xa xn xc ya yn yc i j b bf bi bj bb l W hx hy h1 h2 h3 h4 hh).mono ?_
    rintro e W' ⟨hv, hb⟩
    exact ⟨hv, O, hst _ _ _ _ (fun _ => False) h0 (Fr.of_below hb) (fun _ h => h.elim), Fr.of_below hb, fun k h => .inl h⟩
  intro n
  induction n with
  | zero =>
    intro i j b bf bi bj bb W hij _ _ _ h1 h2 h3 h4
    refine hno 0 i j b bf bi bj bb W ?_ h1 h2 h3 h4
    cases hh : hasB m xn yn i j with
    | false => rfl
    | true => have := hasB_cells hh; omega
  | succ n ih =>
    intro i j b bf bi bj bb W hij hi hj hbn h1 h2 h3 h4
    cases hh : hasB m xn yn i j with
    | false => exact hno _ i j b bf bi bj bb W hh h1 h2 h3 h4
    | true =>
      intro l J O hC hst hlt hY h0
      have hc := hasB_cells hh
      refine into1_yes m sa sn sc ga gn gc xa xn xc ya yn yc i j b bf bi bj bb l W hx hy hg hi hj h1 h2 h3 h4 hh J O n hC hst hlt hY h0 (by omega) ?_
      intro c hcc bf' bi' bj' bb' W' e1 e2 e3 e4
      refine ih _ _ _ bf' bi' bj' bb' W' ?_ ?_ ?_ ?_ e1 e2 e3 e4
      · rcases hcc with rfl | rfl | rfl <;> simp [dnB, ovB] <;> omega
      · rcases hcc with rfl | rfl | rfl <;> simp [dnB] <;> omega
      · rcases hcc with rfl | rfl | rfl <;> simp [ovB] <;> omega
      · simp; omega

end Go.Proofs.Ytegndeefddlccaa
