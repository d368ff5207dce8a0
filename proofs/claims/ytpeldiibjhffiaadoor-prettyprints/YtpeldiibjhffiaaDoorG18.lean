/-
  Expressions are laid down: Kids, pairs, lists. The walk of the document's own next. The tokens of a piece of a source whose end is a line's end, in plain lists.
-/
import Derived.RegionTactic
import Derived.BigRegion
import Derived.Test.YtpeldiibjhffiaaDoorG17
import Derived.Test.YtpeldiibjhffiaaDoorG13
import Derived.Test.YtpeldiibjhffiaaDoorG14
namespace Go.Proofs.YtpeldiibjhffiaaDoor
open Go.RowKit Go.Deep

theorem LPost.after {w0 : World} {b : Nat} {T X Y : List UInt8} {w w2 : World} {e : Ending} {w' : World} (h : LPost w0 b (T ++ X) Y w2 e w') (hk : Keep w w2) : LPost w0 b T (X ++ Y) w e w' := by
  obtain ⟨z, h1, h2, h3, h4, h5⟩ := h
  rw [List.append_assoc] at h4 h5
  exact ⟨z, h1, h2, hk.trans h3, h4, h5⟩
theorem LPost.stop {w0 : World} {b : Nat} {T X : List UInt8} (Y : List UInt8) {w w' : World} (hb : Below w0.heap.size w0 w') (hk : Keep w w') (hf : 4000 < (T ++ X).length) : LPost w0 b T (X ++ Y) w (.returned (.bool false)) w' :=
  ⟨false, rfl, hb, hk, (fun e => by cases e), fun _ => by simp only [List.length_append] at hf ⊢; omega⟩
theorem LPost.from {w0 : World} {b : Nat} {T X : List UInt8} {w w2 : World} {e : Ending} {w' : World} (h : LPost w0 b T X w2 e w') (hk : Keep w w2) : LPost w0 b T X w e w' := by
  obtain ⟨z, h1, h2, h3, h4, h5⟩ := h
  exact ⟨z, h1, h2, hk.trans h3, h4, h5⟩
/-- A row of words that was just laid. -/
theorem ws_new (W : World) (ws : List ByteArray) (cs : Array Value) (hc : cs = (ws.map Value.string).toArray) : WsAt (W.alloc (.cells cs 9)) W.heap.size ws := by
  refine ⟨cs, (0, 0), heap_alloc_new W _, fun i s hi => ?_⟩
  rw [hc]
  simp [hi]
theorem keep_alloc (w : World) (o : Obj) : Keep w (w.alloc o) := Keep.of_below ((Below.refl _ _).alloc (Nat.le_refl _) o)
theorem low_alloc (w : World) (o : Obj) : Below w.heap.size w (w.alloc o) := (Below.refl _ _).alloc (Nat.le_refl _) o
theorem Keep.cells {w w' : World} (h : Keep w w') {g : Nat} {cs : Array Value} {t : TypeId} {f : Nat × Nat} (hg : w.heap[g]? = some (.cells cs t f)) (h1 : t ≠ 5) (h2 : t ≠ 51) : w'.heap[g]? = some (.cells cs t f) := h g cs t f ⟨h1, h2⟩ hg
/-- One word more is laid down. -/
theorem lay_one {w0 : World} {b : Nat} {T : List UInt8} {W : World} (h : Sh w0 b T W) (hT : T.length ≤ 4000) (s : ByteArray) (hs : s.size ≤ 100) : Calls Tryd.prog 18 #[.pointer (some ⟨b, 0, none⟩), .slice (some ⟨W.heap.size, 0, none⟩) 1 1] (W.alloc (.cells #[.string s] 9)) (LPost w0 b T s.data.toList W) := by
  have h1 := lay_calls w0 b T W.heap.size 1 1 [s] (W.alloc (.cells #[.string s] 9)) (h.next (low_alloc _ _)) (ws_new W [s] _ rfl) rfl (by omega) hT (by simpa using hs)
  have e : catW [s] = s.data.toList := by simp [catW]
  rw [e] at h1
  exact h1.mono fun e w' hp => hp.from (keep_alloc _ _)
theorem lay_three {w0 : World} {b : Nat} {T : List UInt8} {W : World} (h : Sh w0 b T W) (hT : T.length ≤ 4000) (s t u : ByteArray) (hs : s.size ≤ 100) (ht : t.size ≤ 100) (hu : u.size ≤ 100) : Calls Tryd.prog 18 #[.pointer (some ⟨b, 0, none⟩), .slice (some ⟨W.heap.size, 0, none⟩) 3 3] (W.alloc (.cells #[.string s, .string t, .string u] 9)) (LPost w0 b T (s.data.toList ++ (t.data.toList ++ u.data.toList)) W) := by
  have h1 := lay_calls w0 b T W.heap.size 3 3 [s, t, u] (W.alloc (.cells #[.string s, .string t, .string u] 9)) (h.next (low_alloc _ _)) (ws_new W [s, t, u] _ rfl) rfl (by omega) hT (by simp; omega)
  have e : catW [s, t, u] = s.data.toList ++ (t.data.toList ++ u.data.toList) := by simp [catW]
  rw [e] at h1
  exact h1.mono fun e w' hp => hp.from (keep_alloc _ _)
theorem lay_two {w0 : World} {b : Nat} {T : List UInt8} {W : World} (h : Sh w0 b T W) (hT : T.length ≤ 4000) (s t : ByteArray) (hs : s.size ≤ 100) (ht : t.size ≤ 100) : Calls Tryd.prog 18 #[.pointer (some ⟨b, 0, none⟩), .slice (some ⟨W.heap.size, 0, none⟩) 2 2] (W.alloc (.cells #[.string s, .string t] 9)) (LPost w0 b T (s.data.toList ++ t.data.toList) W) := by
  have h1 := lay_calls w0 b T W.heap.size 2 2 [s, t] (W.alloc (.cells #[.string s, .string t] 9)) (h.next (low_alloc _ _)) (ws_new W [s, t] _ rfl) rfl (by omega) hT (by simp; omega)
  have e : catW [s, t] = s.data.toList ++ t.data.toList := by simp [catW]
  rw [e] at h1
  exact h1.mono fun e w' hp => hp.from (keep_alloc _ _)
/-- An expression is laid down, whatever was laid down before. -/
def LEx (w0 : World) (b : Nat) (e : Ex) (ka : Option Addr) (kn kc : Nat) : Prop := ∀ T w, Sh w0 b T w → T.length ≤ 4000 → Calls Tryd.prog 28 #[.agg #[.int .i64 e.1.kind, .int .i64 e.1.num, .string (bs e.1.text), .slice ka kn kc, .int .i64 e.1.pl], layV b] w (LPost w0 b T (txE e) w)
set_option maxRecDepth 20000 in
set_option maxHeartbeats 4000000 in
theorem layKid_calls {w0 : World} {b : Nat} {e : Ex} {ka : Option Addr} {kn kc : Nat} (HX : LEx w0 b e ka kn kc) (asked : Int) (T : List UInt8) (w : World) (h : Sh w0 b T w) (hT : T.length ≤ 4000) :
    Calls Tryd.prog 46 #[.agg #[.int .i64 e.1.kind, .int .i64 e.1.num, .string (bs e.1.text), .slice ka kn kc, .int .i64 e.1.pl], .int .i64 asked, layV b] w (LPost w0 b T (brB asked (e.1.kind, txE e)) w) := by
  have HL : Hid (LEx w0 b e ka kn kc) := HX
  have HFm : Hid (∀ w, Calls Tryd.prog 69 #[.int .i64 e.1.kind] w fun e' w' => e' = .returned (.int .i64 (firmB e.1.kind)) ∧ w = w') := fun w => firm_calls _ w
  have H1 : Hid (Sh w0 b T (w.alloc (.cells #[.int .i64 e.1.kind, .int .i64 e.1.num, .string (bs e.1.text), .slice ka kn kc, .int .i64 e.1.pl] 40)) ∧ Keep w (w.alloc (.cells #[.int .i64 e.1.kind, .int .i64 e.1.num, .string (bs e.1.text), .slice ka kn kc, .int .i64 e.1.pl] 40)) ∧ (w.alloc (.cells #[.int .i64 e.1.kind, .int .i64 e.1.num, .string (bs e.1.text), .slice ka kn kc, .int .i64 e.1.pl] 40)).heap[w.heap.size]? = some (.cells #[.int .i64 e.1.kind, .int .i64 e.1.num, .string (bs e.1.text), .slice ka kn kc, .int .i64 e.1.pl] 40 (0, 0))) := ⟨h.next (low_alloc _ _), keep_alloc _ _, heap_alloc_new w _⟩
  have HTl : Hid (T.length ≤ 4000) := hT
  have HB : Hid (brB asked (e.1.kind, txE e) = if asked ≤ firmB e.1.kind then txE e else [40] ++ (txE e ++ [41])) := rfl
  generalize brB asked (e.1.kind, txE e) = X at *
  by_cases hf : asked ≤ firmB e.1.kind
  · have hd : decide (asked ≤ firmB e.1.kind) = true := by simpa using hf
    have HX1 : Hid (X = txE e) := by have := HB.out; rw [if_pos hf] at this; exact this
    clear h hT HX HB hf
    generalize firmB e.1.kind = fk at *
    go_enter Tryd.func46, Tryd.ntmps46
    go_wp2_with fail
    refine (HFm.out _).mono ?_
    rintro e' w1 ⟨rfl, rfl⟩
    go_wp2_with fail
    refine (HL.out T _ H1.out.1 HTl.out).mono ?_
    rintro e' w2 ⟨z, rfl, hp⟩
    have HP : Hid (LPost w0 b T X w (.returned (.bool z)) w2) := by
      rw [HX1.out]
      exact LPost.from ⟨z, rfl, hp⟩ H1.out.2.1
    clear hp
    go_wp2
    go_ret
    exact HP.out
  · have hd : decide (asked ≤ firmB e.1.kind) = false := by simpa using hf
    have HX1 : Hid (X = [40] ++ (txE e ++ [41])) := by have := HB.out; rw [if_neg hf] at this; exact this
    clear h hT HX HB hf
    generalize firmB e.1.kind = fk at *
    have HLy := lay_one H1.out.1 HTl.out ⟨#[40]⟩ (by decide)
    have HLy' : Hid (Calls Tryd.prog 18 #[.pointer (some ⟨b, 0, none⟩), .slice (some ⟨w.heap.size + 1, 0, none⟩) 1 1] ((w.alloc (.cells #[.int .i64 e.1.kind, .int .i64 e.1.num, .string (bs e.1.text), .slice ka kn kc, .int .i64 e.1.pl] 40)).alloc (.cells #[.string ⟨#[40]⟩] 9)) (LPost w0 b T [40] (w.alloc (.cells #[.int .i64 e.1.kind, .int .i64 e.1.num, .string (bs e.1.text), .slice ka kn kc, .int .i64 e.1.pl] 40)))) := by
      rw [show (w.alloc (.cells #[.int .i64 e.1.kind, .int .i64 e.1.num, .string (bs e.1.text), .slice ka kn kc, .int .i64 e.1.pl] 40)).heap.size = w.heap.size + 1 by simp] at HLy
      exact HLy
    clear HLy
    go_enter Tryd.func46, Tryd.ntmps46
    go_wp2_with fail
    refine (HFm.out _).mono ?_
    rintro e' w1 ⟨rfl, rfl⟩
    go_wp2_with fail
    refine HLy'.out.mono ?_
    rintro e' w2 ⟨z, rfl, hb2, hk2, ht2, hf2⟩
    cases z with
    | false =>
      have HP : Hid (LPost w0 b T X w (.returned (.bool false)) w2) := by
        rw [HX1.out]
        exact LPost.stop _ hb2 (H1.out.2.1.trans hk2) (hf2 rfl)
      clear hb2 hk2 ht2 hf2
      go_wp2
      go_ret
      exact HP.out
    | true =>
      obtain ⟨hS2, hT2⟩ := ht2 rfl
      have hbx := hk2.cells H1.out.2.2 (by decide) (by decide)
      have x0 := blk (i := 0) hbx rfl
      have x1 := blk (i := 1) hbx rfl
      have x2 := blk (i := 2) hbx rfl
      have x3 := blk (i := 3) hbx rfl
      have x4 := blk (i := 4) hbx rfl
      have H2 : Hid (Sh w0 b (T ++ [40]) w2 ∧ (T ++ [40]).length ≤ 4000 ∧ Keep w w2) := ⟨hS2, hT2, H1.out.2.1.trans hk2⟩
      clear hb2 hk2 ht2 hf2 hS2 hT2 hbx HLy'
      go_wp2_with fail
      refine (HL.out (T ++ [40]) _ H2.out.1 H2.out.2.1).mono ?_
      rintro e' w3 ⟨z, rfl, hb3, hk3, ht3, hf3⟩
      clear x0 x1 x2 x3 x4
      cases z with
      | false =>
        have HP : Hid (LPost w0 b T X w (.returned (.bool false)) w3) := by
          rw [HX1.out]
          exact LPost.after (LPost.stop _ hb3 hk3 (hf3 rfl)) H2.out.2.2
        clear hb3 hk3 ht3 hf3
        go_wp2
        go_ret
        exact HP.out
      | true =>
        obtain ⟨hS3, hT3⟩ := ht3 rfl
        have HLz : Hid (Calls Tryd.prog 18 #[.pointer (some ⟨b, 0, none⟩), .slice (some ⟨w3.heap.size, 0, none⟩) 1 1] (w3.alloc (.cells #[.string ⟨#[41]⟩] 9)) (LPost w0 b (T ++ [40] ++ txE e) [41] w3)) := lay_one hS3 hT3 ⟨#[41]⟩ (by decide)
        have HK3 : Hid (Keep w2 w3) := hk3
        clear hb3 hk3 ht3 hf3 hS3 hT3
        go_wp2_with fail
        refine HLz.out.mono ?_
        rintro e' w4 ⟨z, rfl, hp⟩
        have HP : Hid (LPost w0 b T X w (.returned (.bool z)) w4) := by
          rw [HX1.out]
          exact LPost.after (LPost.after ⟨z, rfl, hp⟩ HK3.out) H2.out.2.2
        clear hp HLz
        go_wp2
        go_ret
        exact HP.out

end Go.Proofs.YtpeldiibjhffiaaDoor
namespace Go.Proofs.YtpeldiibjhffiaaDoor
open Go.RowKit

theorem first_ok {S : List UInt8} {k n : Int} {t : List UInt8} {l : Nat} (h : firstA S = (k, n, t, l, 0)) : errB S = 0 ∧ kindB S = k ∧ (numB S : Int) = n ∧ textB S = t ∧ lenB S = l := by
  unfold firstA at h
  split at h
  · rename_i he
    cases h
    exact ⟨he, rfl, rfl, rfl, rfl⟩
  · rename_i he
    simp at h
    exact absurd h.2.2.2.2 he
theorem first_wrong {S : List UInt8} {z : Int} (h : firstA S = (0, 0, [], 0, z)) (hz : z ≠ 0) : errB S = z := by
  unfold firstA at h
  split at h
  · simp at h; exact absurd h.2.2.2.2.symm hz
  · simp at h; exact h
/-- What the document's next leaves. -/
def NextPost (S : List UInt8) (p : Nat) (w : World) (e : Ending) (w' : World) : Prop :=
  ∃ (k n : Int) (x : ByteArray) (y b : Int), e = .returned (.tuple #[.agg #[.int .i64 k, .int .i64 n, .string x, .int .i64 y], .int .i64 b, .int .i64 (errB S)]) ∧ (errB S = 0 → k = kindB S ∧ n = (numB S : Int) ∧ x = bs (textB S) ∧ y = (p : Int) ∧ b = ((p + lenB S : Nat) : Int)) ∧ Below w.heap.size w w'
theorem next_ok {S : List UInt8} {p : Nat} {w w' : World} {k n b : Int} {t : List UInt8} {l : Nat} (h : firstA S = (k, n, t, l, 0)) (hb : b = (p : Int) + (l : Int)) (hw : Below w.heap.size w w') :
    NextPost S p w (.returned (.tuple #[.agg #[.int .i64 k, .int .i64 n, .string (bs t), .int .i64 (p : Int)], .int .i64 b, .int .i64 0])) w' := by
  obtain ⟨h1, h2, h3, h4, h5⟩ := first_ok h
  refine ⟨k, n, bs t, p, b, by rw [h1], fun _ => ⟨h2.symm, h3.symm, by rw [h4], rfl, by rw [h5, hb]; omega⟩, hw⟩
theorem next_okx {S : List UInt8} {p : Nat} {w w' : World} {k n b : Int} {t : List UInt8} {l : Nat} {x : ByteArray} (h : firstA S = (k, n, t, l, 0)) (hx : x = bs t) (hb : b = (p : Int) + (l : Int)) (hw : Below w.heap.size w w') :
    NextPost S p w (.returned (.tuple #[.agg #[.int .i64 k, .int .i64 n, .string x, .int .i64 (p : Int)], .int .i64 b, .int .i64 0])) w' := by
  subst hx; exact next_ok h hb hw
theorem next_wrong {S : List UInt8} {p : Nat} {w w' : World} {z k n y : Int} {x : ByteArray} (h : firstA S = (0, 0, [], 0, z)) (hz : z ≠ 0) (hw : Below w.heap.size w w') :
    NextPost S p w (.returned (.tuple #[.agg #[.int .i64 k, .int .i64 n, .string x, .int .i64 y], .int .i64 0, .int .i64 z])) w' := by
  have h1 := first_wrong h hz
  exact ⟨k, n, x, y, 0, by rw [h1], fun h0 => absurd (h1.symm.trans h0) hz, hw⟩
/-- The answer and the token under way. -/
structure NxAt (w : World) (p : Nat) (W : World) : Prop where
  low : Below w.heap.size w W
  ans : W.heap[w.heap.size]? = some (.cells zero4 87 (0, 0))
  tok : W.heap[w.heap.size + 1]? = some (.cells #[.int .i64 0, .int .i64 0, .string ⟨#[]⟩, .int .i64 (p : Int)] 87 (0, 0))
theorem NxAt.next {w W W' : World} {p : Nat} (h : NxAt w p W) (hb : Below W.heap.size W W') : NxAt w p W' :=
  ⟨h.low.trans (hb.mono h.low.size), keepB h.ans hb, keepB h.tok hb⟩
theorem nxAt_start (w : World) (p : Nat) : NxAt w p ((w.alloc (.cells zero4 87 (0, 0))).alloc (.cells #[.int .i64 0, .int .i64 0, .string ⟨#[]⟩, .int .i64 (p : Int)] 87 (0, 0))) := by
  refine ⟨((Below.refl _ _).alloc (Nat.le_refl _) _).alloc (by simp) _, ?_, ?_⟩
  · have h := (Below.refl (w.alloc (.cells zero4 87 (0, 0))).heap.size (w.alloc (.cells zero4 87 (0, 0)))).alloc (Nat.le_refl _) (.cells #[.int .i64 0, .int .i64 0, .string ⟨#[]⟩, .int .i64 (p : Int)] 87 (0, 0))
    rw [h.block _ (by simp)]; exact heap_alloc_new w _
  · have h := heap_alloc_new (w.alloc (.cells zero4 87 (0, 0))) (.cells #[.int .i64 0, .int .i64 0, .string ⟨#[]⟩, .int .i64 (p : Int)] 87 (0, 0))
    simpa using h
theorem numO_dig {c : UInt8} {r : List UInt8} (h : isDig c = true) : firstA (c :: r) = numA (runB (c :: r)) := first_dig h

theorem inner_no34 (r : List UInt8) : ∀ c ∈ innerB r, c ≠ 34 := by
  intro c hc e
  subst e
  exact headB_free 34 r hc
theorem isTxt_inner (r : List UInt8) : isTxtB (innerB r) = (decide ((innerB r).length ≤ 40) && (innerB r).all inText) := by
  unfold isTxtB
  have h : (innerB r).all inText' = (innerB r).all inText := by
    rw [Bool.eq_iff_iff, List.all_eq_true, List.all_eq_true]
    constructor
    · intro h c hc
      have := h c hc
      simp only [inText', Bool.and_eq_true] at this
      exact this.1
    · intro h c hc
      simp only [inText', Bool.and_eq_true, bne_iff_ne]
      exact ⟨h c hc, inner_no34 r c hc⟩
  rw [h, Bool.and_comm]
theorem first_sign {c : UInt8} {r : List UInt8} (hp : isPart c = false) (hq : c ≠ 34) : firstA (c :: r) = if signB (c :: r) = [] then (0, 0, [], 0, 60) else signA (signB (c :: r)) := by
  by_cases hpp : c = 46 ∧ r.head? = some 46
  · have e : signB (c :: r) = [46, 46] := by rw [signB, if_pos hpp]
    rw [e, if_neg (by simp)]
    obtain ⟨rfl, h⟩ := hpp
    cases r with
    | nil => cases h
    | cons d t => simp at h; subst h; exact first_points
  · cases hm : isMark c with
    | true =>
      have e : signB (c :: r) = [c] := by rw [signB, if_neg hpp, if_pos hm]
      rw [e, if_neg (by simp)]; exact first_mark hp hq hm
    | false =>
      have e : signB (c :: r) = [] := by rw [signB, if_neg hpp, if_neg (by rw [hm]; decide)]
      rw [e, if_pos rfl]
      by_cases h46 : c = 46
      · subst h46
        exact first_point fun h => hpp ⟨rfl, h⟩
      · exact first_stray hp hq hm h46
end Go.Proofs.YtpeldiibjhffiaaDoor
namespace Go.Proofs.YtpeldiibjhffiaaDoor

/-- What stands behind is no part of a run. -/
def NP (v : List UInt8) : Prop := ∀ c r, v = c :: r → isPart c = false
theorem run_local {u v : List UInt8} (hu : u.all isPart = true) (hv : NP v) : runB (u ++ v) = u := by
  induction u with
  | nil =>
    cases v with
    | nil => rfl
    | cons c r => simp [runB, hv c r rfl]
  | cons c r ih =>
    simp only [List.all_cons, Bool.and_eq_true] at hu
    have h := ih hu.2
    unfold runB at h ⊢
    rw [List.cons_append, List.takeWhile_cons, if_pos hu.1, h]
theorem run_parts (s : List UInt8) : (runB s).all isPart = true := by
  unfold runB
  rw [List.all_eq_true]
  intro c hc
  exact List.all_eq_true.1 (List.all_takeWhile (l := s) (p := isPart)) c hc
theorem inner_local (a v : List UInt8) (ha : ∀ c ∈ a, c ≠ 34) : innerB (a ++ 34 :: v) = a := by
  induction a with
  | nil => simp [innerB]
  | cons c r ih =>
    have h := ih fun d hd => ha d (List.mem_cons_of_mem _ hd)
    have hc := ha c (List.mem_cons_self)
    unfold innerB at h ⊢
    rw [List.cons_append, List.takeWhile_cons, if_pos (by simpa using hc), h]
/-- A token is the same one, whatever stands behind it, if that does not make a run longer. -/
theorem first_local {s v : List UInt8} (hs : s ≠ []) (he : errB s = 0) (hv : ∀ c r, s = c :: r → isPart c = true → NP v) :
    errB (s.take (lenB s) ++ v) = 0 ∧ kindB (s.take (lenB s) ++ v) = kindB s ∧ numB (s.take (lenB s) ++ v) = numB s ∧ textB (s.take (lenB s) ++ v) = textB s ∧ lenB (s.take (lenB s) ++ v) = lenB s ∧ s.take (lenB s) ≠ [] := by
  have hlen := lenB_le hs he
  have hpos := lenB_pos hs
  have hne : s.take (lenB s) ≠ [] := by
    intro e
    have := congrArg List.length e
    rw [List.length_take, List.length_nil] at this
    omega
  cases s with
  | nil => exact absurd rfl hs
  | cons c r =>
    cases hp : isPart c with
    | true =>
      have hl : lenB (c :: r) = (runB (c :: r)).length := by rw [lenB, if_pos hp]
      have ht : (c :: r).take (lenB (c :: r)) = runB (c :: r) := by rw [hl, runB_take]
      have hr : runB (runB (c :: r) ++ v) = runB (c :: r) := run_local (run_parts _) (hv c r rfl hp)
      obtain ⟨d, hd⟩ : ∃ d, runB (c :: r) = c :: d := ⟨_, by unfold runB; rw [List.takeWhile_cons, if_pos hp]⟩
      rw [ht]
      refine ⟨?_, ?_, ?_, ?_, ?_, by rw [hd]; simp⟩
      all_goals rw [hd] at hr ⊢
      all_goals rw [List.cons_append] at hr ⊢
      · simp only [errB, hd, hp, if_true] at he
        simp only [errB, hr, hp, if_true]
        exact he
      · rw [kindB, hr, kindB, hd]
      · rw [numB, hr, numB, hd]
      · rw [textB, hr, textB, hd]; simp [hp]
      · rw [lenB, hr, lenB, hd]; simp [hp]
    | false =>
      have hd : isDig c = false := by
        cases hx : isDig c with
        | false => rfl
        | true => rw [dig_part hx] at hp; cases hp
      by_cases h34 : c = 34
      · subst h34
        obtain ⟨hm, hok⟩ := err_text he
        have hl : lenB (34 :: r) = (innerB r).length + 2 := by rw [lenB, if_neg (by decide), if_pos rfl]
        have ht : (34 :: r).take (lenB (34 :: r)) = 34 :: (innerB r ++ [34]) := by rw [hl, List.take_succ_cons, take_inner hm]
        have hi : innerB (innerB r ++ [34] ++ v) = innerB r := by
          rw [List.append_assoc]; exact inner_local _ _ (inner_no34 r)
        have hok2 : textOk (innerB r ++ [34] ++ v) = true := by
          unfold textOk at hok ⊢
          rw [hi]
          simp only [Bool.and_eq_true, decide_eq_true_eq] at hok ⊢
          exact ⟨by simp, hok.2⟩
        rw [ht, List.cons_append]
        refine ⟨?_, ?_, ?_, ?_, ?_, by simp⟩
        · rw [errB, if_neg (by decide), if_neg (by decide), if_pos rfl, if_pos hok2]
        · simp [kindB, hd, hp]
        · simp [numB, hd]
        · simp only [textB, hd, hp]; simp only [hi]; rfl
        · rw [hl, lenB, if_neg (by decide), if_pos rfl, hi]
      · cases hmk : isMark c with
        | true =>
          have hl : lenB (c :: r) = 1 := by simp [lenB, hp, h34, hmk]
          rw [hl]
          simp [errB, kindB, numB, textB, lenB, hp, hd, h34, hmk]
        | false =>
          rw [errB, if_neg (by rw [hd]; decide), if_neg (by rw [hp]; decide), if_neg h34, if_neg (by rw [hmk]; decide)] at he
          have hpp : c = 46 ∧ r.head? = some 46 := by
            rcases Classical.em (c = 46 ∧ r.head? = some 46) with h | h
            · exact h
            · rw [if_neg h] at he; cases he
          have hl : lenB (c :: r) = 2 := by simp [lenB, hp, h34, hmk]
          obtain ⟨rfl, h2⟩ := hpp
          cases r with
          | nil => cases h2
          | cons d r =>
            simp at h2; subst h2
            rw [hl]
            simp [errB, kindB, numB, textB, lenB, hp, hd, hmk]
theorem run_behind (s : List UInt8) : NP (s.drop (runB s).length) := by
  induction s with
  | nil => intro c r h; simp [runB] at h
  | cons d t ih =>
    unfold runB at ih ⊢
    rw [List.takeWhile_cons]
    cases hd : isPart d with
    | true => simpa using ih
    | false =>
      intro c r h
      simp at h
      rw [← h.1]; exact hd
theorem tokB_nxt {S : List UInt8} {p : Nat} (hs : S.drop p ≠ []) (he : errB (S.drop p) = 0) : tokB p (S.drop p) = (tkB (S.drop p) p :: (tokB (nxt S p) (S.drop (nxt S p))).1, (tokB (nxt S p) (S.drop (nxt S p))).2) := by
  have e1 : (S.drop p).drop (lenB (S.drop p)) = S.drop (p + lenB (S.drop p)) := by rw [List.drop_drop]
  have e2 : (S.drop p).drop (lenB (S.drop p) + skipB (S.drop (p + lenB (S.drop p)))) = S.drop (nxt S p) := by rw [List.drop_drop]; unfold nxt; rw [Nat.add_assoc]
  rw [tokB_ok hs he, e1, e2]
  rfl
section
variable (T : List UInt8)
theorem skip_app : ∀ (a : List UInt8) (m : Bool), skipGo m (a ++ 10 :: T) = if skipGo m a < a.length then skipGo m a else a.length + 1 + skipGo false T
  | [], m => by simp [skipGo]; omega
  | c :: r, m => by
    have h0 := skip_app r false
    have h1 := skip_app r true
    have h2 := skip_app r m
    have l0 := skipGo_le r false
    have l1 := skipGo_le r true
    have l2 := skipGo_le r m
    simp only [List.cons_append, skipGo, List.length_cons]
    split
    · rw [h0]; split <;> split <;> omega
    · split
      · rw [h2]; split <;> split <;> omega
      · split
        · rw [h1]; split <;> split <;> omega
        · rw [if_pos (by omega)]
theorem not_part10 : isPart 10 = false := by decide
theorem run_app (s : List UInt8) : runB (s ++ 10 :: T) = runB s := by
  induction s with
  | nil => simp [runB, not_part10]
  | cons c r ih =>
    unfold runB at ih ⊢
    rw [List.cons_append, List.takeWhile_cons, List.takeWhile_cons, ih]
theorem inner_app {r : List UInt8} (h : 34 ∈ r) : innerB (r ++ 10 :: T) = innerB r := by
  induction r with
  | nil => cases h
  | cons c r ih =>
    unfold innerB at ih ⊢
    rw [List.cons_append, List.takeWhile_cons, List.takeWhile_cons]
    by_cases hc : c = 34
    · rw [if_neg (by simp [hc]), if_neg (by simp [hc])]
    · rw [if_pos (by simp [hc]), if_pos (by simp [hc]), ih ((List.mem_cons.1 h).resolve_left fun e => hc e.symm)]
theorem inner_app10 {r : List UInt8} (h : 34 ∉ r) : 10 ∈ innerB (r ++ 10 :: T) := by
  induction r with
  | nil => simp [innerB]
  | cons c r ih =>
    have hc : c ≠ 34 := fun e => h (by simp [e])
    have := ih fun hm => h (List.mem_cons_of_mem _ hm)
    unfold innerB at this ⊢
    rw [List.cons_append, List.takeWhile_cons, if_pos (by simp [hc])]
    exact List.mem_cons_of_mem _ this
theorem text_app (r : List UInt8) : textOk (r ++ 10 :: T) = textOk r := by
  by_cases h : 34 ∈ r
  · unfold textOk
    rw [inner_app T h, decide_eq_true h, decide_eq_true (List.mem_append_left _ h)]
  · have h1 : textOk r = false := by unfold textOk; rw [decide_eq_false h]; rfl
    have h2 : (innerB (r ++ 10 :: T)).all inText = false := by
      cases hx : (innerB (r ++ 10 :: T)).all inText with
      | false => rfl
      | true => exact absurd (List.all_eq_true.1 hx 10 (inner_app10 T h)) (by decide)
    rw [h1]; unfold textOk; rw [h2]; simp
theorem err_app {s : List UInt8} (hs : s ≠ []) : errB (s ++ 10 :: T) = errB s := by
  cases s with
  | nil => exact absurd rfl hs
  | cons c r =>
    have hr := run_app T (c :: r)
    have ht := text_app T r
    have hh : ((r ++ 10 :: T).head? = some 46) ↔ (r.head? = some 46) := by
      cases r with
      | nil => simp
      | cons d r => simp
    rw [List.cons_append] at hr ⊢
    simp only [errB, hr, ht, hh]
end
def JJ (S T : List UInt8) (q : Nat) : Nat := if q < S.length then q else S.length + 1 + skipB T
theorem drop_join {S T : List UInt8} {p : Nat} (h : p ≤ S.length) : (S ++ 10 :: T).drop p = S.drop p ++ 10 :: T := by
  rw [List.drop_append_of_le_length h]
theorem skip_join {S T : List UInt8} {q : Nat} (h : q ≤ S.length) : q + skipB ((S ++ 10 :: T).drop q) = JJ S T (q + skipB (S.drop q)) := by
  rw [drop_join h]
  unfold skipB JJ
  rw [skip_app]
  have := skipGo_le (S.drop q) false
  rw [List.length_drop] at this ⊢
  split <;> split <;> first | rfl | (unfold skipB; omega) | omega
theorem nxt_join {S T : List UInt8} {p : Nat} (hp : p ≤ S.length) (hs : S.drop p ≠ []) (he : errB (S.drop p) = 0) (hl : lenB ((S ++ 10 :: T).drop p) = lenB (S.drop p)) : nxt (S ++ 10 :: T) p = JJ S T (nxt S p) := by
  have h1 := lenB_le hs he
  rw [List.length_drop] at h1
  unfold nxt
  rw [hl]
  exact skip_join (by omega)
theorem tok_join (S T : List UInt8) : ∀ (n p : Nat), S.length - p ≤ n → p ≤ S.length →
    tokB (JJ S T p) ((S ++ 10 :: T).drop (JJ S T p)) = if (tokB p (S.drop p)).2.2 = 0 then addT (tokB p (S.drop p)).1 (tokB (S.length + 1 + skipB T) (T.drop (skipB T))) else tokB p (S.drop p) := by
  intro n
  induction n with
  | zero =>
    intro p h1 h2
    have hp : p = S.length := by omega
    subst hp
    have e : (S ++ 10 :: T).drop (S.length + 1 + skipB T) = T.drop (skipB T) := by
      rw [show S ++ 10 :: T = (S ++ [10]) ++ T by simp, show S.length + 1 + skipB T = (S ++ [10]).length + skipB T by simp, List.drop_append]
      simp
    rw [List.drop_length, tokB_nil, if_pos rfl]
    unfold JJ
    rw [if_neg (by omega), e]
    simp [addT]
  | succ n ih =>
    intro p h1 h2
    by_cases hp : p = S.length
    · exact ih p (by omega) h2
    have hlt : p < S.length := by omega
    have hs : S.drop p ≠ [] := fun e => by
      have := congrArg List.length e
      rw [List.length_drop, List.length_nil] at this
      omega
    have hj : JJ S T p = p := by unfold JJ; rw [if_pos hlt]
    have hd := drop_join (T := T) h2
    have hs2 : (S ++ 10 :: T).drop p ≠ [] := by rw [hd]; simp
    have herr : errB ((S ++ 10 :: T).drop p) = errB (S.drop p) := by rw [hd]; exact err_app T hs
    rw [hj]
    by_cases he : errB (S.drop p) = 0
    · have hlen := lenB_le hs he
      have hsplit : (S ++ 10 :: T).drop p = (S.drop p).take (lenB (S.drop p)) ++ ((S.drop p).drop (lenB (S.drop p)) ++ 10 :: T) := by
        rw [hd, ← List.append_assoc, List.take_append_drop]
      have hloc := first_local (v := (S.drop p).drop (lenB (S.drop p)) ++ 10 :: T) hs he (by
        intro c r hc hpt x y hxy
        have hl : lenB (S.drop p) = (runB (S.drop p)).length := by rw [hc, lenB, if_pos hpt]
        rw [hl] at hxy
        have hb := run_behind (S.drop p)
        cases hz : (S.drop p).drop (runB (S.drop p)).length with
        | nil => rw [hz] at hxy; simp at hxy; rw [← hxy.1]; decide
        | cons d t =>
          rw [hz] at hxy
          simp at hxy
          rw [← hxy.1]
          exact hb d t hz)
      rw [← hsplit] at hloc
      obtain ⟨g1, g2, g3, g4, g5, _⟩ := hloc
      have htk : tkB ((S ++ 10 :: T).drop p) p = tkB (S.drop p) p := by unfold tkB; rw [g2, g3, g4]
      have hnx := nxt_join (T := T) h2 hs he g5
      have hgt := nxt_gt hs
      rw [tokB_nxt hs2 g1, htk, hnx, ih (nxt S p) (by omega) (nxt_le h2 hs he), tokB_nxt hs he]
      by_cases hz : (tokB (nxt S p) (S.drop (nxt S p))).2.2 = 0
      · rw [if_pos hz, if_pos hz]; rfl
      · rw [if_neg hz, if_neg hz]
    · rw [tokB_err hs2 (by rw [herr]; exact he), tokB_err hs he, herr, if_neg he]
def shiftT (d : Nat) (t : Tk) : Tk := ⟨t.kind, t.num, t.text, d + t.pl⟩
theorem tok_shift (d : Nat) : ∀ (f p : Nat) (s : List UInt8), tokGo f (d + p) s = ((tokGo f p s).1.map (shiftT d), (if (tokGo f p s).2.2 = 0 then 0 else d + (tokGo f p s).2.1), (tokGo f p s).2.2)
  | 0, p, s => by simp [tokGo]
  | f + 1, p, s => by
    by_cases hs : s = []
    · simp [tokGo, hs]
    · by_cases he : errB s = 0
      · have h := tok_shift d f (p + lenB s + skipB (s.drop (lenB s))) (s.drop (lenB s + skipB (s.drop (lenB s))))
        rw [tokGo, if_neg hs, if_neg (by simp [he]), tokGo, if_neg hs, if_neg (by simp [he])]
        simp only
        rw [show d + p + lenB s + skipB (s.drop (lenB s)) = d + (p + lenB s + skipB (s.drop (lenB s))) by omega, h]
        simp [shiftT, tkB]
      · rw [tokGo, if_neg hs, if_pos he, tokGo, if_neg hs, if_pos he]
        simp [he]
theorem tokB_shift (d p : Nat) (s : List UInt8) : tokB (d + p) s = ((tokB p s).1.map (shiftT d), (if (tokB p s).2.2 = 0 then 0 else d + (tokB p s).2.1), (tokB p s).2.2) := tok_shift d _ p s
/-- Two sources with a line's end between. -/
theorem scan_join {S T : List UInt8} (h : S.length + T.length + 1 ≤ 4000) :
    ((scanB S).2.2 ≠ 0 → (scanB (S ++ 10 :: T)).2 = (scanB S).2) ∧
    ((scanB S).2.2 = 0 → (scanB T).2.2 ≠ 0 → (scanB (S ++ 10 :: T)).2 = (S.length + 1 + (scanB T).2.1, (scanB T).2.2)) ∧
    ((scanB S).2.2 = 0 → (scanB T).2.2 = 0 → ∃ A, scanB S = (A ++ [endTk S.length], 0, 0) ∧ scanB (S ++ 10 :: T) = (A ++ (scanB T).1.map (shiftT (S.length + 1)), 0, 0)) := by
  have hk : skipB (S ++ 10 :: T) = JJ S T (skipB S) := by
    have := skip_join (S := S) (T := T) (q := 0) (Nat.zero_le _)
    simpa using this
  have hj := tok_join S T S.length (skipB S) (by omega) (skipB_le S)
  have eU : scanB (S ++ 10 :: T) = finB (S.length + (T.length + 1)) (tokB (JJ S T (skipB S)) ((S ++ 10 :: T).drop (JJ S T (skipB S)))) := by
    have hl : (S ++ 10 :: T).length = S.length + (T.length + 1) := by simp
    unfold scanB
    rw [if_neg (by rw [hl]; omega), hk, hl]
  have eS : scanB S = finB S.length (tokB (skipB S) (S.drop (skipB S))) := by unfold scanB; rw [if_neg (by omega)]
  have eT : scanB T = finB T.length (tokB (skipB T) (T.drop (skipB T))) := by unfold scanB; rw [if_neg (by omega)]
  rw [eU, eS, eT, hj]
  have hsh := tokB_shift (S.length + 1) (skipB T) (T.drop (skipB T))
  generalize tokB (skipB S) (S.drop (skipB S)) = rS at *
  generalize tokB (skipB T) (T.drop (skipB T)) = rT at *
  rw [hsh]
  obtain ⟨lS, pS, zS⟩ := rS
  obtain ⟨lT, pT, zT⟩ := rT
  unfold finB addT
  simp only
  by_cases h1 : zS = 0
  · subst h1
    by_cases h2 : zT = 0
    · subst h2
      simp only [if_true]
      refine ⟨fun h => absurd rfl h, fun _ h => absurd rfl h, fun _ _ => ⟨lS, rfl, ?_⟩⟩
      simp [endTk, shiftT]
      omega
    · simp [h2]
  · simp [h1]
end Go.Proofs.YtpeldiibjhffiaaDoor
