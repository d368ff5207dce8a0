/-
  Words are laid down on a sheet; how firm an expression is; signs and words. Expressions are laid down: Kids, pairs, lists.
-/
import Derived.Test.YtpeldiibjhffiaaDoorPrP
import Derived.Test.YtpeldiibjhffiaaDoorBld
namespace Go.Proofs.YtpeldiibjhffiaaDoor
open Go.RowKit Go.Deep

/-- The bytes of a text as values. -/
abbrev bV (l : List UInt8) : List Value := Lib.byteCells l
theorem bV_str (s : ByteArray) : Lib.strCells s = bV s.data.toList := rfl
theorem bV_append (a b : List UInt8) : bV (a ++ b) = bV a ++ bV b := by simp [bV, Lib.byteCells]
theorem bV_length (a : List UInt8) : (bV a).length = a.length := Lib.byteCells_length a
theorem builder_below {B b : Nat} {l : List Value} {w w' : World} (h : Lib.IsBuilder 51 5 B b l w) (hb : Below w.heap.size w w') : Lib.IsBuilder 51 5 B b l w' := by
  rcases h with ⟨h1, v, h2, h3, h4⟩ | ⟨h1, v, h2, h3, h4⟩
  · exact .inl ⟨h1, v, by rw [hb.block b (lt_block h2)]; exact h2, owned_of_block h3 fun g _ _ hc => hb.block g (lt_block hc), h4⟩
  · exact .inr ⟨h1, v, by rw [hb.block b (lt_block h2)]; exact h2, owned_of_block h3 fun g _ _ hc => hb.block g (lt_block hc), h4⟩
/-- A sheet with so much laid down, in a world that has gone on from another. -/
structure Sh (w0 : World) (b : Nat) (T : List UInt8) (w : World) : Prop where
  is : Lib.IsBuilder 51 5 w0.heap.size b (bV T) w
  low : Below w0.heap.size w0 w
theorem Sh.next {w0 : World} {b : Nat} {T : List UInt8} {w w' : World} (h : Sh w0 b T w) (hb : Below w.heap.size w w') : Sh w0 b T w' := ⟨builder_below h.is hb, h.low.trans (hb.mono h.low.size)⟩
/-- The sheet's method as a value. -/
abbrev layV (b : Nat) : Value := .func (.func 18) #[.pointer (some ⟨b, 0, none⟩)] #[]
/-- What laying a text down leaves. -/
def LPost (w0 : World) (b : Nat) (T X : List UInt8) (w : World) (e : Ending) (w' : World) : Prop :=
  ∃ z : Bool, e = .returned (.bool z) ∧ Below w0.heap.size w0 w' ∧ Keep w w' ∧ (z = true → Sh w0 b (T ++ X) w' ∧ (T ++ X).length ≤ 4000) ∧ (z = false → 4000 < (T ++ X).length)
/-- Words in a row. -/
def WsAt (w : World) (g : Nat) (ws : List ByteArray) : Prop := ∃ (cs : Array Value) (f : Nat × Nat), w.heap[g]? = some (Obj.cells cs 9 f) ∧ ∀ (i : Nat) (s : ByteArray), ws[i]? = some s → cs[i]? = some (Value.string s)
theorem WsAt.keep {w w' : World} {g : Nat} {ws : List ByteArray} (h : WsAt w g ws) (hk : Keep w w') : WsAt w' g ws := by
  obtain ⟨cs, f, h1, h2⟩ := h
  exact ⟨cs, f, hk g cs 9 f (by decide) h1, h2⟩
theorem WsAt.cell {w : World} {g : Nat} {ws : List ByteArray} (h : WsAt w g ws) {i : Nat} {s : ByteArray} (hi : ws[i]? = some s) : w.cell? ⟨g, i, none⟩ = some (.string s) := by
  obtain ⟨cs, f, h1, h2⟩ := h
  rw [cell_of_row w g i cs 9 f h1]
  exact h2 i s hi
def catW (ws : List ByteArray) : List UInt8 := ws.flatMap fun s => s.data.toList
theorem catW_next {ws : List ByteArray} {i : Nat} {s : ByteArray} (h : ws[i]? = some s) : catW (ws.take (i + 1)) = catW (ws.take i) ++ s.data.toList := by
  obtain ⟨hlt, he⟩ := List.getElem?_eq_some_iff.1 h
  rw [List.take_succ_eq_append_getElem hlt, he]
  simp [catW]
set_option maxRecDepth 20000 in
set_option maxHeartbeats 2000000 in
theorem lay_calls (w0 : World) (b : Nat) (T : List UInt8) (g n c : Nat) (ws : List ByteArray) (w : World) (h : Sh w0 b T w) (hw : WsAt w g ws) (hn : ws.length = n) (h3 : n ≤ 3) (hT : T.length ≤ 4000) (hs : ∀ s ∈ ws, s.size ≤ 100) :
    Calls Tryd.prog 18 #[.pointer (some ⟨b, 0, none⟩), .slice (some ⟨g, 0, none⟩) n c] w (LPost w0 b T (catW ws) w) := by
  have HN : Hid (ws.length = n ∧ ∀ s ∈ ws, s.size ≤ 100) := ⟨hn, hs⟩
  have H0 : Hid (Sh w0 b T w ∧ WsAt w g ws) := ⟨h, hw⟩
  have HTl : Hid (T.length ≤ 4000) := hT
  clear h hw hn hs
  go_enter Tryd.func18, Tryd.ntmps18
  go_wp2_with fail
  go_loopg [9] n (fun k iv wr => ∃ i : Nat, iv = .int .i64 (i : Int) ∧ i + k = n ∧ Hid (Sh w0 b (T ++ catW (ws.take i)) wr ∧ WsAt wr g ws ∧ Keep w wr ∧ (T ++ catW (ws.take i)).length ≤ 4000 + i * 100))
  case atStart => exact ⟨0, rfl, by omega, by simpa [catW] using H0.out.1, H0.out.2, Keep.refl _, by simpa [catW] using HTl.out⟩
  case round =>
    clear H0 HTl hT
    obtain ⟨i, rfl, hik, HT⟩ := hrel
    by_cases hi : i < n
    · have hdi : decide ((i : Int) < (n : Int)) = true := by simp; omega
      obtain ⟨s, hsi⟩ : ∃ s, ws[i]? = some s := ⟨_, List.getElem?_eq_getElem (by rw [HN.out.1]; exact hi)⟩
      have hc := HT.out.2.1.cell hsi
      have hsz := HN.out.2 s (List.mem_of_getElem? hsi)
      have HNx : Hid (catW (ws.take (i + 1)) = catW (ws.take i) ++ s.data.toList) := catW_next hsi
      have HW : Hid (Calls Tryd.prog 32 #[.pointer (some ⟨b, 0, none⟩), .string s] wr fun e w' => e = .returned (.tuple #[.int .i64 s.size, .nilIface]) ∧ Lib.IsBuilder 51 5 w0.heap.size b (bV (T ++ catW (ws.take i)) ++ Lib.strCells s) w' ∧ Below w0.heap.size wr w' ∧ Keep wr w') :=
        writeString_calls w0.heap.size b _ s wr HT.out.1.is (by rw [bV_length]; have := HT.out.2.2.2; omega) HT.out.1.low.size
      clear hsi
      go_wp2_with fail
      refine HW.out.mono ?_
      rintro e w3 ⟨rfl, hb3, hbl, hk3⟩
      have HT3 : Hid (Sh w0 b (T ++ catW (ws.take (i + 1))) w3 ∧ WsAt w3 g ws ∧ Keep w w3 ∧ (T ++ catW (ws.take (i + 1))).length ≤ 4000 + (i + 1) * 100) := by
        obtain ⟨q1, q2, q3, q4⟩ := HT.out
        refine ⟨⟨?_, q1.low.trans hbl⟩, q2.keep hk3, q3.trans hk3, ?_⟩
        · rw [HNx.out, ← List.append_assoc, bV_append]
          exact hb3
        · rw [HNx.out, ← List.append_assoc, List.length_append, size_toList]
          omega
      clear hb3 hbl hk3 HT HW HNx hc
      go_wp2_with fail
      go_roundg (gk - 1)
      case measure => omega
      case rel => exact ⟨i + 1, by go_num, by omega, HT3.out⟩
    · have hdi : decide ((i : Int) < (n : Int)) = false := by simp; omega
      have HX : Hid (Sh w0 b (T ++ catW ws) wr ∧ Keep w wr) := by
        obtain ⟨q1, _, q3, _⟩ := HT.out
        rw [List.take_of_length_le (by rw [HN.out.1]; omega)] at q1
        exact ⟨q1, q3⟩
      have HLn : Hid (Calls Tryd.prog 33 #[.pointer (some ⟨b, 0, none⟩)] wr fun e w' => e = .returned (.int .i64 ((T ++ catW ws).length : Nat)) ∧ w' = wr) := by
        have := len_calls w0.heap.size b _ wr HX.out.1.is
        rw [bV_length] at this
        exact this
      clear HT HN
      by_cases h4 : (T ++ catW ws).length ≤ 4000
      · have hd4 : decide (((T ++ catW ws).length : Int) ≤ 4000) = true := by simp only [decide_eq_true_eq]; omega
        have HP : Hid (LPost w0 b T (catW ws) w (.returned (.bool true)) wr) := ⟨true, rfl, HX.out.1.low, HX.out.2, fun _ => ⟨HX.out.1, h4⟩, fun e => by cases e⟩
        clear HX h4
        generalize (T ++ catW ws).length = m at *
        go_wp2_with fail
        refine HLn.out.mono ?_
        rintro e w3 ⟨rfl, hw3⟩
        rw [hw3]
        clear hw3 HLn
        go_wp2
        go_ret
        exact HP.out
      · have hd4 : decide (((T ++ catW ws).length : Int) ≤ 4000) = false := by simp only [decide_eq_false_iff_not]; omega
        have HP : Hid (LPost w0 b T (catW ws) w (.returned (.bool false)) wr) := ⟨false, rfl, HX.out.1.low, HX.out.2, (fun e => by cases e), fun _ => by omega⟩
        clear HX h4
        generalize (T ++ catW ws).length = m at *
        go_wp2_with fail
        refine HLn.out.mono ?_
        rintro e w3 ⟨rfl, hw3⟩
        rw [hw3]
        clear hw3 HLn
        go_wp2
        go_ret
        exact HP.out
set_option maxHeartbeats 1000000 in
theorem firm_calls (k : Int) (w : World) : Calls Tryd.prog 69 #[.int .i64 k] w fun e w' => e = .returned (.int .i64 (firmB k)) ∧ w = w' := by
  have HE : Hid (firmB k = if k = 5 ∨ k = 6 then 0 else if k = 7 then 1 else 2) := rfl
  generalize firmB k = R at *
  by_cases h5 : k = 5
  · have q5 : (k == 5) = true := by rw [h5]; rfl
    have HR : Hid (R = 0) := by have := HE.out; rw [if_pos (.inl h5)] at this; exact this
    clear HE h5
    go_enter Tryd.func69, Tryd.ntmps69
    go_wp2
    go_ret
    exact ⟨ret_int HR.out.symm, rfl⟩
  have q5 : (k == 5) = false := by rw [beq_eq_false_iff_ne]; exact h5
  by_cases h6 : k = 6
  · have q6 : (k == 6) = true := by rw [h6]; rfl
    have HR : Hid (R = 0) := by have := HE.out; rw [if_pos (.inr h6)] at this; exact this
    clear HE h6 h5
    go_enter Tryd.func69, Tryd.ntmps69
    go_wp2
    go_ret
    exact ⟨ret_int HR.out.symm, rfl⟩
  have q6 : (k == 6) = false := by rw [beq_eq_false_iff_ne]; exact h6
  by_cases h7 : k = 7
  · have q7 : (k == 7) = true := by rw [h7]; rfl
    have HR : Hid (R = 1) := by have := HE.out; rw [if_neg (by omega), if_pos h7] at this; exact this
    clear HE h7 h6 h5
    go_enter Tryd.func69, Tryd.ntmps69
    go_wp2
    go_ret
    exact ⟨ret_int HR.out.symm, rfl⟩
  · have q7 : (k == 7) = false := by rw [beq_eq_false_iff_ne]; exact h7
    have HR : Hid (R = 2) := by have := HE.out; rw [if_neg (by omega), if_neg h7] at this; exact this
    clear HE h7 h6 h5
    go_enter Tryd.func69, Tryd.ntmps69
    go_wp2
    go_ret
    exact ⟨ret_int HR.out.symm, rfl⟩
theorem ret_str {a b : ByteArray} (h : a.data.toList = b.data.toList) : Ending.returned (.string a) = Ending.returned (.string b) := by
  obtain ⟨⟨a⟩⟩ := a
  obtain ⟨⟨b⟩⟩ := b
  simp at h
  subst h; rfl
set_option maxHeartbeats 1000000 in
theorem betw_calls (k : Int) (w : World) : Calls Tryd.prog 70 #[.int .i64 k] w fun e w' => e = .returned (.string (bs (sgnB k))) ∧ w = w' := by
  have HE : Hid (sgnB k = if k = 5 then [43] else if k = 6 then [45] else [42]) := rfl
  generalize sgnB k = R at *
  by_cases h5 : k = 5
  · have q5 : (k == 5) = true := by rw [h5]; rfl
    have HR : Hid (R = [43]) := by have := HE.out; rw [if_pos h5] at this; exact this
    clear HE h5
    go_enter Tryd.func70, Tryd.ntmps70
    go_wp2
    go_ret
    exact ⟨by rw [HR.out]; rfl, rfl⟩
  have q5 : (k == 5) = false := by rw [beq_eq_false_iff_ne]; exact h5
  by_cases h6 : k = 6
  · have q6 : (k == 6) = true := by rw [h6]; rfl
    have HR : Hid (R = [45]) := by have := HE.out; rw [if_neg h5, if_pos h6] at this; exact this
    clear HE h6 h5
    go_enter Tryd.func70, Tryd.ntmps70
    go_wp2
    go_ret
    exact ⟨by rw [HR.out]; rfl, rfl⟩
  · have q6 : (k == 6) = false := by rw [beq_eq_false_iff_ne]; exact h6
    have HR : Hid (R = [42]) := by have := HE.out; rw [if_neg h5, if_neg h6] at this; exact this
    clear HE h6 h5
    go_enter Tryd.func70, Tryd.ntmps70
    go_wp2
    go_ret
    exact ⟨by rw [HR.out]; rfl, rfl⟩
set_option maxHeartbeats 1000000 in
theorem sign_calls' (k : Int) (w : World) : Calls Tryd.prog 31 #[.int .i64 k] w fun e w' => e = .returned (.string (bs (signI k))) ∧ w = w' := by
  have HE : Hid (signI k = if k = 8 then [32, 46, 46, 32] else [44, 32]) := rfl
  generalize signI k = R at *
  by_cases h5 : k = 8
  · have q5 : (k == 8) = true := by rw [h5]; rfl
    have HR : Hid (R = [32, 46, 46, 32]) := by have := HE.out; rw [if_pos h5] at this; exact this
    clear HE h5
    go_enter Tryd.func31, Tryd.ntmps31
    go_wp2
    go_ret
    exact ⟨by rw [HR.out]; rfl, rfl⟩
  · have q5 : (k == 8) = false := by rw [beq_eq_false_iff_ne]; exact h5
    have HR : Hid (R = [44, 32]) := by have := HE.out; rw [if_neg h5] at this; exact this
    clear HE h5
    go_enter Tryd.func31, Tryd.ntmps31
    go_wp2
    go_ret
    exact ⟨by rw [HR.out]; rfl, rfl⟩
set_option maxHeartbeats 2000000 in
theorem word_calls' (k : Int) (w : World) : Calls Tryd.prog 48 #[.int .i64 k] w fun e w' => e = .returned (.string (bs (wordI k))) ∧ w = w' := by
  by_cases h2 : k = 2
  · subst h2
    go_enter Tryd.func48, Tryd.ntmps48
    go_wp2
    go_ret
    exact ⟨rfl, rfl⟩
  have q2 : (k == 2) = false := by rw [beq_eq_false_iff_ne]; exact h2
  by_cases h3 : k = 3
  · subst h3
    go_enter Tryd.func48, Tryd.ntmps48
    go_wp2
    go_ret
    exact ⟨rfl, rfl⟩
  have q3 : (k == 3) = false := by rw [beq_eq_false_iff_ne]; exact h3
  by_cases h4 : k = 4
  · subst h4
    go_enter Tryd.func48, Tryd.ntmps48
    go_wp2
    go_ret
    exact ⟨rfl, rfl⟩
  have q4 : (k == 4) = false := by rw [beq_eq_false_iff_ne]; exact h4
  by_cases h5 : k = 5
  · subst h5
    go_enter Tryd.func48, Tryd.ntmps48
    go_wp2
    go_ret
    exact ⟨rfl, rfl⟩
  have q5 : (k == 5) = false := by rw [beq_eq_false_iff_ne]; exact h5
  by_cases h6 : k = 6
  · subst h6
    go_enter Tryd.func48, Tryd.ntmps48
    go_wp2
    go_ret
    exact ⟨rfl, rfl⟩
  have q6 : (k == 6) = false := by rw [beq_eq_false_iff_ne]; exact h6
  by_cases h8 : k = 8
  · subst h8
    go_enter Tryd.func48, Tryd.ntmps48
    go_wp2
    go_ret
    exact ⟨rfl, rfl⟩
  have q8 : (k == 8) = false := by rw [beq_eq_false_iff_ne]; exact h8
  by_cases h9 : k = 9
  · subst h9
    go_enter Tryd.func48, Tryd.ntmps48
    go_wp2
    go_ret
    exact ⟨rfl, rfl⟩
  have q9 : (k == 9) = false := by rw [beq_eq_false_iff_ne]; exact h9
  have HR : Hid (wordI k = [108, 101, 97, 115, 116]) := by
    show _ = _
    unfold wordI
    rw [if_neg h2, if_neg h3, if_neg h4, if_neg h5, if_neg h6, if_neg h8, if_neg h9]
  generalize wordI k = R at *
  clear h2 h3 h4 h5 h6 h8 h9
  go_enter Tryd.func48, Tryd.ntmps48
  go_wp2
  go_ret
  exact ⟨by rw [HR.out]; rfl, rfl⟩
end Go.Proofs.YtpeldiibjhffiaaDoor
namespace Go.Proofs.YtpeldiibjhffiaaDoor
open Go.RowKit Go.Deep

theorem LPost.after {w0 : World} {b : Nat} {T X Y : List UInt8} {w w2 : World} {e : Ending} {w' : World} (h : LPost w0 b (T ++ X) Y w2 e w') (hk : Keep w w2) : LPost w0 b T (X ++ Y) w e w' := by
  obtain ⟨z, h1, h2, h3, h4, h5⟩ := h
  rw [List.append_assoc] at h4 h5
  exact ⟨z, h1, h2, hk.trans h3, h4, h5⟩
theorem LPost.stop {w0 : World} {b : Nat} {T X : List UInt8} (Y : List UInt8) {w w' : World} (hb : Below w0.heap.size w0 w') (hk : Keep w w') (hf : 4000 < (T ++ X).length) : LPost w0 b T (X ++ Y) w (.returned (.bool false)) w' :=
  ⟨false, rfl, hb, hk, (fun e => by cases e), fun _ => by simp only [List.length_append] at hf ⊢; omega⟩
theorem LPost.from {w0 : World} {b : Nat} {T X : List UInt8} {w w2 : World} {e : Ending} {w' : World} (h : LPost w0 b T X w2 e w') (hk : Keep w w2) : LPost w0 b T X w e w' := by
  obtain ⟨z, h1, h2, h3, h4, h5⟩ := h
  exact ⟨z, h1, h2, hk.trans h3, h4, h5⟩
/-- A row of words that was just laid. -/
theorem ws_new (W : World) (ws : List ByteArray) (cs : Array Value) (hc : cs = (ws.map Value.string).toArray) : WsAt (W.alloc (.cells cs 9)) W.heap.size ws := by
  refine ⟨cs, (0, 0), heap_alloc_new W _, fun i s hi => ?_⟩
  rw [hc]
  simp [hi]
theorem keep_alloc (w : World) (o : Obj) : Keep w (w.alloc o) := Keep.of_below ((Below.refl _ _).alloc (Nat.le_refl _) o)
theorem low_alloc (w : World) (o : Obj) : Below w.heap.size w (w.alloc o) := (Below.refl _ _).alloc (Nat.le_refl _) o
theorem Keep.cells {w w' : World} (h : Keep w w') {g : Nat} {cs : Array Value} {t : TypeId} {f : Nat × Nat} (hg : w.heap[g]? = some (.cells cs t f)) (h1 : t ≠ 5) (h2 : t ≠ 51) : w'.heap[g]? = some (.cells cs t f) := h g cs t f ⟨h1, h2⟩ hg
/-- One word more is laid down. -/
theorem lay_one {w0 : World} {b : Nat} {T : List UInt8} {W : World} (h : Sh w0 b T W) (hT : T.length ≤ 4000) (s : ByteArray) (hs : s.size ≤ 100) : Calls Tryd.prog 18 #[.pointer (some ⟨b, 0, none⟩), .slice (some ⟨W.heap.size, 0, none⟩) 1 1] (W.alloc (.cells #[.string s] 9)) (LPost w0 b T s.data.toList W) := by
  have h1 := lay_calls w0 b T W.heap.size 1 1 [s] (W.alloc (.cells #[.string s] 9)) (h.next (low_alloc _ _)) (ws_new W [s] _ rfl) rfl (by omega) hT (by simpa using hs)
  have e : catW [s] = s.data.toList := by simp [catW]
  rw [e] at h1
  exact h1.mono fun e w' hp => hp.from (keep_alloc _ _)
theorem lay_three {w0 : World} {b : Nat} {T : List UInt8} {W : World} (h : Sh w0 b T W) (hT : T.length ≤ 4000) (s t u : ByteArray) (hs : s.size ≤ 100) (ht : t.size ≤ 100) (hu : u.size ≤ 100) : Calls Tryd.prog 18 #[.pointer (some ⟨b, 0, none⟩), .slice (some ⟨W.heap.size, 0, none⟩) 3 3] (W.alloc (.cells #[.string s, .string t, .string u] 9)) (LPost w0 b T (s.data.toList ++ (t.data.toList ++ u.data.toList)) W) := by
  have h1 := lay_calls w0 b T W.heap.size 3 3 [s, t, u] (W.alloc (.cells #[.string s, .string t, .string u] 9)) (h.next (low_alloc _ _)) (ws_new W [s, t, u] _ rfl) rfl (by omega) hT (by simp; omega)
  have e : catW [s, t, u] = s.data.toList ++ (t.data.toList ++ u.data.toList) := by simp [catW]
  rw [e] at h1
  exact h1.mono fun e w' hp => hp.from (keep_alloc _ _)
theorem lay_two {w0 : World} {b : Nat} {T : List UInt8} {W : World} (h : Sh w0 b T W) (hT : T.length ≤ 4000) (s t : ByteArray) (hs : s.size ≤ 100) (ht : t.size ≤ 100) : Calls Tryd.prog 18 #[.pointer (some ⟨b, 0, none⟩), .slice (some ⟨W.heap.size, 0, none⟩) 2 2] (W.alloc (.cells #[.string s, .string t] 9)) (LPost w0 b T (s.data.toList ++ t.data.toList) W) := by
  have h1 := lay_calls w0 b T W.heap.size 2 2 [s, t] (W.alloc (.cells #[.string s, .string t] 9)) (h.next (low_alloc _ _)) (ws_new W [s, t] _ rfl) rfl (by omega) hT (by simp; omega)
  have e : catW [s, t] = s.data.toList ++ t.data.toList := by simp [catW]
  rw [e] at h1
  exact h1.mono fun e w' hp => hp.from (keep_alloc _ _)
/-- An expression is laid down, whatever was laid down before. -/
def LEx (w0 : World) (b : Nat) (e : Ex) (ka : Option Addr) (kn kc : Nat) : Prop := ∀ T w, Sh w0 b T w → T.length ≤ 4000 → Calls Tryd.prog 28 #[.agg #[.int .i64 e.1.kind, .int .i64 e.1.num, .string (bs e.1.text), .slice ka kn kc, .int .i64 e.1.pl], layV b] w (LPost w0 b T (txE e) w)
set_option maxRecDepth 20000 in
set_option maxHeartbeats 4000000 in
theorem layKid_calls {w0 : World} {b : Nat} {e : Ex} {ka : Option Addr} {kn kc : Nat} (HX : LEx w0 b e ka kn kc) (asked : Int) (T : List UInt8) (w : World) (h : Sh w0 b T w) (hT : T.length ≤ 4000) :
    Calls Tryd.prog 46 #[.agg #[.int .i64 e.1.kind, .int .i64 e.1.num, .string (bs e.1.text), .slice ka kn kc, .int .i64 e.1.pl], .int .i64 asked, layV b] w (LPost w0 b T (brB asked (e.1.kind, txE e)) w) := by
  have HL : Hid (LEx w0 b e ka kn kc) := HX
  have HFm : Hid (∀ w, Calls Tryd.prog 69 #[.int .i64 e.1.kind] w fun e' w' => e' = .returned (.int .i64 (firmB e.1.kind)) ∧ w = w') := fun w => firm_calls _ w
  have H1 : Hid (Sh w0 b T (w.alloc (.cells #[.int .i64 e.1.kind, .int .i64 e.1.num, .string (bs e.1.text), .slice ka kn kc, .int .i64 e.1.pl] 40)) ∧ Keep w (w.alloc (.cells #[.int .i64 e.1.kind, .int .i64 e.1.num, .string (bs e.1.text), .slice ka kn kc, .int .i64 e.1.pl] 40)) ∧ (w.alloc (.cells #[.int .i64 e.1.kind, .int .i64 e.1.num, .string (bs e.1.text), .slice ka kn kc, .int .i64 e.1.pl] 40)).heap[w.heap.size]? = some (.cells #[.int .i64 e.1.kind, .int .i64 e.1.num, .string (bs e.1.text), .slice ka kn kc, .int .i64 e.1.pl] 40 (0, 0))) := ⟨h.next (low_alloc _ _), keep_alloc _ _, heap_alloc_new w _⟩
  have HTl : Hid (T.length ≤ 4000) := hT
  have HB : Hid (brB asked (e.1.kind, txE e) = if asked ≤ firmB e.1.kind then txE e else [40] ++ (txE e ++ [41])) := rfl
  generalize brB asked (e.1.kind, txE e) = X at *
  by_cases hf : asked ≤ firmB e.1.kind
  · have hd : decide (asked ≤ firmB e.1.kind) = true := by simpa using hf
    have HX1 : Hid (X = txE e) := by have := HB.out; rw [if_pos hf] at this; exact this
    clear h hT HX HB hf
    generalize firmB e.1.kind = fk at *
    go_enter Tryd.func46, Tryd.ntmps46
    go_wp2_with fail
    refine (HFm.out _).mono ?_
    rintro e' w1 ⟨rfl, rfl⟩
    go_wp2_with fail
    refine (HL.out T _ H1.out.1 HTl.out).mono ?_
    rintro e' w2 ⟨z, rfl, hp⟩
    have HP : Hid (LPost w0 b T X w (.returned (.bool z)) w2) := by
      rw [HX1.out]
      exact LPost.from ⟨z, rfl, hp⟩ H1.out.2.1
    clear hp
    go_wp2
    go_ret
    exact HP.out
  · have hd : decide (asked ≤ firmB e.1.kind) = false := by simpa using hf
    have HX1 : Hid (X = [40] ++ (txE e ++ [41])) := by have := HB.out; rw [if_neg hf] at this; exact this
    clear h hT HX HB hf
    generalize firmB e.1.kind = fk at *
    have HLy := lay_one H1.out.1 HTl.out ⟨#[40]⟩ (by decide)
    have HLy' : Hid (Calls Tryd.prog 18 #[.pointer (some ⟨b, 0, none⟩), .slice (some ⟨w.heap.size + 1, 0, none⟩) 1 1] ((w.alloc (.cells #[.int .i64 e.1.kind, .int .i64 e.1.num, .string (bs e.1.text), .slice ka kn kc, .int .i64 e.1.pl] 40)).alloc (.cells #[.string ⟨#[40]⟩] 9)) (LPost w0 b T [40] (w.alloc (.cells #[.int .i64 e.1.kind, .int .i64 e.1.num, .string (bs e.1.text), .slice ka kn kc, .int .i64 e.1.pl] 40)))) := by
      rw [show (w.alloc (.cells #[.int .i64 e.1.kind, .int .i64 e.1.num, .string (bs e.1.text), .slice ka kn kc, .int .i64 e.1.pl] 40)).heap.size = w.heap.size + 1 by simp] at HLy
      exact HLy
    clear HLy
    go_enter Tryd.func46, Tryd.ntmps46
    go_wp2_with fail
    refine (HFm.out _).mono ?_
    rintro e' w1 ⟨rfl, rfl⟩
    go_wp2_with fail
    refine HLy'.out.mono ?_
    rintro e' w2 ⟨z, rfl, hb2, hk2, ht2, hf2⟩
    cases z with
    | false =>
      have HP : Hid (LPost w0 b T X w (.returned (.bool false)) w2) := by
        rw [HX1.out]
        exact LPost.stop _ hb2 (H1.out.2.1.trans hk2) (hf2 rfl)
      clear hb2 hk2 ht2 hf2
      go_wp2
      go_ret
      exact HP.out
    | true =>
      obtain ⟨hS2, hT2⟩ := ht2 rfl
      have hbx := hk2.cells H1.out.2.2 (by decide) (by decide)
      have x0 := blk (i := 0) hbx rfl
      have x1 := blk (i := 1) hbx rfl
      have x2 := blk (i := 2) hbx rfl
      have x3 := blk (i := 3) hbx rfl
      have x4 := blk (i := 4) hbx rfl
      have H2 : Hid (Sh w0 b (T ++ [40]) w2 ∧ (T ++ [40]).length ≤ 4000 ∧ Keep w w2) := ⟨hS2, hT2, H1.out.2.1.trans hk2⟩
      clear hb2 hk2 ht2 hf2 hS2 hT2 hbx HLy'
      go_wp2_with fail
      refine (HL.out (T ++ [40]) _ H2.out.1 H2.out.2.1).mono ?_
      rintro e' w3 ⟨z, rfl, hb3, hk3, ht3, hf3⟩
      clear x0 x1 x2 x3 x4
      cases z with
      | false =>
        have HP : Hid (LPost w0 b T X w (.returned (.bool false)) w3) := by
          rw [HX1.out]
          exact LPost.after (LPost.stop _ hb3 hk3 (hf3 rfl)) H2.out.2.2
        clear hb3 hk3 ht3 hf3
        go_wp2
        go_ret
        exact HP.out
      | true =>
        obtain ⟨hS3, hT3⟩ := ht3 rfl
        have HLz : Hid (Calls Tryd.prog 18 #[.pointer (some ⟨b, 0, none⟩), .slice (some ⟨w3.heap.size, 0, none⟩) 1 1] (w3.alloc (.cells #[.string ⟨#[41]⟩] 9)) (LPost w0 b (T ++ [40] ++ txE e) [41] w3)) := lay_one hS3 hT3 ⟨#[41]⟩ (by decide)
        have HK3 : Hid (Keep w2 w3) := hk3
        clear hb3 hk3 ht3 hf3 hS3 hT3
        go_wp2_with fail
        refine HLz.out.mono ?_
        rintro e' w4 ⟨z, rfl, hp⟩
        have HP : Hid (LPost w0 b T X w (.returned (.bool z)) w4) := by
          rw [HX1.out]
          exact LPost.after (LPost.after ⟨z, rfl, hp⟩ HK3.out) H2.out.2.2
        clear hp HLz
        go_wp2
        go_ret
        exact HP.out

end Go.Proofs.YtpeldiibjhffiaaDoor
