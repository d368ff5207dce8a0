/-
  There are no more places of what is too many than tokens that were read. The document's own Parse.
-/
import Derived.Test.YtnnmhmlebffacaaG22
import Derived.Test.YtnnmhmlebffacaaG45
import Derived.Test.YtnnmhmlebffacaaG46
namespace Go.Proofs.Ytnnmhmlebffacaa
open Go.RowKit Go.Deep

def MN {α : Type} (x : Rs α) (l : List Tk) : Prop := x.many.length + x.rest.length ≤ l.length
theorem mn_nil {α : Type} {x : Rs α} {l : List Tk} (h : x.many = []) (hs : x.rest <:+ l) : MN x l := by unfold MN; rw [h]; have := hs.length_le; simp; omega
theorem mn_bind {α β : Type} {x : Rs α} {f : α → List Tk → Rs β} {l : List Tk} (h : MN x l) (hf : ∀ a, MN (f a x.rest) x.rest) : MN (x.bind f) l := by
  unfold MN at *
  cases hx : x.val with
  | none => rw [bind_none _ hx]; exact h
  | some a =>
    rw [bind_some _ hx]
    have := hf a
    simp only [List.length_append]
    omega
theorem mn_sign (s : List UInt8) (l : List Tk) : MN (signG s l) l := mn_nil (sign_many s l) (sign_suf s l)
theorem mn_pure {α : Type} (a : α) (l : List Tk) : MN (pure' a l) l := mn_nil rfl (List.suffix_refl _)
theorem mn_wrong {α : Type} (l : List Tk) : MN (wrong' l : Rs α) l := mn_nil rfl (List.suffix_refl _)
theorem mn_close {α : Type} {s : List UInt8} {x : Rs α} {l : List Tk} (h : MN x l) : MN (closeG s x) l :=
  mn_bind h fun _ => mn_bind (mn_sign s _) fun _ => mn_pure _ _
theorem mn_cons {α : Type} {x : Rs α} {t : Tk} {r : List Tk} (h : MN x r) : MN x (t :: r) := by unfold MN at *; simp; omega
theorem mn_note {α : Type} {c : Bool} {t : Tk} {l : List Tk} {x : Rs α} (h : MN x l) : MN (note c l x) (t :: l) := by
  unfold MN at *
  cases c
  · show x.many.length + x.rest.length ≤ _; simp; omega
  · show (plOf l :: x.many).length + x.rest.length ≤ _; simp; omega
section
variable {fac : List Tk → Rs Ex}
theorem mn_termGo (hf : ∀ l, MN (fac l) l) : ∀ (m : Nat) (e : Ex) (l : List Tk), MN (termGo fac m e l) l
  | 0, e, l => mn_pure _ _
  | _ + 1, e, [] => mn_pure _ _
  | m + 1, e, t :: r => by
    rw [termGo]
    split
    · exact mn_cons (mn_bind (hf r) fun a => mn_termGo hf m _ _)
    · exact mn_pure _ _
theorem mn_term (hf : ∀ l, MN (fac l) l) (l : List Tk) : MN (termG fac l) l := mn_bind (hf l) fun _ => mn_termGo hf _ _ _
theorem mn_exprGo (hf : ∀ l, MN (fac l) l) : ∀ (m : Nat) (e : Ex) (l : List Tk), MN (exprGo fac m e l) l
  | 0, e, l => mn_pure _ _
  | _ + 1, e, [] => mn_pure _ _
  | m + 1, e, t :: r => by
    rw [exprGo]
    split
    · exact mn_cons (mn_bind (hf r) fun a => mn_exprGo hf m _ _)
    · exact mn_pure _ _
theorem mn_expr (hf : ∀ l, MN (fac l) l) (l : List Tk) : MN (exprG fac l) l := mn_bind (mn_term hf l) fun _ => mn_exprGo (mn_term hf) _ _ _
theorem mn_kidsGo (hf : ∀ l, MN (fac l) l) : ∀ (m : Nat) (ks : List Ex) (l : List Tk), MN (kidsGo fac m ks l) l
  | 0, e, l => mn_pure _ _
  | _ + 1, e, [] => mn_pure _ _
  | m + 1, e, t :: r => by
    rw [kidsGo]
    split
    · exact mn_note (mn_bind (hf r) fun a => mn_kidsGo hf m _ _)
    · exact mn_pure _ _
theorem mn_kids (hf : ∀ l, MN (fac l) l) (l : List Tk) : MN (kidsG fac l) l :=
  mn_bind (mn_sign _ l) fun _ => mn_close (mn_bind (hf _) fun _ => mn_kidsGo hf _ _ _)
end
theorem mn_map {α β : Type} {x : Rs α} {f : α → β} {l : List Tk} (h : MN x l) : MN (x.map f) l := h
theorem mn_fac : ∀ (n : Nat) (l : List Tk), MN (facN n l) l
  | 0, l => mn_wrong _
  | _ + 1, [] => mn_wrong _
  | n + 1, t :: r => by
    have h := mn_fac n
    rw [facN]
    repeat' split
    all_goals first
      | exact mn_cons (mn_pure _ _)
      | exact mn_wrong _
      | exact mn_cons (mn_map (h r))
      | exact mn_cons (mn_close (mn_expr h r))
      | exact mn_cons (mn_map (mn_kids (mn_expr h) r))
section
variable {ex : List Tk → Rs Ex}
theorem mn_one (hf : ∀ l, MN (ex l) l) (l : List Tk) : MN (oneG ex l) l := mn_bind (hf l) fun _ => mn_pure _ _
theorem mn_both (hf : ∀ l, MN (ex l) l) (s : List UInt8) (l : List Tk) : MN (bothG ex s l) l :=
  mn_bind (hf l) fun _ => mn_bind (mn_sign s _) fun _ => mn_bind (hf _) fun _ => mn_pure _ _
theorem mn_body (hf : ∀ l, MN (ex l) l) (k : Int) (l : List Tk) : MN (bodyG ex k l) l := by
  unfold bodyG
  repeat' split
  · exact mn_bind (mn_nil (name_many l) (name_suf' l)) fun _ => mn_bind (mn_sign _ _) fun _ => mn_bind (mn_one hf _) fun _ => mn_pure _ _
  · exact mn_bind (mn_nil (way_many l) (way_suf' l)) fun _ => mn_pure _ _
  · exact mn_bind (mn_both hf _ l) fun _ => mn_pure _ _
  · exact mn_bind (mn_both hf _ l) fun _ => mn_pure _ _
  · exact mn_bind (mn_one hf l) fun _ => mn_pure _ _
theorem mn_item (hf : ∀ l, MN (ex l) l) (l : List Tk) : MN (itemG ex l) l := by
  cases l with
  | nil => exact mn_wrong _
  | cons t r =>
    show MN (if t.kind = 4 ∧ itemKindB t.text ≠ 0 then (closeG [59] (bodyG ex (itemKindB t.text) r)).map (fun b => (⟨itemKindB t.text, b.1, b.2, t.pl⟩ : It)) else wrong' (t :: r)) (t :: r)
    split
    · exact mn_cons (mn_map (mn_close (mn_body hf _ r)))
    · exact mn_wrong _
end
theorem mn_itemN (l : List Tk) : MN (itemG (exprN mx) l) l := mn_item (mn_expr (mn_fac mx)) l
end Go.Proofs.Ytnnmhmlebffacaa
namespace Go.Proofs.Ytnnmhmlebffacaa
open Go.RowKit Go.Deep

theorem cell_i_new2 (W : World) (o : Obj) (x : Is) : ∀ (i : Nat) (u : Value), (isCells x)[i]? = some u → ((W.alloc o).alloc (.cells #[.int .i64 x.1.kind, .string (bs x.1.name), .slice x.2.1 x.2.2.1 x.2.2.2, .int .i64 x.1.pl] 42)).cell? ((⟨W.heap.size + 1, 0, none⟩ : Addr).add i) = some u := by
  intro i u hi
  have h := cell_i_new (W.alloc o) x i u hi
  rw [show (W.alloc o).heap.size = W.heap.size + 1 by simp] at h
  exact h
theorem source_step {ex : List Tk → Rs Ex} {X : Rs (List It)} {m2 : Nat} {its : List It} {t : Tk} {r : List Tk} {m' : List Int} (ht : ¬ t.kind = 1) (hm : (t :: r).length ≤ m2) (h : EqR X (sourceGo ex m2 its (t :: r)) [] m') (hs : ∀ l, (ex l).rest <:+ l) :
    ((itemG ex (t :: r)).val = none → X.val = none ∧ X.rest = (itemG ex (t :: r)).rest) ∧
    ∀ i, (itemG ex (t :: r)).val = some i → (itemG ex (t :: r)).rest.length < (t :: r).length ∧ ∃ m3, (itemG ex (t :: r)).rest.length ≤ m3 ∧ EqR X (sourceGo ex m3 (its ++ [i]) (itemG ex (t :: r)).rest) [] (m' ++ (if its.length = 100 then [(t.pl : Int)] else []) ++ (itemG ex (t :: r)).many) := by
  cases m2 with
  | zero => simp at hm
  | succ m2 =>
    rw [sourceGo, if_neg ht, note_pre] at h
    obtain ⟨h1, h2, h3⟩ := h
    refine ⟨fun hn => ?_, fun i hi => ?_⟩
    · rw [bind_none _ hn] at h1 h2
      exact ⟨h1, h2⟩
    · have hl := suf_len (item_suf hs hi)
      rw [bind_some _ hi] at h1 h2 h3
      refine ⟨by simp; omega, m2, by simp at hm; omega, h1, h2, ?_⟩
      rw [h3]
      by_cases h8 : its.length = 100
      · simp [pre, h8, plOf]
      · simp [pre, h8]
theorem source_end {ex : List Tk → Rs Ex} {X : Rs (List It)} {m2 : Nat} {its : List It} {t : Tk} {r : List Tk} {m' : List Int} (ht : t.kind = 1) (h : EqR X (sourceGo ex m2 its (t :: r)) [] m') (hm : (t :: r).length ≤ m2) : X.val = some its ∧ X.rest = t :: r ∧ X.many = m' := by
  cases m2 with
  | zero => simp at hm
  | succ m2 =>
    rw [sourceGo, if_pos ht] at h
    obtain ⟨h1, h2, h3⟩ := h
    exact ⟨h1, h2, by simpa [pure'] using h3⟩
theorem RIs.cell2 {B b : Nat} {ta : Option Addr} {tn tc : Nat} {T l : List Tk} {bad : Bool} {m : List Int} {w : World} (h : RIs B b ta tn tc T l bad m w) : ∃ cs, w.heap[b]? = some (.cells cs 58 (0, 0)) ∧ cs[2]? = some (.bool bad) := by
  obtain ⟨m', h1, _⟩ := h
  obtain ⟨k, mv, mn, _, _, hb, _⟩ := h1.block
  exact ⟨_, hb, rfl⟩
theorem tree_none {A : List It × Int × Int} {c p : Int} {w W : World} (hA : A = ([], c, p)) (h : Below w.heap.size w W) : TreePost A w (.returned (.tuple #[.agg #[.slice none 0 0], .agg #[.int .i64 c, .int .i64 p]])) W := by
  subst hA
  exact ⟨none, 0, 0, rfl, by omega, rfl, h⟩
set_option maxRecDepth 20000 in
set_option maxHeartbeats 8000000 in
theorem refParse_calls (s : ByteArray) (w : World) : Calls Try.prog 10 #[.string s] w fun e w' => TreePost (parseW s.data.toList) w e w' := by
  have hres : Try.f10.results = #[.cell 2 24, .cell 3 27] := by kernel_rfl
  have HSc : Hid (∀ w, Calls Try.prog 25 #[.string s] w fun e w' => ScanPost (scanB s.data.toList) w e w') := fun w => refScan_calls s w
  have HP : Hid (parseW s.data.toList = if (scanB s.data.toList).2.2 ≠ 0 then ([], (scanB s.data.toList).2.2, ((scanB s.data.toList).2.1 : Int)) else endW (sourceG (scanB s.data.toList).1)) := rfl
  have HG : Hid ((scanB s.data.toList).2.2 = 0 → (∃ T', (scanB s.data.toList).1 = T' ++ [endTk s.data.toList.length]) ∧ ((scanB s.data.toList).1.Pairwise fun a b => a.pl < b.pl) ∧ ∀ t ∈ (scanB s.data.toList).1, WdT t) := fun h => by
    obtain ⟨_, _, T', h1, _, h2⟩ := scan_good h
    exact ⟨⟨T', h1⟩, h2, scan_wd h⟩
  have HTk : Hid ((∀ t ∈ (scanB s.data.toList).1, TkOk t) ∧ (scanB s.data.toList).1.length ≤ 4001) := ⟨scan_ok _, scan_few _⟩
  generalize parseW s.data.toList = A at *
  generalize scanB s.data.toList = sc at *
  obtain ⟨T, at0, z⟩ := sc
  have hR0 : ∀ w1 : World, Below ((w.alloc (.cells #[.slice none 0 0] 24)).alloc (.cells #[.int .i64 0, .int .i64 0] 27)).heap.size ((w.alloc (.cells #[.slice none 0 0] 24)).alloc (.cells #[.int .i64 0, .int .i64 0] 27)) w1 → ResAt w w1.heap.size w1 := fun w1 hb1 => by
    have hsz : ((w.alloc (.cells #[.slice none 0 0] 24)).alloc (.cells #[.int .i64 0, .int .i64 0] 27)).heap.size = w.heap.size + 2 := by simp
    have hs := hb1.size
    refine ⟨(below_two w _ _).trans (hb1.mono (by omega)), by omega, ?_, ?_⟩
    · rw [hb1.block _ (by rw [hsz]; omega)]; exact heap_old (heap_alloc_new w _)
    · rw [hb1.block _ (by rw [hsz]; omega)]
      have := heap_alloc_new (w.alloc (.cells #[.slice none 0 0] 24)) (.cells #[.int .i64 0, .int .i64 0] 27)
      rwa [show (w.alloc (.cells #[.slice none 0 0] 24)).heap.size = w.heap.size + 1 by simp] at this
  have HR0 : Hid _ := hR0
  clear hR0
  by_cases hz : z = 0
  · subst hz
    have q : ((0 : Int) != 0) = false := rfl
    have HA : Hid (A = endW (sourceG T)) := by
      have := HP.out
      rw [if_neg (by simp)] at this; exact this
    obtain ⟨⟨T', hT'⟩, hPw, hT⟩ := HG.out rfl
    have HT' : Hid (T = T' ++ [endTk s.data.toList.length]) := hT'
    have HPw : Hid ((T.Pairwise fun a b => a.pl < b.pl) ∧ CM (sourceG T).many T (sourceG T).rest) := ⟨hPw, mc_sourceG T⟩
    have HQ0 : Hid (EqR (sourceG T) (sourceGo (exprN mx) mx [] T) [] []) := ⟨rfl, rfl, rfl⟩
    clear HP HG hT' hPw
    generalize sourceG T = X at *
    go_enter Try.func10, Try.ntmps10
    go_wp2_with fail
    refine (HSc.out _).mono ?_
    rintro e w2 ⟨v, rfl, ho1, hb1⟩
    have hra := HR0.out w2 hb1
    obtain ⟨ta, tc, rfl⟩ := owned_shape ho1
    have hlt2 := hra.2.1
    have hQ : QR w2.heap.size w2.heap.size ta T.length tc T (w2.alloc (.cells #[.slice ta T.length tc, .int .i64 0, .bool false, .slice none 0 0] 58)) T false [] [] (.slice none 0 0) 0 ((w2.alloc (.cells #[.slice ta T.length tc, .int .i64 0, .bool false, .slice none 0 0] 58)).alloc (.cells #[.slice none 0 0] 24)) ∧ ResAt w w2.heap.size (w2.alloc (.cells #[.slice ta T.length tc, .int .i64 0, .bool false, .slice none 0 0] 58)) := by
      have hbel : Below w2.heap.size w2 (w2.alloc (.cells #[.slice ta T.length tc, .int .i64 0, .bool false, .slice none 0 0] 58)) := (Below.refl _ _).alloc (Nat.le_refl _) _
      have htk : TksAt w2 ta T.length T := owned_tks ho1 HTk.out.1
      have hpos : 0 < T.length := by rw [HT'.out]; simp
      have hRA : RAt w2.heap.size w2.heap.size ta T.length tc T T false [] (w2.alloc (.cells #[.slice ta T.length tc, .int .i64 0, .bool false, .slice none 0 0] 58)) := by
        refine ⟨⟨0, .slice none 0 0, 0, rfl, hpos, heap_alloc_new w2 _, World.ownsRow_nil _ _ _ _⟩, htk.below hbel, fun x hx => ?_, Nat.le_refl _, ⟨T', _, HT'.out, rfl⟩, HTk.out.2, fun _ => ?_⟩
        · obtain ⟨b', off', hao, hc⟩ := htk.cells hpos
          have hc0 := (hc 0 T[0] (by simp)).1
          rw [hao] at hx
          cases hx
          exact World.block_lt_of_cell? w2 _ hc0
        · have := HTk.out.2
          simp; omega
      have hb9 := (Below.refl (w2.alloc (.cells #[.slice ta T.length tc, .int .i64 0, .bool false, .slice none 0 0] 58)).heap.size (w2.alloc (.cells #[.slice ta T.length tc, .int .i64 0, .bool false, .slice none 0 0] 58))).alloc (Nat.le_refl _) (.cells #[.slice none 0 0] 24)
      exact ⟨⟨hRA.ris.below hb9, Kr.of_below hb9, by simp, Nat.le_refl _, heap_alloc_new _ _, World.ownsRow_nil _ _ _ _⟩, hra.next hbel⟩
    have HQR : Hid _ := hQ
    clear hQ hra ho1 hb1 HSc HR0 HT'
    go_wp2_with fail
    have hs1 : (w2.alloc (.cells #[.slice ta T.length tc, .int .i64 0, .bool false, .slice none 0 0] 58)).heap.size = w2.heap.size + 1 := by simp
    generalize w2.alloc (.cells #[.slice ta T.length tc, .int .i64 0, .bool false, .slice none 0 0] 58) = w1 at *
    generalize w2.heap.size = b at *
    generalize b + 1 = g8 at *
    subst hs1
    clear w2
    go_loopg [] (2 * T.length + 1) (fun kk wr => ∃ (l' : List Tk) (bad' : Bool) (m' : List Int) (xs : List Is) (ao : Option Addr) (c cap : Nat), 2 * l'.length + (if bad' then 0 else 1) = kk ∧ Hid (QR b b ta T.length tc T w1 l' bad' m' xs (.slice ao c cap) c wr) ∧ Hid ((bad' = true → X.val = none ∧ X.rest = l') ∧ (bad' = false → QX w1 xs (.slice ao c cap) wr ∧ (∃ m2, l'.length ≤ m2 ∧ EqR X (sourceGo (exprN mx) m2 (xs.map (·.1)) l') [] m') ∧ m'.length + l'.length ≤ 4001 + (if xs.length ≤ 100 then 0 else 1)) ∧ (bad' = false → xs.length + l'.length ≤ 4002)))
    case atStart =>
      refine ⟨T, false, [], [], none, 0, 0, rfl, HQR.out.1, ⟨(fun e => by cases e), fun _ => ⟨(fun x hx => by cases hx), ⟨mx, HTk.out.2, HQ0.out⟩, ?_⟩, ?_⟩⟩
      · have := HTk.out.2; simp; omega
      · intro _; have := HTk.out.2; simp; omega
    case round =>
      obtain ⟨l', bad', m', xs, ao, c, cap, hkk, HKR, HL⟩ := hrel
      obtain ⟨t, r, rfl⟩ := HKR.out.p.here1
      have hfd0 := fld48_0
      have hfd3 := fld48_3
      have HNx : Hid (∀ m bad W, RIs b b ta T.length tc T (t :: r) bad m W → Calls Try.prog 26 #[.pointer (some ⟨b, 0, none⟩)] W fun e w' => e = .returned (.agg #[.int .i64 t.kind, .int .i64 t.num, .string (bs t.text), .int .i64 (t.pl : Int)]) ∧ Below W.heap.size W w') := fun m bad W h => h.nextC
      cases bad' with
      | true =>
        have HE1 : Hid (A = ([], 70, (t.pl : Int))) := by
          have h1 := HL.out.1 rfl
          show A = _
          rw [HA.out]; unfold endW; rw [h1.1, h1.2]; rfl
        have hq : (t.kind != 1) = false ∨ (t.kind != 1) = true := by cases (t.kind != 1) <;> simp
        clear HL HA HQ0 HPw HTk hT hkk
        rcases hq with q | q <;> (
          go_wp2_with fail
          refine (HNx.out _ _ _ HKR.out.p).mono ?_
          rintro e w3 ⟨rfl, hb3⟩
          have HK3 : Hid (QR b b ta T.length tc T w1 (t :: r) true m' xs (.slice ao c cap) c w3) := HKR.out.next hb3
          obtain ⟨cs3, hbk3, hc3⟩ := HK3.out.p.cell2
          have b2 := blk (i := 2) hbk3 hc3
          clear hb3 hbk3 hc3 HKR
          go_wp2_with fail
          refine (HNx.out _ _ _ HK3.out.p).mono ?_
          rintro e w4 ⟨rfl, hb4⟩
          have hra := (HK3.out.next hb4).res hlt2 HQR.out.2
          obtain ⟨r0, r1, r2, r3, r4, r5⟩ := hra.facts
          have HBf : Hid _ := hra.set (.slice none 0 0) (.int .i64 70) (.int .i64 (t.pl : Int))
          clear hra hb4 HK3 HNx HQR
          go_wp2
          refine bodyPost_ret (v := .tuple #[.agg #[.slice none 0 0], .agg #[.int .i64 70, .int .i64 (t.pl : Int)]]) ?_ rfl ?_
          · simp only [results, hres]
            go_simp
          · exact tree_none HE1.out HBf.out)
      | false =>
        by_cases hs : t.kind = 1
        · skip
          have q : (t.kind != 1) = false := by rw [hs]; rfl
          obtain ⟨hX0, ⟨m2, hm2, hQ2⟩, -⟩ := HL.out.2.1 rfl
          obtain ⟨x1, x2, x3⟩ := source_end hs hQ2 hm2
          have hcl := HL.out.2.2 rfl
          have hcc := HKR.out.len
          have hc4 : c ≤ 4002 := by omega
          have HXe : Hid (QX w1 xs (.slice ao c cap) wr) := hX0
          have HXm : Hid (∀ a ∈ m', ∀ y ys, m' = y :: ys → y ≤ a) := by
            have h1 := HPw.out.2
            rw [x3] at h1
            intro a ha y ys he
            subst he
            exact cm_first (by rw [x2]; simp) HPw.out.1 h1 a ha
          have HEd : Hid (A = if (flt m' (0, 0)).1 ≠ 0 then ([], flt m' (0, 0)) else if (deepR (xs.map (·.1))).1 ≠ 0 then ([], deepR (xs.map (·.1))) else (xs.map (·.1), 0, 0)) := by
            show A = _
            rw [HA.out]; unfold endW; rw [x1, x3]
          clear hX0 hm2 hQ2 x1 x2 x3 hs HL HA HQ0 HPw HTk hT hcl hcc hkk
          go_wp2_with fail
          refine (HNx.out _ _ _ HKR.out.p).mono ?_
          rintro e w3 ⟨rfl, hb3⟩
          have HK3 : Hid (QR b b ta T.length tc T w1 (t :: r) false m' xs (.slice ao c cap) c w3 ∧ QX w1 xs (.slice ao c cap) w3) := ⟨HKR.out.next hb3, HXe.out.next hb3⟩
          obtain ⟨m9, hA9, hm9⟩ := HK3.out.1.p
          have hm8 := hm9 rfl
          subst hm8
          obtain ⟨k9, mv9, mn9, -, -, hb9, hown9⟩ := hA9.block
          obtain ⟨ma, mc, rfl⟩ := owned_shape hown9
          have b2 := blk (i := 2) hb9 rfl
          have b3 := blk (i := 3) hb9 rfl
          have hmn : mn9 = m9.length := by have := hown9.1; simpa using this.symm
          have hml : m9.length ≤ 4200 := by have := hA9.cnt rfl; omega
          have HRA : Hid (ResAt w b w3) := HK3.out.1.res hlt2 HQR.out.2
          clear hb3 HKR HXe hA9 hm9 hb9 HNx HQR
          cases m9 with
          | cons a mr =>
            have h0 : ¬ mn9 = 0 := by rw [hmn]; simp
            have hd0 : decide ((0 : Int) < (mn9 : Int)) = true := by simp; omega
            obtain ⟨g, hma, hc0⟩ := owned_int hown9 (i := 0) (z := a) rfl
            subst hma
            have HOw : Hid (∀ i z, (a :: mr)[i]? = some z → w3.cell? ⟨g, i, none⟩ = some (.int .i64 z)) := fun i z hz => by
              obtain ⟨g', e, h1⟩ := owned_int hown9 hz
              cases e
              exact h1
            have HE2 : Hid (A = ([], 72, a)) := by
              show A = _
              rw [HEd.out]; rfl
            have HMn : Hid (mn9 = (a :: mr).length) := hmn
            have hmb : mn9 ≤ 4200 := by omega
            clear hown9 HEd HK3 hmn hml
            go_wp2_with fail
            go_loopg [10, 11] mn9 (fun k lv iv ws => ∃ (i : Nat), lv = .int .i64 a ∧ iv = .int .i64 (i : Int) ∧ i + k = mn9 ∧ Hid (ws.cell? ⟨b, 3, none⟩ = some (.slice (some ⟨g, 0, none⟩) mn9 mc) ∧ (∀ i z, (a :: mr)[i]? = some z → ws.cell? ⟨g, i, none⟩ = some (.int .i64 z)) ∧ ResAt w b ws))
            case atStart => exact ⟨0, rfl, rfl, by omega, b3, HOw.out, HRA.out⟩
            case round =>
              obtain ⟨i, rfl, rfl, hik, HT⟩ := hrel
              have p3 := HT.out.1
              clear b2 b3 hc0 HOw HRA
              by_cases hi : i < mn9
              · have hdi : decide ((i : Int) < (mn9 : Int)) = true := by simp; omega
                have hz1 : (a :: mr)[i]? = some ((a :: mr)[i]'(by rw [← HMn.out]; exact hi)) := List.getElem?_eq_getElem _
                have hz2 := HT.out.2.1 i _ hz1
                have hz3 : min a ((a :: mr)[i]'(by rw [← HMn.out]; exact hi)) = a := by
                  have := HXm.out _ (List.mem_of_getElem? hz1) a mr rfl
                  omega
                clear hz1
                generalize (a :: mr)[i]'(by rw [← HMn.out]; exact hi) = z at *
                go_wp2_with fail
                go_roundg (gk - 1)
                case measure => omega
                case rel => exact ⟨i + 1, (by first | rfl | rw [hz3]), by go_num, by omega, HT.out⟩
              · have hdi : decide ((i : Int) < (mn9 : Int)) = false := by simp; omega
                obtain ⟨r0, r1, r2, r3, r4, r5⟩ := HT.out.2.2.facts
                have HBf : Hid _ := HT.out.2.2.set (.slice none 0 0) (.int .i64 72) (.int .i64 a)
                clear HT
                go_wp2
                refine bodyPost_ret (v := .tuple #[.agg #[.slice none 0 0], .agg #[.int .i64 72, .int .i64 a]]) ?_ rfl ?_
                · simp only [results, hres]
                  go_simp
                · exact tree_none HE2.out HBf.out
          | nil =>
            have hmn' : mn9 = 0 := hmn
            subst hmn'
            have HI : Hid (ItsAt true (fun g => w1.heap.size + 1 ≤ g) w3 (xs.map (·.1)) ao c) := HK3.out.1.done HK3.out.2 rfl
            have htv : w3.heap[w1.heap.size]? = some (.cells #[.slice ao c cap] 24 (0, 0)) := HK3.out.1.tv
            have HE3 : Hid (A = if (deepR (xs.map (·.1))).1 ≠ 0 then ([], deepR (xs.map (·.1))) else (xs.map (·.1), 0, 0)) := HEd.out
            have HLw : Hid (Below w.heap.size w w3 ∧ w.heap.size + 1 < w1.heap.size) := ⟨HRA.out.1, by have := HRA.out.2.1; have := HK3.out.1.nb; omega⟩
            clear hown9 HEd HK3 hmn hml HXm
            generalize xs.map (·.1) = its at *
            obtain ⟨g, off, hka, hF⟩ := itsAt_addr HI.out
            generalize hR : deepR its = R at *
            have HR : Hid (deepR its = R) := hR
            have HF : Hid (ItsAt true (fun g => w1.heap.size + 1 ≤ g) w3 its (some ⟨g, off + 0 * 4, none⟩) (c - 0)) := hF
            have HTv : Hid (w3.heap[w1.heap.size]? = some (.cells #[.slice ao c cap] 24 (0, 0))) := htv
            clear hF hR htv
            go_wp2_with fail
            go_loopg [12] c (fun k iv ws => ∃ (L' : List It) (i : Nat), iv = .int .i64 (i : Int) ∧ i + k = c ∧ Hid (ItsAt true (fun g => w1.heap.size + 1 ≤ g) ws L' (some ⟨g, off + i * 4, none⟩) (c - i) ∧ deepR L' = R) ∧ Hid (ResAt w b ws ∧ ws.heap[w1.heap.size]? = some (.cells #[.slice ao c cap] 24 (0, 0)) ∧ ItsAt true (fun g => w1.heap.size + 1 ≤ g) ws its ao c))
            case atStart => exact ⟨its, 0, rfl, by omega, ⟨HF.out, HR.out⟩, HRA.out, HTv.out, HI.out⟩
            case round =>
              clear HF HR HRA HTv HI b2 b3
              obtain ⟨L', i, rfl, hik, HT, HB⟩ := hrel
              have tv0 := blk (i := 0) HB.out.2.1 rfl
              by_cases hi : i < c
              · have hdi : decide ((i : Int) < (c : Int)) = true := by simp; omega
                obtain ⟨it, r9, ka, kc, kk, rfl, -, hok, hkc, ⟨c0, c1, c2, c3⟩, hk2, hr2⟩ := itsAt_head HT.out.1 hi
                have hka2 := hka (by omega)
                subst hka2
                have HDc : Hid (Calls Try.prog 28 #[.agg #[.int .i64 it.kind, .string (bs it.name), .slice ka kc kk, .int .i64 it.pl]] wr fun e w' => e = .returned (.bool (deepW it)) ∧ Below wr.heap.size wr w') := deepR1_calls it ka kc kk wr hkc hk2
                have HRs : Hid (ItsAt true (fun g => w1.heap.size + 1 ≤ g) wr r9 (some ⟨g, off + (i + 1) * 4, none⟩) (c - (i + 1)) ∧ (if deepW it then (71, it.pl) else deepR r9) = R) := ⟨hr2, by have := HT.out.2; rw [deepR_cons] at this; exact this⟩
                clear HT hk2 hr2 hok hkc
                generalize deepW it = dw at *
                go_wp2_with fail
                refine HDc.out.mono ?_
                rintro e w5 ⟨rfl, hb5⟩
                have HB5 : Hid (ResAt w b w5 ∧ w5.heap[w1.heap.size]? = some (.cells #[.slice (some ⟨g, off, none⟩) c cap] 24 (0, 0)) ∧ ItsAt true (fun g => w1.heap.size + 1 ≤ g) w5 its (some ⟨g, off, none⟩) c) := ⟨HB.out.1.next hb5, by rw [hb5.block _ (lt_block HB.out.2.1)]; exact HB.out.2.1, HB.out.2.2.below hb5⟩
                have HR5 : Hid (ItsAt true (fun g => w1.heap.size + 1 ≤ g) w5 r9 (some ⟨g, off + (i + 1) * 4, none⟩) (c - (i + 1))) := HRs.out.1.below hb5
                have d3 := keepc hb5 c3
                have tv5 := blk (i := 0) HB5.out.2.1 rfl
                cases dw with
                | true =>
                  have HX : Hid (A = ([], 71, it.pl)) := by
                    have h1 := HRs.out.2
                    rw [if_pos rfl] at h1
                    show A = _
                    rw [HE3.out, ← h1]; rfl
                  have hra := HB5.out.1.next (Below.refl _ _).drew
                  obtain ⟨r0, r1, r2, r3, r4, r5⟩ := HB5.out.1.facts
                  have HBf : Hid _ := hra.set (.slice none 0 0) (.int .i64 71) (.int .i64 it.pl)
                  have hne1 : ¬ w1.heap.size = w.heap.size := by have := HLw.out.2; omega
                  have hne2 : ¬ w1.heap.size = w.heap.size + 1 := by have := HLw.out.2; omega
                  clear hb5 HB HDc HRs HR5 HB5 hra c0 c1 c2 c3 tv0 HE3 HLw
                  go_wp2_with fail
                  go_region
                  go_wp2
                  refine bodyPost_ret (v := .tuple #[.agg #[.slice none 0 0], .agg #[.int .i64 71, .int .i64 it.pl]]) ?_ rfl ?_
                  · simp only [results, hres]
                    go_simp
                  · exact tree_none HX.out HBf.out
                | false =>
                  have HR6 : Hid (deepR r9 = R) := by
                    have h1 := HRs.out.2
                    rw [if_neg (by decide)] at h1
                    exact h1
                  clear hb5 HB HDc HRs c0 c1 c2 c3 tv0
                  go_wp2_with fail
                  go_roundg (gk - 1)
                  case measure => omega
                  case rel => exact ⟨r9, i + 1, by go_num, by omega, ⟨HR5.out, HR6.out⟩, HB5.out⟩
              · have hdi : decide ((i : Int) < (c : Int)) = false := by simp; omega
                have HX : Hid (A = (its, 0, 0)) := by
                  obtain ⟨h1, h2⟩ := HT.out
                  rw [show c - i = 0 by omega] at h1
                  have h3 := itsAt_end h1
                  subst h3
                  have h4 : R = (0, 0) := h2.symm
                  show A = _
                  rw [HE3.out, h4]; rfl
                obtain ⟨r0, r1, r2, r3, r4, r5⟩ := HB.out.1.facts
                have HBf : Hid (TreePost (its, 0, 0) w (.returned (.tuple #[.agg #[.slice ao c cap], .agg #[.int .i64 0, .int .i64 0]])) (((wr.setCell ⟨w.heap.size, 0, none⟩ (.slice ao c cap)).setCell ⟨w.heap.size + 1, 0, none⟩ (.int .i64 0)).setCell ⟨w.heap.size + 1, 1, none⟩ (.int .i64 0))) := by
                  refine ⟨ao, c, cap, rfl, hc4, ?_, HB.out.1.set _ _ _⟩
                  have hl := HLw.out.2
                  refine ItsAt.base (fun g _ hg => ?_) (itsAt_keep (fun g _ hg => ?_) HB.out.2.2)
                  · have h5 : w1.heap.size + 1 ≤ g := hg
                    show w.heap.size ≤ g
                    omega
                  · have h5 : w1.heap.size + 1 ≤ g := hg
                    exact heap_other (heap_other (heap_other rfl (by omega)) (by omega)) (by omega)
                clear HT HB HE3 HLw
                go_wp2
                refine bodyPost_ret (v := .tuple #[.agg #[.slice ao c cap], .agg #[.int .i64 0, .int .i64 0]]) ?_ rfl ?_
                · simp only [results, hres]
                  go_simp
                · rw [HX.out]; exact HBf.out
        · skip
          have q : (t.kind != 1) = true := by simpa using hs
          obtain ⟨hX0, ⟨m2, hm2, hQ2⟩, hCr⟩ := HL.out.2.1 rfl
          have HQr : Hid (((itemG (exprN mx) (t :: r)).val = none → X.val = none ∧ X.rest = (itemG (exprN mx) (t :: r)).rest) ∧
              ∀ i, (itemG (exprN mx) (t :: r)).val = some i → (itemG (exprN mx) (t :: r)).rest.length < (t :: r).length ∧ ∃ m3, (itemG (exprN mx) (t :: r)).rest.length ≤ m3 ∧ EqR X (sourceGo (exprN mx) m3 (xs.map (·.1) ++ [i]) (itemG (exprN mx) (t :: r)).rest) [] (m' ++ (if (xs.map (·.1)).length = 100 then [(t.pl : Int)] else []) ++ (itemG (exprN mx) (t :: r)).many)) := source_step hs hm2 hQ2 (expr_suf (fac_suf mx))
          have HCr : Hid (m'.length + (t :: r).length ≤ 4001 + (if xs.length ≤ 100 then 0 else 1)) := hCr
          have HLn : Hid (xs.length + (t :: r).length ≤ 4002) := HL.out.2.2 rfl
          have HLm : Hid (c = xs.length) := HKR.out.len
          have hc4 : c ≤ 4002 := by have h3 := HLm.out; have h4 := HLn.out; omega
          have HS9 : Hid (QX w1 xs (.slice ao c cap) wr) := hX0
          have HIt : Hid (∀ m W, RIs b b ta T.length tc T (t :: r) false m W → Calls Try.prog 27 #[.pointer (some ⟨b, 0, none⟩)] W (IPost b b ta T.length tc T m (itemG (exprN mx) (t :: r)) W)) := fun m W hW => itemR_calls W hW hT (Nat.le_refl _)
          clear hX0 hm2 hQ2 hCr hs HL hT
          go_wp2_with fail
          refine (HNx.out _ _ _ HKR.out.p).mono ?_
          rintro e wr3 ⟨rfl, hb3⟩
          have HS1 : Hid (QR b b ta T.length tc T w1 (t :: r) false m' xs (.slice ao c cap) c wr3 ∧ QX w1 xs (.slice ao c cap) wr3) := ⟨HKR.out.next hb3, HS9.out.next hb3⟩
          obtain ⟨cs3, hbk3, hc3⟩ := HS1.out.1.p.cell2
          have b2 := blk (i := 2) hbk3 hc3
          have tv3 := blk (i := 0) HS1.out.1.tv rfl
          clear hb3 hbk3 hc3 HKR HS9
          by_cases h8 : c = 100
          · skip
            have hb8 : ((c : Int) == 100) = true := by rw [beq_iff_eq]; omega
            have H8c : Hid (c = 100) := h8
            clear h8
            obtain ⟨m0, hA0, hm0⟩ := HS1.out.1.p
            have hm1 := hm0 rfl
            subst hm1
            obtain ⟨k, mv, mn, hk, hkT, hb, hown⟩ := hA0.block
            obtain ⟨ma, mc, rfl⟩ := owned_shape hown
            have HML : Hid (mn = m0.length) := by show mn = m0.length; have := hown.1; simpa using this.symm
            have HS0 : Hid ((fun W : World => W.heap[b]? = some (.cells #[.slice ta T.length tc, .int .i64 (k : Int), .bool false, .slice ma mn mc] 58 (0, 0))) wr3.drew) := hb
            have HD : Hid (QR b b ta T.length tc T w1 (t :: r) false m0 xs (.slice ao c cap) c wr3.drew ∧ QX w1 xs (.slice ao c cap) wr3.drew) := ⟨HS1.out.1.next (Below.refl _ _).drew, HS1.out.2.next (Below.refl _ _).drew⟩
            have HNy : Hid (Calls Try.prog 26 #[.pointer (some ⟨b, 0, none⟩)] wr3.drew fun e w' => e = .returned (.agg #[.int .i64 t.kind, .int .i64 t.num, .string (bs t.text), .int .i64 (t.pl : Int)]) ∧ Below wr3.drew.heap.size wr3.drew w') := HD.out.1.p.nextC
            have HOw : Hid (wr3.drew.ownsRow b 3 1 (.slice ma mn mc) mn (m0.map fun z => .int .i64 z) ∧ wr3.drew.heap[b]? = some (.cells #[.slice ta T.length tc, .int .i64 (k : Int), .bool false, .slice ma mn mc] 58 (0, 0)) ∧ b ≤ wr3.drew.heap.size) := ⟨owned_of_block hown fun g _ _ _ => rfl, hb, by have := HD.out.1.p.lt; omega⟩
            have hcn : m0.length + 1 + (t :: r).length ≤ 4200 := by
              have h1 := HCr.out
              split at h1 <;> omega
            clear hA0 hm0 hk hkT hb hown HS1
            go_wp2_with fail
            refine wp_region_X 12 (fun W : World => W.heap[b]? = some (.cells #[.slice ta T.length tc, .int .i64 (k : Int), .bool false, .slice ma mn mc] 58 (0, 0))) (by kernel_rfl) ?_
            refine wpAnyX_take1 (i := 0) (v := .pointer (some ⟨b, 0, none⟩)) rfl (by kernel_rfl) (by kernel_rfl) (by kernel_rfl) (by kernel_rfl) (by kernel_rfl) (fun _ _ _ h => h) HS0.out (Or.inl ⟨by rfl, by (intro W hW; go_simp)⟩) ?_
            simp only [Act.put]
            refine wpAnyX_take1 (i := 1) (v := .pointer (some ⟨b, 0, none⟩)) rfl (by kernel_rfl) (by kernel_rfl) (by kernel_rfl) (by kernel_rfl) (by kernel_rfl) (fun _ _ _ h => h) HS0.out (Or.inl ⟨by rfl, by (intro W hW; go_simp)⟩) ?_
            simp only [Act.put]
            refine wpAnyX_take1 (i := 2) (v := .pointer (some ⟨b, 0, none⟩)) rfl (by kernel_rfl) (by kernel_rfl) (by kernel_rfl) (by kernel_rfl) (by kernel_rfl) (fun _ _ _ h => h) HS0.out (Or.inl ⟨by rfl, by (intro W hW; go_simp)⟩) ?_
            simp only [Act.put]
            refine wpAnyX_take1 (i := 3) (v := .pointer (some ⟨b, 3, none⟩)) rfl (by kernel_rfl) (by kernel_rfl) (by kernel_rfl) (by kernel_rfl) (by kernel_rfl) (fun _ _ _ h => h) HS0.out (Or.inl ⟨by rfl, by (intro W hW; go_simp)⟩) ?_
            simp only [Act.put]
            refine wpAnyX_take1 (i := 4) (v := .slice ma mn mc) rfl (by kernel_rfl) (by kernel_rfl) (by kernel_rfl) (by kernel_rfl) (by kernel_rfl) (fun _ _ _ h => h) HS0.out (Or.inl ⟨by rfl, by (intro W hW; have z := blk (i := 3) hW rfl; go_simp)⟩) ?_
            simp only [Act.put]
            refine wpAnyX_take1 (i := 5) (v := .pointer (some ⟨b, 0, none⟩)) rfl (by kernel_rfl) (by kernel_rfl) (by kernel_rfl) (by kernel_rfl) (by kernel_rfl) (fun _ _ _ h => h) HS0.out (Or.inl ⟨by rfl, by (intro W hW; go_simp)⟩) ?_
            simp only [Act.put]
            refine wpAnyX_one (i := 6) rfl (by kernel_rfl) (fun K hK => ?_)
            go_simp
            refine HNy.out.mono ?_
            rintro e w5 ⟨rfl, hb5⟩
            have h5b : w5.heap[b]? = some (.cells #[.slice ta T.length tc, .int .i64 (k : Int), .bool false, .slice ma mn mc] 58 (0, 0)) := by rw [hb5.block b (lt_block HOw.out.2.1)]; exact HOw.out.2.1
            refine hK.out _ _ (fun _ => h5b) ?_
            clear hK K HNy HS0
            refine wpAnyX_one (i := 7) rfl (by kernel_rfl) (fun K hK => ?_)
            go_simp
            refine hK.out _ _ (fun _ => h5b) ?_
            clear hK K
            refine wpAnyX_one (i := 8) rfl (by kernel_rfl) (fun K hK => ?_)
            go_simp
            have h6b : (w5.alloc (.cells #[.int .i64 (t.pl : Int)] 3)).heap[b]? = some (.cells #[.slice ta T.length tc, .int .i64 (k : Int), .bool false, .slice ma mn mc] 58 (0, 0)) := heap_old h5b
            refine hK.out _ _ (fun _ => h6b) ?_
            clear hK K
            have HB6 : Below wr3.drew.heap.size wr3.drew (w5.alloc (.cells #[.int .i64 (t.pl : Int)] 3)) := hb5.trans (((Below.refl _ _).alloc (Nat.le_refl _) _).mono hb5.size)
            have H6 : Hid (QR b b ta T.length tc T w1 (t :: r) false m0 xs (.slice ao c cap) c (w5.alloc (.cells #[.int .i64 (t.pl : Int)] 3)) ∧ QX w1 xs (.slice ao c cap) (w5.alloc (.cells #[.int .i64 (t.pl : Int)] 3)) ∧ (w5.alloc (.cells #[.int .i64 (t.pl : Int)] 3)).ownsRow b 3 1 (.slice ma mn mc) mn (m0.map fun z => .int .i64 z)) := ⟨HD.out.1.next HB6, HD.out.2.next HB6, owned_of_block HOw.out.1 fun g _ _ hx => HB6.block g (lt_block hx)⟩
            have hBs : b ≤ (w5.alloc (.cells #[.int .i64 (t.pl : Int)] 3)).heap.size := by have := HB6.size; have := HOw.out.2.2; omega
            obtain ⟨i0, hi0, hz0, hz1, hz2⟩ := info_parts info3
            refine wpAnyX_one (i := 9) rfl (by kernel_rfl) (fun K hK => ?_)
            rw [if_pos (by rfl)]
            refine wp_append_fresh _ _ _ 56 rfl b 3 i0 (.int .i64 0) 1 8 Try.underlying56 hi0 hz0 hz1 hz2 rfl (by decide) (.slice ma mn mc) mn (m0.map fun z => .int .i64 z) rfl H6.out.2.2 ⟨w5.heap.size, 0, none⟩ 1 1 [.int .i64 (t.pl : Int)] rfl rfl (cell_one w5 _) (by simp [Value.oneCell']) (by have := HML.out; unfold maxLen; omega) (by have := HML.out; omega) hBs ?_
            intro v' w6 hown' hgrow' hfr'
            obtain ⟨g1, g2, g3⟩ := H6.out.1.p.noted h6b H6.out.2.2 hcn hown' hgrow'
            obtain ⟨ma2, mc2, rfl⟩ := owned_shape hown'
            refine hK.out _ _ (fun _ => ?_) ?_
            · exact g1
            clear hK K
            refine wpAnyX_one (i := 10) rfl (by kernel_rfl) (fun K hK => ?_)
            go_simp
            refine hK.out _ _ (fun _ => g1) ?_
            clear hK K
            refine wpAnyX_one (i := 11) rfl (by kernel_rfl) (fun K hK => ?_)
            go_simp
            refine hK.out _ _ (fun _ => g1) ?_
            clear hK K
            have g4 := blk (i := 3) g1 rfl
            have g5 := blkf 3 g1
            refine wpAnyX_one (i := 12) rfl (by kernel_rfl) (fun K hK => ?_)
            go_simp
            refine hK.out _ _ (fun h => absurd rfl h) ?_
            clear hK K
            refine wpAnyX_done (by kernel_rfl) ?_ _
            have HS : Hid (QR b b ta T.length tc T w1 (t :: r) false (m0 ++ [(t.pl : Int)]) xs (.slice ao c cap) c (w6.setCell ⟨b, 3, none⟩ (.slice ma2 (mn + 1) mc2)) ∧ QX w1 xs (.slice ao c cap) (w6.setCell ⟨b, 3, none⟩ (.slice ma2 (mn + 1) mc2))) := ⟨H6.out.1.go g2 g3, H6.out.2.1.go g2 h6b⟩
            generalize w6.setCell ⟨b, 3, none⟩ (.slice ma2 (mn + 1) mc2) = wn at *
            obtain ⟨m5, hm5⟩ : ∃ m5, m5 = m0 ++ [(t.pl : Int)] := ⟨_, rfl⟩
            rw [← hm5] at HS
            have HQs : Hid (((itemG (exprN mx) (t :: r)).val = none → X.val = none ∧ X.rest = (itemG (exprN mx) (t :: r)).rest) ∧
                ∀ i, (itemG (exprN mx) (t :: r)).val = some i → (itemG (exprN mx) (t :: r)).rest.length < (t :: r).length ∧ ∃ m3, (itemG (exprN mx) (t :: r)).rest.length ≤ m3 ∧ EqR X (sourceGo (exprN mx) m3 (xs.map (·.1) ++ [i]) (itemG (exprN mx) (t :: r)).rest) [] (m5 ++ (itemG (exprN mx) (t :: r)).many)) := by
              have h1 := HQr.out
              rw [if_pos (by rw [List.length_map, ← HLm.out]; exact H8c.out), ← hm5] at h1
              exact h1
            have HCn : Hid (m5.length + (t :: r).length ≤ 4001 + (if xs.length + 1 ≤ 100 then 0 else 1)) := by
              have h1 := HCr.out
              have h2 := HLm.out
              have h3 := H8c.out
              show _ ≤ _
              rw [hm5, if_neg (by omega)]
              rw [if_pos (by omega)] at h1
              simp only [List.length_append, List.length_cons, List.length_nil] at h1 ⊢
              omega
            clear g1 g2 g3 g4 g5 h5b h6b hb5 H6 HOw HD HB6 hBs hown' hgrow' hfr' hm5 HQr HCr hcn HML hfd0 hfd3 HNx hi0 hz0 hz1 hz2 i0
            go_wp2_with fail
            refine (HIt.out _ _ HS.out.1.p).mono ?_
            rintro e w4 ⟨i4, k4, n4, c4, rfl, hk4, hp4, hE4⟩
            obtain ⟨F4, HE2⟩ : ∃ F : Fo, Hid (∀ a, (itemG (exprN mx) (t :: r)).val = some a → a = ⟨i4.kind, i4.name, F, i4.pl⟩) := by
              cases hv : (itemG (exprN mx) (t :: r)).val with
              | none => exact ⟨.nil, fun a ha => by cases ha⟩
              | some a =>
                refine ⟨a.args, fun a' ha => ?_⟩
                cases ha
                obtain ⟨e1, e2, e3, _⟩ := hE4 a hv
                rw [← e1, ← e2, ← e3]
            have HM4 : Hid (MN (itemG (exprN mx) (t :: r)) (t :: r)) := mn_itemN _
            have HLe : Hid ((itemG (exprN mx) (t :: r)).rest.length ≤ (t :: r).length) := suf_len (item_suf' (expr_suf (fac_suf mx)) _)
            generalize itemG (exprN mx) (t :: r) = Y at *
            have hsz4 : wn.heap.size ≤ w4.heap.size := hk4.size
            have H4 : Hid (∀ o o', QR b b ta T.length tc T w1 Y.rest Y.val.isNone (m5 ++ Y.many) xs (.slice ao c cap) c ((w4.alloc o).alloc o') ∧ QX w1 xs (.slice ao c cap) ((w4.alloc o).alloc o') ∧ ∀ a, Y.val = some a → IsAt true (fun g => w1.heap.size + 1 ≤ g ∧ some g ≠ (Value.slice ao c cap).ownBlock) ((w4.alloc o).alloc o') (a, k4, n4, c4)) := fun o o' => by
              have hb9 := below_two w4 o o'
              obtain ⟨cs, hb⟩ := HS.out.1.p.own
              refine ⟨(HS.out.1.go hk4 hp4).next hb9, (HS.out.2.go hk4 hb).next hb9, fun a ha => ?_⟩
              have hz1 := lt_block HS.out.1.tv
              refine ((hE4 a ha).2.2.2.base fun g _ hg => ⟨?_, fun e => ?_⟩).below hb9
              · have h3 : wn.heap.size ≤ g := hg
                omega
              · have := (HS.out.1.own.lt g e.symm).2
                have h3 : wn.heap.size ≤ g := hg
                omega
            have tv4 : ∀ o, (w4.alloc o).cell? ⟨w1.heap.size, 0, none⟩ = some (.slice ao c cap) := fun o => blk (i := 0) (heap_old (HS.out.1.go hk4 hp4).tv) rfl
            have HB4 : Hid (∀ o o', w1.heap.size + 1 ≤ ((w4.alloc o).alloc o').heap.size) := fun o o' => by have := lt_block HS.out.1.tv; simp; omega
            have HNw : Hid ((w4.alloc (.cells #[.int .i64 i4.kind, .string (bs i4.name), .slice k4 n4 c4, .int .i64 i4.pl] 42)).heap[w4.heap.size]? = some (.cells #[.int .i64 i4.kind, .string (bs i4.name), .slice k4 n4 c4, .int .i64 i4.pl] 42 (0, 0))) := heap_alloc_new w4 _
            clear hk4 hp4 hE4 HS hsz4 HIt
            have y0 := blk (i := 0) HNw.out rfl
            have y1 := blk (i := 1) HNw.out rfl
            have y2 := blk (i := 2) HNw.out rfl
            have y3 := blk (i := 3) HNw.out rfl
            clear HNw
            obtain ⟨i0, hi0, hz0, hz1, hz2⟩ := info_parts info42
            go_wp2_with (at_builtin; go_loud (refine wpList_append_fresh rfl _ _ 22 rfl (w1.heap.size + 1) 42 i0 (.agg #[.int .i64 0, .string ByteArray.empty, .slice none 0 0, .int .i64 0]) 4 56 Try.underlying22 hi0 hz0 hz1 hz2 rfl (by decide) (.slice ao c cap) c (iRow xs) rfl (H4.out _ _).1.own ⟨_, 0, none⟩ 1 1 (isCells ((⟨i4.kind, i4.name, F4, i4.pl⟩ : It), k4, n4, c4)) rfl rfl (cell_i_new2 w4 _ ((⟨i4.kind, i4.name, F4, i4.pl⟩ : It), k4, n4, c4)) (is_one _) (by unfold maxLen; omega) (by omega) (HB4.out _ _) ?_); intro v' w7 hown' hgrow' hfr'; have HT7 := (H4.out _ _).1.add (x := ((⟨i4.kind, i4.name, F4, i4.pl⟩ : It), k4, n4, c4)) hown' hgrow' hfr'; obtain ⟨ao7, cap7, rfl⟩ := owned_shape hown'; have ob7 := blk (i := 0) HT7.1 rfl; have of7 := blkf 0 HT7.1; have HT8 : Hid (QR b b ta T.length tc T w1 Y.rest Y.val.isNone (m5 ++ Y.many) (xs ++ [((⟨i4.kind, i4.name, F4, i4.pl⟩ : It), k4, n4, c4)]) (.slice ao7 (c + 1) cap7) (c + 1) (w7.setCell ⟨w1.heap.size, 0, none⟩ (.slice ao7 (c + 1) cap7)) ∧ (Y.val.isNone = false → QX w1 (xs ++ [((⟨i4.kind, i4.name, F4, i4.pl⟩ : It), k4, n4, c4)]) (.slice ao7 (c + 1) cap7) (w7.setCell ⟨w1.heap.size, 0, none⟩ (.slice ao7 (c + 1) cap7)))) := ⟨HT7.2.1, fun hv => by
              cases hx : Y.val with
              | none => rw [hx] at hv; cases hv
              | some a => exact HT7.2.2 (H4.out _ _).2.1 (by have h1 := (H4.out (.cells #[.int .i64 i4.kind, .string (bs i4.name), .slice k4 n4 c4, .int .i64 i4.pl] 42) (.cells #[.int .i64 i4.kind, .string (bs i4.name), .slice k4 n4 c4, .int .i64 i4.pl] 42)).2.2 a hx; rw [HE2.out a hx] at h1; exact h1)⟩; clear HT7 hown' hgrow' hfr' H4 HB4 y0 y1 y2 y3 tv4)
            go_roundg (2 * Y.rest.length + (if Y.val.isNone then 0 else 1))
            case measure =>
              cases hx : Y.val with
              | none => have := HLe.out; simp at hkk ⊢; simp at this; omega
              | some a => have := (HQs.out.2 a hx).1; simp at hkk ⊢; simp at this; omega
            case rel =>
              refine ⟨Y.rest, Y.val.isNone, m5 ++ Y.many, xs ++ [((⟨i4.kind, i4.name, F4, i4.pl⟩ : It), k4, n4, c4)], ao7, c + 1, cap7, rfl, HT8.out.1, ⟨fun hn => ?_, fun hn => ⟨HT8.out.2 hn, ?_, ?_⟩, fun hn => ?_⟩⟩
              · have hv : Y.val = none := by
                  cases hx : Y.val with
                  | none => rfl
                  | some a => rw [hx] at hn; cases hn
                exact HQs.out.1 hv
              · cases hx : Y.val with
                | none => rw [hx] at hn; cases hn
                | some a =>
                  obtain ⟨_, m3, h1, h2⟩ := HQs.out.2 a hx
                  refine ⟨m3, h1, ?_⟩
                  rw [HE2.out a hx] at h2
                  rw [List.map_append]
                  exact h2
              · have h1 := HM4.out
                have h2 := HCn.out
                unfold MN at h1
                simp only [List.length_append, List.length_cons, List.length_nil] at h1 ⊢
                simp only [List.length_cons] at h2
                split <;> split at h2 <;> omega
              · cases hx : Y.val with
                | none => rw [hx] at hn; cases hn
                | some a =>
                  have h1 := (HQs.out.2 a hx).1
                  have h2 := HLn.out
                  simp only [List.length_append, List.length_cons, List.length_nil] at h1 h2 ⊢
                  omega
          · skip
            have hb8 : ((c : Int) == 100) = false := by rw [beq_eq_false_iff_ne]; omega
            have H8c : Hid (¬ c = 100) := h8
            clear h8
            have HS : Hid (QR b b ta T.length tc T w1 (t :: r) false m' xs (.slice ao c cap) c wr3 ∧ QX w1 xs (.slice ao c cap) wr3) := HS1.out
            have HQs : Hid (((itemG (exprN mx) (t :: r)).val = none → X.val = none ∧ X.rest = (itemG (exprN mx) (t :: r)).rest) ∧
                ∀ i, (itemG (exprN mx) (t :: r)).val = some i → (itemG (exprN mx) (t :: r)).rest.length < (t :: r).length ∧ ∃ m3, (itemG (exprN mx) (t :: r)).rest.length ≤ m3 ∧ EqR X (sourceGo (exprN mx) m3 (xs.map (·.1) ++ [i]) (itemG (exprN mx) (t :: r)).rest) [] (m' ++ (itemG (exprN mx) (t :: r)).many)) := by
              have h1 := HQr.out
              rw [if_neg (by rw [List.length_map, ← HLm.out]; exact H8c.out), List.append_nil] at h1
              exact h1
            have HCn : Hid (m'.length + (t :: r).length ≤ 4001 + (if xs.length + 1 ≤ 100 then 0 else 1)) := by
              have h1 := HCr.out
              have h2 := HLm.out
              have h3 := H8c.out
              show _ ≤ _
              split at h1 <;> split <;> omega
            clear HS1 HQr HCr HNx
            go_wp2_with fail
            refine (HIt.out _ _ HS.out.1.p).mono ?_
            rintro e w4 ⟨i4, k4, n4, c4, rfl, hk4, hp4, hE4⟩
            obtain ⟨F4, HE2⟩ : ∃ F : Fo, Hid (∀ a, (itemG (exprN mx) (t :: r)).val = some a → a = ⟨i4.kind, i4.name, F, i4.pl⟩) := by
              cases hv : (itemG (exprN mx) (t :: r)).val with
              | none => exact ⟨.nil, fun a ha => by cases ha⟩
              | some a =>
                refine ⟨a.args, fun a' ha => ?_⟩
                cases ha
                obtain ⟨e1, e2, e3, _⟩ := hE4 a hv
                rw [← e1, ← e2, ← e3]
            have HM4 : Hid (MN (itemG (exprN mx) (t :: r)) (t :: r)) := mn_itemN _
            have HLe : Hid ((itemG (exprN mx) (t :: r)).rest.length ≤ (t :: r).length) := suf_len (item_suf' (expr_suf (fac_suf mx)) _)
            generalize itemG (exprN mx) (t :: r) = Y at *
            have hsz4 : wr3.heap.size ≤ w4.heap.size := hk4.size
            have H4 : Hid (∀ o o', QR b b ta T.length tc T w1 Y.rest Y.val.isNone (m' ++ Y.many) xs (.slice ao c cap) c ((w4.alloc o).alloc o') ∧ QX w1 xs (.slice ao c cap) ((w4.alloc o).alloc o') ∧ ∀ a, Y.val = some a → IsAt true (fun g => w1.heap.size + 1 ≤ g ∧ some g ≠ (Value.slice ao c cap).ownBlock) ((w4.alloc o).alloc o') (a, k4, n4, c4)) := fun o o' => by
              have hb9 := below_two w4 o o'
              obtain ⟨cs, hb⟩ := HS.out.1.p.own
              refine ⟨(HS.out.1.go hk4 hp4).next hb9, (HS.out.2.go hk4 hb).next hb9, fun a ha => ?_⟩
              have hz1 := lt_block HS.out.1.tv
              refine ((hE4 a ha).2.2.2.base fun g _ hg => ⟨?_, fun e => ?_⟩).below hb9
              · have h3 : wr3.heap.size ≤ g := hg
                omega
              · have := (HS.out.1.own.lt g e.symm).2
                have h3 : wr3.heap.size ≤ g := hg
                omega
            have tv4 : ∀ o, (w4.alloc o).cell? ⟨w1.heap.size, 0, none⟩ = some (.slice ao c cap) := fun o => blk (i := 0) (heap_old (HS.out.1.go hk4 hp4).tv) rfl
            have HB4 : Hid (∀ o o', w1.heap.size + 1 ≤ ((w4.alloc o).alloc o').heap.size) := fun o o' => by have := lt_block HS.out.1.tv; simp; omega
            have HNw : Hid ((w4.alloc (.cells #[.int .i64 i4.kind, .string (bs i4.name), .slice k4 n4 c4, .int .i64 i4.pl] 42)).heap[w4.heap.size]? = some (.cells #[.int .i64 i4.kind, .string (bs i4.name), .slice k4 n4 c4, .int .i64 i4.pl] 42 (0, 0))) := heap_alloc_new w4 _
            clear hk4 hp4 hE4 HS hsz4 HIt
            have y0 := blk (i := 0) HNw.out rfl
            have y1 := blk (i := 1) HNw.out rfl
            have y2 := blk (i := 2) HNw.out rfl
            have y3 := blk (i := 3) HNw.out rfl
            clear HNw
            obtain ⟨i0, hi0, hz0, hz1, hz2⟩ := info_parts info42
            go_wp2_with (at_builtin; go_loud (refine wpList_append_fresh rfl _ _ 22 rfl (w1.heap.size + 1) 42 i0 (.agg #[.int .i64 0, .string ByteArray.empty, .slice none 0 0, .int .i64 0]) 4 56 Try.underlying22 hi0 hz0 hz1 hz2 rfl (by decide) (.slice ao c cap) c (iRow xs) rfl (H4.out _ _).1.own ⟨_, 0, none⟩ 1 1 (isCells ((⟨i4.kind, i4.name, F4, i4.pl⟩ : It), k4, n4, c4)) rfl rfl (cell_i_new2 w4 _ ((⟨i4.kind, i4.name, F4, i4.pl⟩ : It), k4, n4, c4)) (is_one _) (by unfold maxLen; omega) (by omega) (HB4.out _ _) ?_); intro v' w7 hown' hgrow' hfr'; have HT7 := (H4.out _ _).1.add (x := ((⟨i4.kind, i4.name, F4, i4.pl⟩ : It), k4, n4, c4)) hown' hgrow' hfr'; obtain ⟨ao7, cap7, rfl⟩ := owned_shape hown'; have ob7 := blk (i := 0) HT7.1 rfl; have of7 := blkf 0 HT7.1; have HT8 : Hid (QR b b ta T.length tc T w1 Y.rest Y.val.isNone (m' ++ Y.many) (xs ++ [((⟨i4.kind, i4.name, F4, i4.pl⟩ : It), k4, n4, c4)]) (.slice ao7 (c + 1) cap7) (c + 1) (w7.setCell ⟨w1.heap.size, 0, none⟩ (.slice ao7 (c + 1) cap7)) ∧ (Y.val.isNone = false → QX w1 (xs ++ [((⟨i4.kind, i4.name, F4, i4.pl⟩ : It), k4, n4, c4)]) (.slice ao7 (c + 1) cap7) (w7.setCell ⟨w1.heap.size, 0, none⟩ (.slice ao7 (c + 1) cap7)))) := ⟨HT7.2.1, fun hv => by
              cases hx : Y.val with
              | none => rw [hx] at hv; cases hv
              | some a => exact HT7.2.2 (H4.out _ _).2.1 (by have h1 := (H4.out (.cells #[.int .i64 i4.kind, .string (bs i4.name), .slice k4 n4 c4, .int .i64 i4.pl] 42) (.cells #[.int .i64 i4.kind, .string (bs i4.name), .slice k4 n4 c4, .int .i64 i4.pl] 42)).2.2 a hx; rw [HE2.out a hx] at h1; exact h1)⟩; clear HT7 hown' hgrow' hfr' H4 HB4 y0 y1 y2 y3 tv4)
            go_roundg (2 * Y.rest.length + (if Y.val.isNone then 0 else 1))
            case measure =>
              cases hx : Y.val with
              | none => have := HLe.out; simp at hkk ⊢; simp at this; omega
              | some a => have := (HQs.out.2 a hx).1; simp at hkk ⊢; simp at this; omega
            case rel =>
              refine ⟨Y.rest, Y.val.isNone, m' ++ Y.many, xs ++ [((⟨i4.kind, i4.name, F4, i4.pl⟩ : It), k4, n4, c4)], ao7, c + 1, cap7, rfl, HT8.out.1, ⟨fun hn => ?_, fun hn => ⟨HT8.out.2 hn, ?_, ?_⟩, fun hn => ?_⟩⟩
              · have hv : Y.val = none := by
                  cases hx : Y.val with
                  | none => rfl
                  | some a => rw [hx] at hn; cases hn
                exact HQs.out.1 hv
              · cases hx : Y.val with
                | none => rw [hx] at hn; cases hn
                | some a =>
                  obtain ⟨_, m3, h1, h2⟩ := HQs.out.2 a hx
                  refine ⟨m3, h1, ?_⟩
                  rw [HE2.out a hx] at h2
                  rw [List.map_append]
                  exact h2
              · have h1 := HM4.out
                have h2 := HCn.out
                unfold MN at h1
                simp only [List.length_append, List.length_cons, List.length_nil] at h1 ⊢
                simp only [List.length_cons] at h2
                split <;> split at h2 <;> omega
              · cases hx : Y.val with
                | none => rw [hx] at hn; cases hn
                | some a =>
                  have h1 := (HQs.out.2 a hx).1
                  have h2 := HLn.out
                  simp only [List.length_append, List.length_cons, List.length_nil] at h1 h2 ⊢
                  omega
  · have q : (z != 0) = true := by simpa using hz
    have HA : Hid (A = ([], z, (at0 : Int))) := by
      have := HP.out
      rw [if_pos hz] at this; exact this
    clear HP HG HTk hz
    go_enter Try.func10, Try.ntmps10
    go_wp2_with fail
    refine (HSc.out _).mono ?_
    rintro e w2 ⟨v, rfl, ho1, hb1⟩
    have hra := HR0.out w2 hb1
    obtain ⟨r0, r1, r2, r3, r4, r5⟩ := hra.facts
    have HBf : Hid _ := hra.set (.slice none 0 0) (.int .i64 z) (.int .i64 (at0 : Int))
    clear hra ho1 hb1 HSc HR0
    go_wp2
    refine bodyPost_ret (v := .tuple #[.agg #[.slice none 0 0], .agg #[.int .i64 z, .int .i64 (at0 : Int)]]) ?_ rfl ?_
    · simp only [results, hres]
      go_simp
    · exact tree_none HA.out HBf.out
end Go.Proofs.Ytnnmhmlebffacaa
