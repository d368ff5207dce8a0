/-
  FastaWrites is proved for every width and every sequences: fasta.Print answers as the document says, and the list that is handed in stays as it is. No condition.
-/
import Derived.Test.YtcleejdlmamdhaaRows
import Derived.Test.YtcleejdlmamdhaaReads
import Derived.Test.YtcleejdlmamdhaaBack
import Derived.Laws.CopyOwn
namespace Go.Proofs.Ytcleejdlmamdhaa
open Go.RowKit

theorem size29 : (Try.prog.info? 29).map (·.size) = some 3 := by kernel_rfl
/-- copy of sequences: all is read before anything is written. -/
theorem run_copy_sq (w : World) (ty : TypeId) (g dLen dCap : Nat) (a : Addr) (sLen sCap : Nat) (cur : Array Value) (cs : List Value) (hg : w.heap[g]? = some (.cells cur 29 (0, 0))) (hn : cs.length = Nat.min sLen dLen * 3)
    (hsrc : ∀ j v, cs[j]? = some v → w.cell? (a.add j) = some v) (hfit : cs.length ≤ cur.size) (h1 : ∀ v ∈ cs, v.oneCell' = true) :
    (Builtin.copy_ #[23, 23] ty #[.slice (some ⟨g, 0, none⟩) dLen dCap, .slice (some a) sLen sCap]).run Try.prog w = .ok (goInt (Nat.min sLen dLen)) (w.setRow g (cs ++ cur.toList.drop cs.length).toArray) := by
  have hl := run_loadCells_list (P := Try.prog) w a cs hsrc
  have hst := run_storeCells_at Try.prog g 0 29 cs 0 cur w hg (by simpa using hfit) h1
  cases hq : Try.prog.info? 29 with
  | none => have := size29; simp [hq] at this
  | some i =>
    have hi : i.size = 3 := by have := size29; simpa [hq] using this
    simp [Builtin.copy_, run_underlying Try.underlying23, Builtin.lenOf, Builtin.firstCells, sizeOf, typeInfo, hq, hi, ← hn, hl, hst]
theorem wpList_copy_sq {w : World} {ops : Array Oper} {rest : List Oper} {o : Oper} {a : Act} {Q : Exit → Act → World → Prop} (hgd : o.guard = none) (d s : Operand)
    (ho : o.op = .call { callee := .builtin .copy, args := #[d, s], argTypes := #[23, 23] }) (g dLen dCap : Nat) (ao : Option Addr) (sLen sCap : Nat) (hd : a.eval d = .slice (some ⟨g, 0, none⟩) dLen dCap) (hs : a.eval s = .slice ao sLen sCap)
    (hao : ao = none → sLen = 0 ∧ sCap = 0) (cur : Array Value) (hg : w.heap[g]? = some (.cells cur 29 (0, 0))) (cs : List Value) (hn : cs.length = Nat.min sLen dLen * 3) (hsrc : ∀ ad, ao = some ad → ∀ j v, cs[j]? = some v → w.cell? (ad.add j) = some v) (hfit : cs.length ≤ cur.size) (h1 : ∀ v ∈ cs, v.oneCell' = true)
    (B : Nat) (w0 : World) (hb : Below B w0 w) (hBg : B ≤ g)
    (h : ∀ w', Hid (w'.heap[g]? = some (.cells (cs ++ cur.toList.drop cs.length).toArray 29 (0, 0))) → Below B w0 w' → ∀ v, wpList Try.prog ops Q rest (a.put o.dst v) w') : wpList Try.prog ops Q (o :: rest) a w := by
  refine wpList_plain hgd fun K hK => ?_
  cases ao with
  | some ad =>
    have hrun := run_copy_sq w o.type g dLen dCap ad sLen sCap cur cs hg hn (hsrc ad rfl) hfit h1
    unfold Oper.wp
    simp [execOp, ho, resolve, invoke, builtin, hd, hs, hrun, Result.andThen]
    exact hK _ _ (h _ (setRow_heap w g cur _ 29 (0, 0) hg) (below_setRow hb hBg _) _)
  | none =>
    obtain ⟨rfl, rfl⟩ := hao rfl
    have hcs : cs = [] := List.eq_nil_of_length_eq_zero (by simpa using hn)
    subst hcs
    have hrun := run_copy_nil (P := Try.prog) w 23 23 o.type 29 ⟨g, 0, none⟩ dLen dCap Try.underlying23 (by rw [size29]; rfl)
    unfold Oper.wp
    simp [execOp, ho, resolve, invoke, builtin, hd, hs, hrun, Result.andThen]
    exact hK _ _ (h _ (by simpa [Hid] using hg) hb _)

theorem made_sqs (n : Nat) : (madeCells #[.string ⟨#[]⟩, .string ⟨#[]⟩, .string ⟨#[]⟩] n).toList = List.replicate n (.string ⟨#[]⟩) := by
  apply List.ext_getElem
  · simp [madeCells]
  · intro i h1 h2
    simp only [madeCells, Array.toList_map, List.getElem_map, List.getElem_replicate]
    have h3 : ∀ k : Nat, (#[Value.string ⟨#[]⟩, .string ⟨#[]⟩, .string ⟨#[]⟩])[k % 3]! = Value.string ⟨#[]⟩ := by
      intro k
      have : k % 3 < 3 := Nat.mod_lt _ (by decide)
      match hk : k % 3 with
      | 0 => rfl
      | 1 => rfl
      | 2 => rfl
      | m + 3 => omega
    exact h3 _
theorem SqsAt.source {w : World} {ao : Option Addr} {len : Nat} {qs : List Sq} (h : SqsAt w ao len qs) : ∀ ad, ao = some ad → ∀ j v, (rowCells qs)[j]? = some v → w.cell? (ad.add j) = some v := by
  intro ad e j v hj
  have hlt : j < (rowCells qs).length := (List.getElem?_eq_some_iff.1 hj).1
  rw [rowCells_length, h.length] at hlt
  obtain ⟨b, off, e2, hc⟩ := h.cells (by omega)
  rw [e] at e2
  cases e2
  have hi : j / 3 < qs.length := by rw [h.length]; omega
  have hq : qs[j / 3]? = some qs[j / 3] := List.getElem?_eq_getElem hi
  obtain ⟨c1, c2, c3⟩ := hc _ _ hq
  obtain ⟨r1, r2, r3⟩ := rowCells_get qs _ _ hq
  rw [Go.WideShapes.add_plain]
  have h3 : j % 3 = 0 ∨ j % 3 = 1 ∨ j % 3 = 2 := by omega
  rcases h3 with h3 | h3 | h3
  · rw [show j / 3 * 3 = j by omega] at r1 c1
    rw [hj] at r1; cases r1; exact c1
  · rw [show j / 3 * 3 + 1 = j by omega] at r2
    rw [show off + j / 3 * 3 + 1 = off + j by omega] at c2
    rw [hj] at r2; cases r2; exact c2
  · rw [show j / 3 * 3 + 2 = j by omega] at r3
    rw [show off + j / 3 * 3 + 2 = off + j by omega] at c3
    rw [hj] at r3; cases r3; exact c3
theorem row_one (qs : List Sq) : ∀ v ∈ rowCells qs, v.oneCell' = true := by
  intro u hu
  unfold rowCells at hu
  obtain ⟨q, _, hq⟩ := List.mem_flatMap.1 hu
  exact sq_oneCell q u hq
theorem owned_block {w : World} {B g n : Nat} {xs : List Value} (hB : B ≤ g) (hm : n ≤ maxLen) (hx : xs.length = n * 3) (h : w.heap[g]? = some (.cells xs.toArray 29 (0, 0))) : w.ownsRow B 29 3 (.slice (some ⟨g, 0, none⟩) n n) n xs :=
  ⟨hx, .inr ⟨g, n, xs.toArray, rfl, hB, h, Nat.le_refl _, hm, by simpa using hx, by simp only []; exact List.take_of_length_le (by omega)⟩⟩

theorem sqs_none {H : Type} {enc : TypeId × Value → H} {W : World} {base : Nat} {spare : Nat → Bool} {held : Bool} {fuel : Nat} {ao : Option Addr} {len cap : Nat} {x : DataW H × List MemPlace} (h : DataW.trod enc Try.prog W base spare held fuel 23 (Value.slice ao len cap).cells.toList = some x) : ao = none → len = 0 ∧ cap = 0 := by
  intro hn
  subst hn
  rcases Deep.open_slice Try.underlying23 h with ⟨hc, _⟩ | ⟨a, l, c, m, n, D, Pl, hc, _⟩
  · simp [Value.cells] at hc; exact hc
  · simp [Value.cells] at hc

set_option maxRecDepth 100000 in
set_option maxHeartbeats 16000000 in
theorem writes_walk (wd : Int) (ao : Option Addr) (len cap : Nat) (qs : List Sq) (w : World) (hw : (Lit.int .i64 wd).wf = true) (hz : SqsAt w ao len qs ∧ len ≤ cap ∧ ∀ q ∈ qs, q.short) (hao : ao = none → len = 0 ∧ cap = 0) :
    Calls Try.prog 4 #[.int .i64 wd, .slice ao len cap] w fun e w' => e = .returned (.bool true) ∧ Below w.heap.size w w' := by
  obtain ⟨hz, hcap, hsh⟩ := hz
  obtain ⟨hw1, hw2⟩ := i64_wf hw
  clear hw
  have HZ : Hid (SqsAt w ao len qs) := hz
  have HSh : Hid (∀ q ∈ qs, q.short) := hsh
  have HAo : Hid (ao = none → len = 0 ∧ cap = 0) := hao
  clear hz hsh hao
  obtain ⟨i0, hi, hz0, hz1, hz2⟩ := info_parts info29
  go_enter Try.func4, Try.ntmps4
  go_wp2_with fail
  refine (weighs_calls ao len cap qs w HZ.out HSh.out).mono ?_
  rintro e w1 ⟨z, rfl, hzl, hb1⟩
  have HB1 : Hid (Below w.heap.size w w1) := hb1
  clear hb1
  by_cases hzb : 2147483647 < z
  · have hd : decide ((2147483647 : Int) < z) = true := by simp; omega
    clear hzl
    go_wp2
    go_ret
    exact ⟨rfl, HB1.out⟩
  have hd : decide ((2147483647 : Int) < z) = false := by simp; omega
  have hlen : len ≤ 2147483647 := hzl (by omega)
  clear hzl
  go_wp2_with fail
  refine (awake_calls w1).mono ?_
  rintro e w2 ⟨rfl, hb2⟩
  have HB2 : Hid (Below w.heap.size w w2) := HB1.out.trans (hb2.mono HB1.out.size)
  have hs2 : w.heap.size ≤ w2.heap.size := HB2.out.size
  clear hb2 HB1
  go_wp2_with (at_make; refine wpList_make_full _ rfl _ _ 23 rfl w.heap.size 29 i0 (.agg #[.string ⟨#[]⟩, .string ⟨#[]⟩, .string ⟨#[]⟩]) 3 Try.underlying23 hi hz0 hz1 .i64 .i64 _ _ (len + 2) rfl rfl (by omega) (by omega) (by rw [hz2]; omega) (by unfold maxLen; omega) hs2 ?_)
  intro w3 hown3 hgrow3
  have HG3 : Hid (w3.heap[w2.heap.size]? = some (.cells (List.replicate ((len + 2) * 3) (Value.string ⟨#[]⟩)).toArray 29 (0, 0))) := by
    rw [made_sqs] at hown3
    rcases hown3.2 with ⟨hv, _⟩ | ⟨g', cap', cur, hv, hb, hg, hnc, hcm, hcs, ht⟩
    · cases hv
    · cases hv
      show _ = _
      rw [hg]
      have : cur.toList = List.replicate ((len + 2) * 3) (Value.string ⟨#[]⟩) := by rw [← ht, List.take_of_length_le (by simp [hcs])]
      rw [← this]
  have HB3 : Hid (Below w.heap.size w w3) := HB2.out.grown hgrow3 hs2 (by intro k hk; cases hk)
  clear hown3 hgrow3 HB2
  go_wp2_with (refine wpList_copy_sq rfl (.tmp 22) (.tmp 23) rfl w2.heap.size (len + 2) (len + 2) ao len cap rfl rfl HAo.out _ HG3.out (rowCells qs) ?c0 (HZ.out.below HB3.out).source ?c1 (row_one qs) w.heap.size w HB3.out hs2 ?_)
  case c0 => rw [rowCells_length, HZ.out.length]; show _ = Nat.min len (len + 2) * 3; rw [show Nat.min len (len + 2) = len from Nat.min_eq_left (by omega)]
  case c1 => rw [rowCells_length, HZ.out.length]; simp; omega
  intro w4 hg4 hb4 vcopy
  have HG4 : Hid (w4.heap[w2.heap.size]? = some (.cells (rowCells (qs ++ [((⟨#[]⟩, ⟨#[]⟩, ⟨#[]⟩) : Sq), ((⟨#[]⟩, ⟨#[]⟩, ⟨#[]⟩) : Sq)])).toArray 29 (0, 0))) := by
    have := hg4.out
    show _ = _
    rw [this]
    have e : List.replicate ((len + 2) * 3 - (rowCells qs).length) (Value.string ⟨#[]⟩) = [.string ⟨#[]⟩, .string ⟨#[]⟩, .string ⟨#[]⟩, .string ⟨#[]⟩, .string ⟨#[]⟩, .string ⟨#[]⟩] := by
      rw [rowCells_length, HZ.out.length, show (len + 2) * 3 - len * 3 = 6 by omega]; rfl
    rw [e, rowCells_append]; rfl
  have HB4 : Hid (Below w.heap.size w w4) := hb4
  have hO4 := owned_block (B := w.heap.size) (n := len + 2) hs2 (by unfold maxLen; omega) (by rw [rowCells_length]; simp [HZ.out.length]) HG4.out
  have hm4 := owned_cells hO4 (len * 3) (.string ⟨#[]⟩) (by
    have := (rowCells_get (qs ++ [((⟨#[]⟩, ⟨#[]⟩, ⟨#[]⟩) : Sq), ((⟨#[]⟩, ⟨#[]⟩, ⟨#[]⟩) : Sq)]) len (⟨#[]⟩, ⟨#[]⟩, ⟨#[]⟩) (by rw [List.getElem?_append_right (by rw [HZ.out.length]; omega), HZ.out.length]; simp)).1
    exact this)
  obtain ⟨hc4, hf4⟩ := hm4
  have HG5 : Hid ((w4.setCell ⟨w2.heap.size, len * 3, none⟩ (.string ⟨#[109, 97, 114, 107]⟩)).heap[w2.heap.size]? = some (.cells (rowCells (qs ++ [((⟨#[109, 97, 114, 107]⟩, ⟨#[]⟩, ⟨#[]⟩) : Sq), ((⟨#[]⟩, ⟨#[]⟩, ⟨#[]⟩) : Sq)])).toArray 29 (0, 0))) := by
    show _ = _
    rw [set_any HG4.out]
    congr 2
    rw [rowCells_append, rowCells_append]
    have hl : (rowCells qs).length = len * 3 := by rw [rowCells_length, HZ.out.length]
    rw [← hl]
    apply Array.toList_inj.1
    simp only [Array.toList_setIfInBounds]
    rw [List.set_append_right _ _ (Nat.le_refl _), Nat.sub_self]
    rfl
  have HB5 : Hid (Below w.heap.size w (w4.setCell ⟨w2.heap.size, len * 3, none⟩ (.string ⟨#[109, 97, 114, 107]⟩))) := HB4.out.setCell (p := ⟨w2.heap.size, len * 3, none⟩) hs2 _
  clear hg4 hb4 hO4 HG4 HG3 HB3 HB4
  have HLn : Hid (qs.length = len) := HZ.out.length
  go_wp2_with fail
  generalize w4.setCell ⟨w2.heap.size, len * 3, none⟩ (.string ⟨#[109, 97, 114, 107]⟩) = w5 at *
  clear hc4 hf4
  have hO5 := owned_block (B := w.heap.size) (n := len + 2) hs2 (by unfold maxLen; omega) (by rw [rowCells_length]; simp [HLn.out]) HG5.out
  have HO5 : Hid (w5.ownsRow w.heap.size 29 3 (.slice (some ⟨w2.heap.size, 0, none⟩) (len + 2) (len + 2)) (len + 2) (rowCells (qs ++ [((⟨#[109, 97, 114, 107]⟩, ⟨#[]⟩, ⟨#[]⟩) : Sq), ((⟨#[]⟩, ⟨#[]⟩, ⟨#[]⟩) : Sq)]))) := hO5
  have HTk : Hid (∀ W, W.ownsRow w.heap.size 29 3 (.slice (some ⟨w2.heap.size, 0, none⟩) (len + 2) (len + 2)) (len + 2) (rowCells (qs ++ [((⟨#[109, 97, 114, 107]⟩, ⟨#[]⟩, ⟨#[]⟩) : Sq), ((⟨#[]⟩, ⟨#[]⟩, ⟨#[]⟩) : Sq)])) → SqsAt W (some ⟨w2.heap.size, 0, none⟩) len qs) := by
    intro W hW
    have h1 := (owned_sqs hW).take len (by omega)
    rwa [List.take_append_of_le_length (by rw [HLn.out]; omega), List.take_of_length_le (by rw [HLn.out]; omega)] at h1
  clear hO5 HG5
  generalize w2.heap.size = g at *
  refine (print_calls wd (some ⟨g, 0, none⟩) len (len + 2) qs w5 (HTk.out w5 HO5.out) (by omega) HSh.out hw1 hw2).mono ?_
  rintro e w6 ⟨t1, rfl, ht1, hb6⟩
  have HT1 : Hid (t1.data.toList = (printB wd (qs.map Sq.P)).1) := ht1
  have HO6 : Hid (w6.ownsRow w.heap.size 29 3 (.slice (some ⟨g, 0, none⟩) (len + 2) (len + 2)) (len + 2) (rowCells (qs ++ [((⟨#[109, 97, 114, 107]⟩, ⟨#[]⟩, ⟨#[]⟩) : Sq), ((⟨#[]⟩, ⟨#[]⟩, ⟨#[]⟩) : Sq)]))) := owned_below HO5.out hb6
  have HB6 : Hid (Below w.heap.size w w6) := HB5.out.trans (hb6.mono HB5.out.size)
  clear ht1 hb6 HO5 HB5
  go_wp2_with fail
  refine (refPrint_calls wd ao len cap qs w6 (HZ.out.below HB6.out) hcap HSh.out).mono ?_
  rintro e w7 ⟨t2, rfl, ht2, hb7⟩
  have hteq : t1 = t2 := byte_ext (HT1.out.trans ht2.symm)
  subst hteq
  have HO7 : Hid (w7.ownsRow w.heap.size 29 3 (.slice (some ⟨g, 0, none⟩) (len + 2) (len + 2)) (len + 2) (rowCells (qs ++ [((⟨#[109, 97, 114, 107]⟩, ⟨#[]⟩, ⟨#[]⟩) : Sq), ((⟨#[]⟩, ⟨#[]⟩, ⟨#[]⟩) : Sq)]))) := owned_below HO6.out hb7
  have HB7 : Hid (Below w.heap.size w w7) := HB6.out.trans (hb7.mono HB6.out.size)
  clear ht2 hb7 HO6 HB6 HT1
  have HSame : Hid (Calls Try.prog 11 #[.slice (some ⟨g, 0, none⟩) len (len + 2), .slice ao len cap] w7 fun e w' => e = .returned (.bool true) ∧ ∃ k, w' = w7.drewN k) := by
    have h1 := same_calls (some ⟨g, 0, none⟩) ao len len (len + 2) cap qs qs w7 (HTk.out w7 HO7.out) (HZ.out.below HB7.out)
    rw [decide_eq_true rfl] at h1
    exact h1
  generalize (printB wd (qs.map Sq.P)).2 = er at *
  go_wp2_with fail
  refine HSame.out.mono ?_
  rintro e w8 ⟨rfl, kd, hw8⟩
  have hb8 : Below w7.heap.size w7 w8 := by rw [hw8]; exact below_drewN (Below.refl _ _) kd
  have hO8 := owned_below HO7.out hb8
  have HB8 : Hid (Below w.heap.size w w8) := HB7.out.trans (hb8.mono HB7.out.size)
  obtain ⟨m1, m2, m3⟩ := rowCells_get (qs ++ [((⟨#[109, 97, 114, 107]⟩, ⟨#[]⟩, ⟨#[]⟩) : Sq), ((⟨#[]⟩, ⟨#[]⟩, ⟨#[]⟩) : Sq)]) len (⟨#[109, 97, 114, 107]⟩, ⟨#[]⟩, ⟨#[]⟩) (by rw [List.getElem?_append_right (by rw [HLn.out]; omega), HLn.out]; simp)
  obtain ⟨n1, n2, n3⟩ := rowCells_get (qs ++ [((⟨#[109, 97, 114, 107]⟩, ⟨#[]⟩, ⟨#[]⟩) : Sq), ((⟨#[]⟩, ⟨#[]⟩, ⟨#[]⟩) : Sq)]) (len + 1) (⟨#[]⟩, ⟨#[]⟩, ⟨#[]⟩) (by rw [List.getElem?_append_right (by rw [HLn.out]; omega), HLn.out, show len + 1 - len = 1 by omega]; rfl)
  have c1 := (owned_cells hO8 _ _ m1).1
  have c2 := (owned_cells hO8 _ _ m2).1
  have c3 := (owned_cells hO8 _ _ m3).1
  have c4 := (owned_cells hO8 _ _ n1).1
  have c5 := (owned_cells hO8 _ _ n2).1
  have c6 := (owned_cells hO8 _ _ n3).1
  have hgd := guard29
  have heq1 : ∀ W, (Op.equalIn 10000 29 (.agg #[.string ⟨#[109, 97, 114, 107]⟩, .string ⟨#[]⟩, .string ⟨#[]⟩]) (.agg #[.string ⟨#[109, 97, 114, 107]⟩, .string ⟨#[]⟩, .string ⟨#[]⟩])).run Try.prog W = .ok true W := fun W => by
    have := equal_sq (⟨#[109, 97, 114, 107]⟩, ⟨#[]⟩, ⟨#[]⟩) (⟨#[109, 97, 114, 107]⟩, ⟨#[]⟩, ⟨#[]⟩) W
    rw [decide_eq_true rfl] at this; exact this
  have heq2 : ∀ W, (Op.equalIn 10000 29 (.agg #[.string ⟨#[]⟩, .string ⟨#[]⟩, .string ⟨#[]⟩]) (.agg #[.string ⟨#[]⟩, .string ⟨#[]⟩, .string ⟨#[]⟩])).run Try.prog W = .ok true W := fun W => by
    have := equal_sq (⟨#[]⟩, ⟨#[]⟩, ⟨#[]⟩) (⟨#[]⟩, ⟨#[]⟩, ⟨#[]⟩) W
    rw [decide_eq_true rfl] at this; exact this
  have hst : (t1.toList == t1.toList) = true := by simp
  have her : ((er : Int) == (er : Int)) = true := by simp
  clear hw8 hb8 hO8 m1 m2 m3 n1 n2 n3 HO7 HB7 HTk HSame HZ HSh HAo
  go_wp2
  go_ret
  exact ⟨rfl, HB8.out⟩

namespace fastaWrites
open Go.ChangeShapes Go.WideShapes Go.ChangeAt Go.RowKit
open Go.ChangeMaps (open_string shut_string)
theorem own : ownKnob Try.prog.godebug = none := by kernel_rfl
theorem laidOut : laidOutB Try.prog = true := by kernel_rfl

set_option maxRecDepth 100000 in
theorem lifted (os : Os) (started : os.Started) (H : Type) (enc : TypeId × Value → H) :
    ReturnsInHanded {} Try.checked os 4 .any (Rows.fastaWritesSpec.pre6 enc Try.prog Try.f4 Rows.fastaWritesRow.domain false) (Rows.fastaWritesSpec.post enc Try.prog Try.f4 false true false false) := by
  refine returnsInHanded_of_change (C := Try.checked) own started (by kernel_rfl) Try.func4
    (ChangeSpec.witness6 (enc := enc) (C := Try.checked) false ⟨#[], #[.int .i64 0, .slice none 0 0], []⟩ 8 (by kernel_rfl) (by kernel_rfl) (by kernel_rfl) (by kernel_rfl)) ?_
  intro W base args ds gs before hval0 hW _ _
  have hval : ∀ (j : Nat) t v, Try.f4.params[j]? = some t → args[j]? = some v → Value.okWide Try.prog W .any base t v := hval0
  have hW' := hW
  obtain ⟨p, q, hA0, hV, rfl, hfz, hnd⟩ := hW
  have hA : DataW.TrodAll enc Try.prog W 0 (fun _ => true) true Try.f4.params.toList args.toList ds p := hA0
  rw [Try.params4] at hA hval
  obtain ⟨v0, vs0, d0, ds0, p0, q0, hargs, rfl, rfl, h0, r0⟩ := trodAll_cons hA
  obtain ⟨v1, vs1, d1, ds1, p1, q1, rfl, rfl, rfl, h1, r1⟩ := trodAll_cons r0
  obtain ⟨rfl, rfl, rfl⟩ := trodAll_nil r1
  obtain rfl : args = #[v0, v1] := by cases args; simp_all
  obtain ⟨rfl, rfl⟩ := trodVars_none hV
  obtain ⟨a0, rfl, rfl, rfl, w0⟩ := open_int Try.underlying3 (hval 0 3 v0 rfl rfl) h0
  obtain ⟨a1, len1, cap1, rfl⟩ := okWide_slice Try.underlying23 (hval 1 23 v1 rfl rfl)
  have k1 := h1
  have lt1 : ∀ x ∈ p1, x.block < W.heap.size := by obtain ⟨m, hm⟩ := k1; exact DataW.trod_lt m _ _ _ hm
  obtain ⟨z1, w1⟩ : ∃ qs, (SqsAt W a1 len1 qs ∧ len1 ≤ cap1 ∧ ∀ q ∈ qs, q.short) ∧ (a1 = none → len1 = 0 ∧ cap1 = 0) := by
    obtain ⟨fuel, hf⟩ := h1
    have hn := sqs_none hf
    obtain ⟨ao, l, c, qs, hcs, h1, h2, h3⟩ := open_sqs hf
    simp [Value.cells] at hcs
    obtain ⟨rfl, rfl, rfl⟩ := hcs
    exact ⟨qs, ⟨h2, h1, h3⟩, hn⟩
  clear hA0 hval0
  refine (writes_walk a0 a1 len1 cap1 z1 W w0 w1.1 w1.2).mono fun e W' ⟨he, bel⟩ => ?_
  subst he
  exact ⟨_, rfl, _, _, _, [], _, [], hW', trodAll_mk1 (shut_bool Try.underlying4 _), (trodAll_cons_mk (shut_int Try.underlying3 w0) (trodAll_cons_mk (Below.trod laidOut (by kernel_rfl) (of_decide_eq_true (by kernel_rfl)) k1 bel lt1) trodAll_mk0)), rfl, bel.frame _, fun h => by cases h⟩
end fastaWrites

theorem fastaWrites_holds : Rows.FastaWritesSaid :=
  OpenClaim.holds_of_wide 4 Try.f4 rfl rfl rfl rfl rfl rfl rfl ⟨rfl, rfl, rfl, rfl, rfl⟩ rfl rfl rfl rfl rfl (by kernel_rfl) Try.func4 (by kernel_rfl)
    (of_decide_eq_true (by kernel_rfl)) (by unfold Func.isWrapper; first | (rw [if_pos (by decide +kernel)]; kernel_rfl) | (rw [if_neg (by decide +kernel)]; exact ⟨rfl, rfl⟩))
    (fun os started H enc _ => fastaWrites.lifted os started H enc)
end Go.Proofs.Ytcleejdlmamdhaa
