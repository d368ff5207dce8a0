/-
  The walk of the document's own Print of files.
-/
import Derived.Test.YtdhphipdpjhhbaaGreatDoorRefFits
import Derived.Test.YtdhphipdpjhhbaaGreatDoorPrintF
import Derived.Test.YtdhphipdpjhhbaaGreatDoorRefLine
import Derived.Test.YtdhphipdpjhhbaaGreatDoorRefPrint
import Derived.Lib.SlBytesConst
namespace Go.Proofs.YtdhphipdpjhhbaaGreatDoor
open Go.RowKit

def headC : Array Value := (byteVals headL).toArray
/-- The bytes laid down so far: a row of the call's own, or still the first literal, behind which nothing can be laid. -/
def BufF (B : Nat) (acc : List UInt8) (v : Value) (W : World) : Prop :=
  W.ownsRow B 5 1 v acc.length (byteVals acc) ∨ (acc = headL ∧ ∃ g, v = .slice (some ⟨g, 0, none⟩) 23 23 ∧ B ≤ g ∧ W.heap[g]? = some (.cells headC 5 (23, 24)))
theorem BufF.shape {B : Nat} {acc : List UInt8} {v : Value} {W : World} (h : BufF B acc v W) : ∃ ao cap, v = .slice ao acc.length cap := by
  rcases h with h | ⟨rfl, g, rfl, _, _⟩
  · exact owned_shape h
  · exact ⟨_, _, rfl⟩
theorem BufF.lt {B : Nat} {acc : List UInt8} {v : Value} {W : World} (h : BufF B acc v W) : ∀ k, v.ownBlock = some k → B ≤ k ∧ k < W.heap.size := by
  rcases h with h | ⟨rfl, g, rfl, hb, hg⟩
  · exact h.lt
  · intro k hk
    cases hk
    exact ⟨hb, lt_block hg⟩
theorem BufF.of_block {B : Nat} {acc : List UInt8} {v : Value} {W W' : World} (h : BufF B acc v W) (hk : ∀ g cur fz, v.ownBlock = some g → W.heap[g]? = some (.cells cur 5 fz) → W'.heap[g]? = W.heap[g]?) : BufF B acc v W' := by
  rcases h with h | ⟨rfl, g, rfl, hb, hg⟩
  · exact .inl (owned_of_block h fun g cur h1 h2 => hk g cur _ h1 h2)
  · exact .inr ⟨rfl, g, rfl, hb, by rw [hk g _ _ rfl hg]; exact hg⟩
theorem BufF.below {B : Nat} {acc : List UInt8} {v : Value} {W W' : World} (h : BufF B acc v W) (hb : Below W.heap.size W W') : BufF B acc v W' :=
  h.of_block fun g _ _ _ hg => hb.block g (lt_block hg)
theorem BufF.grown {B : Nat} {acc : List UInt8} {v : Value} {W W' : World} (h : BufF B acc v W) {t : TypeId} {v2 : Value} {n2 : Nat} {xs2 : List Value} {base2 size2 : Nat} (h2 : W.ownsRow base2 t size2 v2 n2 xs2) (hne : 5 ≠ t) (hg : W.grownBy W' v2.ownBlock) : BufF B acc v W' :=
  h.of_block fun g cur fz _ hc => hg.block g (lt_block hc) (fun e' => by
    rcases h2.2 with ⟨hv, _⟩ | ⟨g', cap', cur', hv, _, hg', _⟩
    · rw [hv] at e'; cases e'
    · rw [hv] at e'; simp [Value.ownBlock] at e'; subst e'; rw [hg'] at hc; cases hc; exact hne rfl)
theorem owned_grownF {w w' : World} {base : Nat} {e : TypeId} {size : Nat} {v : Value} {n : Nat} {xs : List Value} (h : w.ownsRow base e size v n xs) {B : Nat} {acc : List UInt8} {v2 : Value} (h2 : BufF B acc v2 w) (hne : e ≠ 5) (hg : w.grownBy w' v2.ownBlock) : w'.ownsRow base e size v n xs := by
  rcases h2 with h2 | ⟨rfl, g, rfl, hb, hgg⟩
  · exact owned_grown h h2 hne hg
  · exact owned_of_block h fun k cur _ hc => hg.block k (lt_block hc) (fun e' => by
      simp [Value.ownBlock] at e'; subst e'; rw [hgg] at hc; cases hc)
theorem BufF.cells {B : Nat} {acc : List UInt8} {v : Value} {W : World} (h : BufF B acc v W) {g : Nat} (hv : v.ownBlock = some g) : ∀ j u, (byteVals acc)[j]? = some u → W.cell? ((⟨g, 0, none⟩ : Addr).add j) = some u := by
  rcases h with h | ⟨rfl, g', rfl, hb, hgg⟩
  · exact h.cells hv
  · intro j u hu
    cases hv
    have hadd : (⟨g', 0, none⟩ : Addr).add j = ⟨g', j, none⟩ := by unfold Addr.add; split <;> simp_all
    rw [hadd, cell_of_row W g' j _ 5 _ hgg]
    simpa [headC] using hu
theorem BufF.text {B : Nat} {acc : List UInt8} {ao : Option Addr} {cap : Nat} {W : World} (h : BufF B acc (.slice ao acc.length cap) W) : (convert 53 9 (.slice ao acc.length cap)).run Tryz.prog W = .ok (.string ⟨acc.toArray⟩) W := by
  rcases h with h | ⟨rfl, g, hv, hb, hgg⟩
  · exact owned_text h
  · cases hv
    refine run_convert_bytes_back W 53 9 5 ⟨g, 0, none⟩ 23 headL Tryz.underlying53 Tryz.underlying5 Tryz.underlying9 ?_
    intro j hj
    have := BufF.cells (B := B) (acc := headL) (.inr ⟨rfl, g, rfl, hb, hgg⟩) rfl j (.int .u8 ((headL[j]).toNat : Int)) (by simp [byteVals, hj])
    exact this
theorem info5' : ∃ i, Tryz.prog.info? 5 = some i ∧ i.zero = some (.int .u8 0) ∧ i.size = 1 ∧ i.bytes = 1 := info_parts (by kernel_rfl)
/-- A text behind what is laid down. -/
theorem wpList_append_buf {w : World} {ops : Array Oper} {rest : List Oper} {o : Oper} {a : Act} {Q : Exit → Act → World → Prop} (hgd : o.guard = none) (sl x : Operand)
    (ho : o.op = .call { callee := .builtin .append, args := #[sl, x], argTypes := #[53, 9] }) (B : Nat) (v : Value) (acc : List UInt8) (hs : a.eval sl = v) (hown : BufF B acc v w) (s : ByteArray) (hx : a.eval x = .string s) (h0 : 0 < s.size)
    (hbytes : acc.length + s.size ≤ 140737488355328) (hbase : B ≤ w.heap.size)
    (h : ∀ v' w', w'.ownsRow B 5 1 v' (acc.length + s.size) (byteVals acc ++ Lib.strCells s) → w.grownBy w' v.ownBlock → wpList Tryz.prog ops Q rest (a.put o.dst v') w') : wpList Tryz.prog ops Q (o :: rest) a w := by
  obtain ⟨i, hi, hz, hsize, hby⟩ := info5'
  rcases hown with hown | hown
  · exact Lib.wpList_append_own_string w hgd sl x 53 9 ho B 5 i Tryz.underlying53 Tryz.underlying9 hi hz hsize hby v acc.length (byteVals acc) hs hown s hx (by unfold maxLen; omega) hbytes hbase (fun v' w' h1 h2 _ => h v' w' h1 h2)
  · have hB : BufF B acc v w := .inr hown
    obtain ⟨rfl, g, rfl, hb, hgg⟩ := hown
    refine wpList_plain hgd fun K hK => ?_
    have hxl : (byteVals headL).length = 23 := rfl
    have hlen : (byteVals headL ++ Lib.strCells s).length = (23 + s.size) * 1 := by rw [List.length_append, hxl, Lib.strCells_length, Nat.mul_one]
    have hl23 : headL.length = 23 := rfl
    have hr := Lib.run_append_grow_string (P := Tryz.prog) w 53 9 o.type 5 i (.int .u8 0) Tryz.underlying53 Tryz.underlying9 hi hz ⟨g, 0, none⟩ 23 23 (byteVals headL) (by rw [hsize]; rfl) (hB.cells rfl) s (by omega) (by omega) (by rw [hby]; exact growslice_fits (by omega) (by omega))
    have hge := grownCap_ge w (23 + s.size) 23 5
    have hcm : grownCap w (23 + s.size) 23 5 ≤ maxLen := grownCap_le_maxLen w (23 + s.size) 23 5 (by unfold maxLen; omega)
    unfold Oper.wp execOp
    simp only [ho, resolve, invoke, builtin, Sem.run_bind, Sem.run_pure, Result.andThen_ok, List.map_toArray, List.map_cons, List.map_nil, hs, hx, hr]
    refine hK _ _ (h _ _ ⟨hlen, .inr ⟨w.heap.size, _, _, rfl, hbase, heap_alloc_new w.drew _, hge, hcm, ?_, ?_⟩⟩ ⟨rfl, rfl, rfl, by simp, fun k hk _ => (below_new w.drew _).block k hk⟩)
    · have hz1 : (Value.int IntKind.u8 0).cells.size = 1 := rfl
      simp only [Array.size_append, List.size_toArray, size_zeroCells, hz1, hxl, Lib.strCells_length]
      omega
    · simp only [Array.toList_append, List.append_assoc]
      rw [← List.append_assoc, hl23, ← hlen]
      exact List.take_left

/-- Where the document's Print stands: names, lengths, the text so far. -/
structure PrAt (w : World) (ns : List ByteArray) (zs : List Int) (vn vl vb : Value) (acc : List UInt8) (W : World) : Prop where
  low : Below w.heap.size w W
  names : W.ownsRow w.heap.size 9 1 vn ns.length (strVals ns)
  lens : W.ownsRow w.heap.size 3 1 vl zs.length (intVals zs)
  buf : BufF w.heap.size acc vb W
theorem PrAt.next {w W W' : World} {ns : List ByteArray} {zs : List Int} {vn vl vb : Value} {acc : List UInt8} (h : PrAt w ns zs vn vl vb acc W) (hb : Below W.heap.size W W') : PrAt w ns zs vn vl vb acc W' :=
  ⟨h.low.trans (hb.mono h.low.size), owned_below h.names hb, owned_below h.lens hb, h.buf.below hb⟩
theorem PrAt.name {w W W' : World} {ns : List ByteArray} {zs : List Int} {vn vl vb v' : Value} {acc : List UInt8} {s : ByteArray} {o : Obj} (h : PrAt w ns zs vn vl vb acc W) (ho : W'.ownsRow w.heap.size 9 1 v' (ns.length + 1) (strVals ns ++ [.string s])) (hg : (W.alloc o).grownBy W' vn.ownBlock) : PrAt w (ns ++ [s]) zs v' vl vb acc W' := by
  have h1 := h.next (below_new W o)
  refine ⟨h1.low.grown hg h1.low.size (fun k hk => (h.names.lt k hk).1), ?_, owned_grown h1.lens h1.names (by decide) hg, h1.buf.grown h1.names (by decide) hg⟩
  rw [strVals_snoc, List.length_append]; exact ho
theorem PrAt.len {w W W' : World} {ns : List ByteArray} {zs : List Int} {vn vl vb v' : Value} {acc : List UInt8} {z : Int} {o : Obj} (h : PrAt w ns zs vn vl vb acc W) (ho : W'.ownsRow w.heap.size 3 1 v' (zs.length + 1) (intVals zs ++ [.int .i64 z])) (hg : (W.alloc o).grownBy W' vl.ownBlock) : PrAt w ns (zs ++ [z]) vn v' vb acc W' := by
  have h1 := h.next (below_new W o)
  refine ⟨h1.low.grown hg h1.low.size (fun k hk => (h.lens.lt k hk).1), owned_grown h1.names h1.lens (by decide) hg, ?_, h1.buf.grown h1.lens (by decide) hg⟩
  rw [intVals_snoc, List.length_append]; exact ho
theorem PrAt.text {w W W' : World} {ns : List ByteArray} {zs : List Int} {vn vl vb v' : Value} {acc : List UInt8} {t : ByteArray} (h : PrAt w ns zs vn vl vb acc W) (ho : W'.ownsRow w.heap.size 5 1 v' (acc.length + t.size) (byteVals acc ++ Lib.strCells t)) (hg : W.grownBy W' vb.ownBlock) : PrAt w ns zs vn vl v' (acc ++ t.data.toList) W' := by
  refine ⟨h.low.grown hg h.low.size (fun k hk => (h.buf.lt k hk).1), owned_grownF h.names h.buf (by decide) hg, owned_grownF h.lens h.buf (by decide) hg, .inl ?_⟩
  rw [byteVals_append, List.length_append, size_toList, ← strCells_eq]; exact ho
theorem refsT_snoc (fs : List Rv) (f : Rv) : refsT (fs ++ [f]) = refsT fs ++ (refLine f.P ++ [10]) := by simp [refsT]
/-- The text of references, how long it may be. -/
theorem refsT_len : ∀ {fs : List Rv}, (∀ f ∈ fs, rvOk f ∧ f.1.size ≤ 64) → (refsT fs).length ≤ fs.length * 101
  | [], _ => by simp [refsT]
  | f :: fs, h => by
    have h1 := refsT_len (fs := fs) (fun g hg => h g (by simp [hg]))
    have h2 := h f (by simp)
    have h3 := refLine_len (f := f) ⟨h2.2, h2.1.2.1, h2.1.2.2⟩
    have e : refsT (f :: fs) = (refLine f.P ++ [10]) ++ refsT fs := rfl
    rw [e, List.length_append, List.length_append]
    simp only [List.length_cons, List.length_nil]
    omega
theorem head_own (w : World) : PrAt w [] [] (.slice none 0 0) (.slice none 0 0) (.slice (some ⟨w.heap.size, 0, none⟩) 23 23) headL (w.alloc (.cells headC 5 (23, 24))) :=
  ⟨below_new _ _, World.ownsRow_nil _ _ _ _, World.ownsRow_nil _ _ _ _, .inr ⟨rfl, w.heap.size, rfl, Nat.le_refl _, heap_alloc_new w _⟩⟩

set_option maxRecDepth 20000 in
set_option maxHeartbeats 8000000 in
theorem refPrintFile_calls (ao : Option Addr) (len cap : Nat) (qs : List Sq) (bo : Option Addr) (n cap2 : Nat) (xs : List Rl) (w : World) (hz : SqsAt w ao len qs) (hx : RecsAt w bo n xs) :
    Calls Tryz.prog 20 #[.slice ao len cap, .slice bo n cap2] w fun e w' => TextPost (printF (qs.map Sq.P) (xs.map Rl.R)) w e w' := by
  have HZ : Hid (SqsAt w ao len qs) := hz
  have HX : Hid (RecsAt w bo n xs) := hx
  have HZL : Hid (qs.length = len) := hz.length
  have HXL : Hid (xs.length = n) := hx.length
  have hm1 := hz.short
  have hm2 := hx.short
  unfold maxLen at hm1 hm2
  clear hz hx
  by_cases hl1 : len ≤ 64
  case neg =>
    have d1 : decide ((len : Int) > 64) = true := by simp; omega
    have HE : Hid (printF (qs.map Sq.P) (xs.map Rl.R) = ([], 2)) := print_long (.inl (by rw [List.length_map, HZL.out]; omega))
    go_enter Tryz.func20, Tryz.ntmps20
    go_wp2
    go_ret2
    exact text_post HE.out rfl (Below.refl _ _)
  have d1 : decide ((len : Int) > 64) = false := by simp; omega
  by_cases hl2 : n ≤ 256
  case neg =>
    have d2 : decide ((n : Int) > 256) = true := by simp; omega
    have HE : Hid (printF (qs.map Sq.P) (xs.map Rl.R) = ([], 2)) := print_long (.inr (by rw [List.length_map, HXL.out]; omega))
    go_enter Tryz.func20, Tryz.ntmps20
    go_wp2
    go_ret2
    exact text_post HE.out rfl (Below.refl _ _)
  have d2 : decide ((n : Int) > 256) = false := by simp; omega
  have HNL : Hid (¬ (64 < (qs.map Sq.P).length ∨ 256 < (xs.map Rl.R).length)) := by
    show ¬ _
    rw [List.length_map, List.length_map, HZL.out, HXL.out]; omega
  have kc := fun (W : World) (C : Array Value) (n c : Nat) => Lib.run_convert_bytes_const (P := Tryz.prog) W 53 5 C n c Tryz.underlying53 Tryz.underlying5
  go_enter Tryz.func20, Tryz.ntmps20
  obtain ⟨i9, hi9, hz90, hz91, hz92⟩ := info_parts info9
  obtain ⟨i3, hi3, hz30, hz31, hz32⟩ := info_parts info3
  go_wp2_with fail
  have HW0 : Hid (PrAt w [] [] (.slice none 0 0) (.slice none 0 0) (.slice (some ⟨w.heap.size, 0, none⟩) 23 23) headL (w.alloc (.cells headC 5 (23, 24)))) := head_own w
  go_loopw [6, 7, 8, 9] (fun vn vl vb i wr => ∃ (j : Nat) (fs : List Rv), j ≤ len ∧ i = .int .i64 j ∧ fs.length = j ∧ PrAt w (fs.map (·.1)) (fs.map (·.2)) vn vl vb (headL ++ refsT fs) wr ∧ (∀ f ∈ fs, rvOk f ∧ f.1.size ≤ 64) ∧ Hid (knowB (qs.map Sq.P) = knowGo (fs.map Rv.P) ((qs.drop j).map Sq.P))) (fun _ _ _ i _ => len - (intOf i).toNat)
  case atStart => exact ⟨0, [], Nat.zero_le _, rfl, rfl, HW0.out, by simp, rfl⟩
  case round =>
    obtain ⟨j, fs, hj, rfl, hfl, hpr, hfine, HK⟩ := hrel
    obtain ⟨nao, ncap, hvn⟩ := owned_shape hpr.names
    obtain ⟨lao, lcap, hvl⟩ := owned_shape hpr.lens
    obtain ⟨bao, bcap, hvb⟩ := hpr.buf.shape
    have hrl := refsT_len hfine
    rw [List.length_map, hfl] at hvn hvl
    subst hvn hvl hvb
    have HFL : Hid (fs.length = j) := hfl
    have HPr : Hid (PrAt w (fs.map (·.1)) (fs.map (·.2)) (.slice nao j ncap) (.slice lao j lcap) (.slice bao (headL ++ refsT fs).length bcap) (headL ++ refsT fs) wr) := hpr
    have HFi : Hid (∀ f ∈ fs, rvOk f ∧ f.1.size ≤ 64) := hfine
    have hacc : (headL ++ refsT fs).length ≤ 23 + j * 101 := by rw [List.length_append]; rw [hfl] at hrl; show 23 + _ ≤ _; omega
    clear hpr hfine hfl hrl HW0
    by_cases hlt : j < len
    · have hdk : decide ((j : Int) < (len : Int)) = true := by simp; omega
      obtain ⟨q, hq⟩ : ∃ q, qs[j]? = some q := ⟨_, List.getElem?_eq_getElem (by rw [HZL.out]; exact hlt)⟩
      obtain ⟨b, off, rfl, _⟩ := HZ.out.cells (by omega)
      have HCs : Hid (∀ W, Below w.heap.size w W → W.cell? ⟨b, off + j * 3, none⟩ = some (.string q.1) ∧ W.cell? ⟨b, off + j * 3 + 1, none⟩ = some (.string q.2.1) ∧ W.cell? ⟨b, off + j * 3 + 2, none⟩ = some (.string q.2.2)) := fun W hW => by
        obtain ⟨b', off', e, hcs⟩ := (HZ.out.below hW).cells (by omega)
        cases e
        exact hcs j q hq
      have hqs := HZ.out.fine q (List.mem_of_getElem? hq)
      have HKn : Hid (knowB (qs.map Sq.P) = if (findB (fs.map Rv.P) q.P.1).isSome = true ∨ seqOkB q.P = false then none else knowGo (fs.map Rv.P ++ [refOf q.P]) ((qs.drop (j + 1)).map Sq.P)) := by
        show knowB _ = _
        rw [HK.out, knowGo_at hq]
      have HSq : Hid (∀ W, Calls Tryz.prog 40 #[.agg #[.string q.1, .string q.2.1, .string q.2.2]] W fun e w' => e = .returned (.bool (seqOkB q.P)) ∧ Below W.heap.size W w') := fun W => refSeq_calls q W hqs
      have HPl : Hid (∀ W, W.ownsRow w.heap.size 9 1 (.slice nao j ncap) j (strVals (fs.map (·.1))) → Calls Tryz.prog 41 #[.slice nao j ncap, .string q.1] W fun e w' => PlacePost fs q.P.1 W e w') := fun W hW => place_calls nao j ncap fs q.1 W (owned_strs hW (by omega))
      have HPn : Hid (∀ W vl vb acc, PrAt w (fs.map (·.1)) (fs.map (·.2)) (.slice nao j ncap) vl vb acc W → W.ownsRow w.heap.size 9 1 (.slice nao j ncap) j (strVals (fs.map (·.1)))) := fun W vl vb acc h => by
        have := h.names
        rw [List.length_map, HFL.out] at this; exact this
      generalize hAC : headL ++ refsT fs = acc at *
      have HAC : Hid (headL ++ refsT fs = acc) := hAC
      clear hAC hq HK
      obtain ⟨c0, c1, c2⟩ := HCs.out _ HPr.out.low
      go_wp2_with fail
      refine (HSq.out _).mono ?_
      rintro e w1 ⟨rfl, hb1⟩
      have HP1 : Hid (PrAt w (fs.map (·.1)) (fs.map (·.2)) (.slice nao j ncap) (.slice lao j lcap) (.slice bao acc.length bcap) acc w1) := HPr.out.next hb1
      clear hb1 HSq HPr c0 c1 c2
      obtain ⟨c0, c1, c2⟩ := HCs.out _ HP1.out.low
      go_wp2_with fail
      refine (HPl.out _ (HPn.out _ _ _ _ HP1.out)).mono ?_
      rintro e w2 ⟨z, rfl, hz, hw2⟩
      rw [hw2]
      have HPo : Hid _ := hz
      clear hz hw2 HPl
      cases hso : seqOkB q.P with
      | false =>
        have HE : Hid (TextPost (printF (qs.map Sq.P) (xs.map Rl.R)) w (.returned (.tuple #[.string ⟨#[]⟩, .int .i64 50])) w1) := text_post (print_refs HNL.out (by rw [HKn.out, if_pos (.inr hso)])) rfl HP1.out.low
        clear HKn hso HPo
        go_wp2
        go_ret2
        exact HE.out
      | true =>
      rcases HPo.out with ⟨hneg, hnone⟩ | ⟨k, f, hk, hfk, hfind⟩
      case inr =>
        have hd : decide (z ≥ 0) = true := by simp; omega
        have HE : Hid (TextPost (printF (qs.map Sq.P) (xs.map Rl.R)) w (.returned (.tuple #[.string ⟨#[]⟩, .int .i64 50])) w1) := text_post (print_refs HNL.out (by rw [HKn.out, if_pos (.inl (by rw [hfind]; rfl))])) rfl HP1.out.low
        clear HKn hso HPo hfind hfk hk
        go_wp2
        go_ret2
        exact HE.out
      have hd : decide (z ≥ 0) = false := by simp; omega
      have HE : Hid (knowB (qs.map Sq.P) = knowGo ((fs ++ [((q.1, (q.2.2.size : Int)) : Rv)]).map Rv.P) ((qs.drop (j + 1)).map Sq.P)) := by
        show _ = _
        rw [HKn.out, if_neg (by rw [hnone, hso]; simp), List.map_append]
        simp [Rv.P, refOf, Sq.P]
      have hq1 : q.1.size ≤ 64 ∧ q.2.2.size ≤ 65536 := by
        simp only [seqOkB, Bool.and_eq_true, basesB, decide_eq_true_eq] at hso
        have h1 := name_short hso.1
        have h2 := hso.2.2.2.1
        simp only [Sq.P, size_toList] at h1 h2
        exact ⟨h1, h2⟩
      have HFi2 : Hid (∀ f ∈ fs ++ [((q.1, (q.2.2.size : Int)) : Rv)], rvOk f ∧ f.1.size ≤ 64) := by
        intro f hf
        rcases List.mem_append.1 hf with hf | hf
        · exact HFi.out f hf
        · simp at hf; subst hf; exact ⟨⟨by show q.1.size ≤ _; omega, by show (0 : Int) ≤ (q.2.2.size : Int); omega, by show (q.2.2.size : Int) ≤ 65536; omega⟩, hq1.1⟩
      have HNm : Hid (∀ W, Calls Tryz.prog 31 #[.int .i64 (q.2.2.size : Int)] W fun e w' => ∃ t : ByteArray, e = .returned (.string t) ∧ t.data.toList = Lib.itoa (q.2.2.size : Int) ∧ w' = W) := fun W => number_calls _ W ⟨by omega, by omega⟩
      have hil := Lib.itoa_length_le (q.2.2.size : Int) (by omega) (by omega)
      have HRL : Hid (refLine (Rv.P (q.1, (q.2.2.size : Int))) = refMark ++ (q.1.data.toList ++ (lenMark ++ Lib.itoa (q.2.2.size : Int)))) := rfl
      have HLj : Hid ((fs.map (·.1)).length = j ∧ (fs.map (·.2)).length = j) := ⟨by rw [List.length_map]; exact HFL.out, by rw [List.length_map]; exact HFL.out⟩
      have hs1 : w.heap.size ≤ w1.heap.size := HP1.out.low.size
      have HO1 := HPn.out _ _ _ _ HP1.out
      clear HKn hso HPo hnone HFi hqs
      go_wp2_with (at_builtin; go_loud (refine wpList_append_own _ rfl _ _ 46 rfl w.heap.size 9 i9 (.string ⟨#[]⟩) 1 16 Tryz.underlying46 hi9 hz90 hz91 hz92 rfl (by decide) (.slice nao j ncap) _ _ rfl (HO1.alloc _) ⟨_, 0, none⟩ 1 1 [.string q.1] rfl rfl (cell_one_new _ _) (str_one _) ?c3 ?c4 ?c5 ?_))
      case c3 => unfold maxLen; omega
      case c4 => omega
      case c5 => simp; omega
      intro vn2 w3 ho3 hg3 _
      have HP3 : Hid (PrAt w (fs.map (·.1) ++ [q.1]) (fs.map (·.2)) vn2 (.slice lao j lcap) (.slice bao acc.length bcap) acc w3) := HP1.out.name (by rw [HLj.out.1]; exact ho3) hg3
      clear ho3 hg3 HO1 HP1 HPn c0 c1 c2
      obtain ⟨c0, c1, c2⟩ := HCs.out _ HP3.out.low
      have hs3 : w.heap.size ≤ w3.heap.size := HP3.out.low.size
      have HO3 : w3.ownsRow w.heap.size 3 1 (.slice lao j lcap) j (intVals (fs.map (·.2))) := by have := HP3.out.lens; rw [HLj.out.2] at this; exact this
      go_wp2_with (at_builtin; go_loud (refine wpList_append_own _ rfl _ _ 47 rfl w.heap.size 3 i3 (.int .i64 0) 1 8 Tryz.underlying47 hi3 hz30 hz31 hz32 rfl (by decide) (.slice lao j lcap) _ _ rfl (HO3.alloc _) ⟨_, 0, none⟩ 1 1 [.int .i64 (q.2.2.size : Int)] rfl rfl (cell_int_new _ _) (int_one _) ?c3 ?c4 ?c5 ?_))
      case c3 => unfold maxLen; omega
      case c4 => omega
      case c5 => simp; omega
      intro vl2 w4 ho4 hg4 _
      have HP4 : Hid (PrAt w (fs.map (·.1) ++ [q.1]) (fs.map (·.2) ++ [(q.2.2.size : Int)]) vn2 vl2 (.slice bao acc.length bcap) acc w4) := HP3.out.len (by rw [HLj.out.2]; exact ho4) hg4
      clear ho4 hg4 HO3 HP3 c0 c1 c2
      obtain ⟨c0, c1, c2⟩ := HCs.out _ HP4.out.low
      go_wp2_with fail
      refine (HNm.out _).mono ?_
      rintro e w5 ⟨t, rfl, ht, hw5⟩
      rw [hw5]
      have HT : Hid (t.data.toList = Lib.itoa (q.2.2.size : Int)) := ht
      have hts : t.size ≤ 21 := by rw [← size_toList, ht]; exact hil
      clear hw5 ht HNm hil
      obtain ⟨s1, hs1', hc1⟩ : ∃ s1 : ByteArray, s1 = ⟨#[64, 83, 81, 9, 83, 78, 58]⟩ ++ q.1 ∧ ∀ W, (Op.stringOp .add ⟨#[64, 83, 81, 9, 83, 78, 58]⟩ q.1).run Tryz.prog W = .ok (.string s1) W := ⟨_, rfl, fun W => run_string_add_sum W _ _ (by show 7 + q.1.size ≤ _; omega)⟩
      have hz1 : s1.size ≤ 71 := by rw [hs1', ← size_toList, ba_append, List.length_append, size_toList]; show 7 + _ ≤ _; rw [size_toList]; omega
      obtain ⟨s2, hs2, hc2⟩ : ∃ s2 : ByteArray, s2 = s1 ++ ⟨#[9, 76, 78, 58]⟩ ∧ ∀ W, (Op.stringOp .add s1 ⟨#[9, 76, 78, 58]⟩).run Tryz.prog W = .ok (.string s2) W := ⟨_, rfl, fun W => run_string_add_sum W _ _ (by show s1.size + 4 ≤ _; omega)⟩
      have hz2 : s2.size ≤ 75 := by rw [hs2, ← size_toList, ba_append, List.length_append, size_toList]; show _ + 4 ≤ _; omega
      obtain ⟨s3, hs3', hc3⟩ : ∃ s3 : ByteArray, s3 = s2 ++ t ∧ ∀ W, (Op.stringOp .add s2 t).run Tryz.prog W = .ok (.string s3) W := ⟨_, rfl, fun W => run_string_add_sum W _ _ (by omega)⟩
      have hz3 : s3.size ≤ 96 := by rw [hs3', ← size_toList, ba_append, List.length_append, size_toList, size_toList]; omega
      obtain ⟨s4, hs4, hc4⟩ : ∃ s4 : ByteArray, s4 = s3 ++ ⟨#[10]⟩ ∧ ∀ W, (Op.stringOp .add s3 ⟨#[10]⟩).run Tryz.prog W = .ok (.string s4) W := ⟨_, rfl, fun W => run_string_add_sum W _ _ (by show s3.size + 1 ≤ _; omega)⟩
      have hz4 : s4.size ≤ 97 ∧ 0 < s4.size := by
        have : s4.size = s3.size + 1 := by rw [hs4, ← size_toList, ba_append, List.length_append, size_toList]; rfl
        omega
      have HS4 : Hid (s4.data.toList = refLine (Rv.P (q.1, (q.2.2.size : Int))) ++ [10]) := by
        show _ = _
        rw [hs4, ba_append, hs3', ba_append, hs2, ba_append, hs1', ba_append, HT.out, HRL.out]
        simp [refMark, lenMark]
      have hsw4 : w.heap.size ≤ w4.heap.size := HP4.out.low.size
      clear hs1' hs2 hs3' hs4 HT HRL
      go_wp2_with (at_builtin; go_loud (refine wpList_append_buf rfl (.tmp 76) (.tmp 86) rfl w.heap.size (.slice bao acc.length bcap) acc rfl HP4.out.buf s4 rfl (by omega) (by omega) hsw4 ?_))
      intro vb2 w6 ho6 hg6
      have HP6 : Hid (PrAt w ((fs ++ [((q.1, (q.2.2.size : Int)) : Rv)]).map (·.1)) ((fs ++ [((q.1, (q.2.2.size : Int)) : Rv)]).map (·.2)) vn2 vl2 vb2 (headL ++ refsT (fs ++ [((q.1, (q.2.2.size : Int)) : Rv)])) w6) := by
        have h := HP4.out.text ho6 hg6
        rw [HS4.out, ← HAC.out, List.append_assoc, ← refsT_snoc] at h
        rw [List.map_append, List.map_append]
        exact h
      clear ho6 hg6 HP4 c0 c1 c2 hc1 hc2 hc3 hc4
      go_wp2
      go_roundw
      case rel => exact ⟨j + 1, fs ++ [((q.1, (q.2.2.size : Int)) : Rv)], by omega, by go_num, by rw [List.length_append, HFL.out]; rfl, HP6.out, HFi2.out, HE.out⟩
      case measure => simp [intOf]; omega
    · have hdk : decide ((j : Int) < (len : Int)) = false := by simp; omega
      have HKs : Hid (knowB (qs.map Sq.P) = some (fs.map Rv.P)) := by
        show _ = _
        rw [HK.out, List.drop_eq_nil_of_le (by rw [HZL.out]; omega)]; rfl
      have HLj : Hid ((fs.map (·.1)).length = j ∧ (fs.map (·.2)).length = j) := ⟨by rw [List.length_map]; exact HFL.out, by rw [List.length_map]; exact HFL.out⟩
      have HPN : Hid (∀ W vb acc, PrAt w (fs.map (·.1)) (fs.map (·.2)) (.slice nao j ncap) (.slice lao j lcap) vb acc W → StrsAt W nao j (fs.map (·.1)) ∧ IntsAt W lao j (fs.map (·.2))) := fun W vb acc h => by
        have h1 := h.names
        have h2 := h.lens
        rw [HLj.out.1] at h1
        rw [HLj.out.2] at h2
        exact ⟨owned_strs h1 (by omega), owned_ints h2 (by omega)⟩
      generalize hAC : headL ++ refsT fs = acc at *
      have HAC : Hid (headL ++ refsT fs = acc) := hAC
      clear hAC HK
      go_wp2_with fail
      go_loopw [13] (fun i wq => ∃ k : Nat, k ≤ n ∧ i = .int .i64 k ∧ PrAt w (fs.map (·.1)) (fs.map (·.2)) (.slice nao j ncap) (.slice lao j lcap) (.slice bao acc.length bcap) acc wq ∧ ∀ x ∈ xs.take k, rightR x.R = true ∧ fitsB (fs.map Rv.P) x.R = true) (fun i _ => n - (intOf i).toNat)
      case atStart => exact ⟨0, Nat.zero_le _, rfl, HPr.out, by simp⟩
      case round =>
        obtain ⟨k, hk, rfl, hpr, hall⟩ := hrel
        have HP : Hid (PrAt w (fs.map (·.1)) (fs.map (·.2)) (.slice nao j ncap) (.slice lao j lcap) (.slice bao acc.length bcap) acc wr) := hpr
        have HAl : Hid (∀ x ∈ xs.take k, rightR x.R = true ∧ fitsB (fs.map Rv.P) x.R = true) := hall
        clear hpr hall HPr
        by_cases hlk : k < n
        · have hdk2 : decide ((k : Int) < (n : Int)) = true := by simp; omega
          obtain ⟨x, hxk⟩ : ∃ x, xs[k]? = some x := ⟨_, List.getElem?_eq_getElem (by rw [HXL.out]; exact hlk)⟩
          obtain ⟨b2, off2, rfl, hcs⟩ := (HX.out.below HP.out.low).cells (by omega)
          have hcx := hcs k x hxk
          have hok := HX.out.fine x (List.mem_of_getElem? hxk)
          have HBad : Hid ((rightR x.R && fitsB (fs.map Rv.P) x.R) = false → printF (qs.map Sq.P) (xs.map Rl.R) = ([], 51)) := fun h => print_bad HNL.out HKs.out (allFit_take hxk (by rwa [Bool.and_eq_false_iff] at h))
          have HNx : Hid ((rightR x.R && fitsB (fs.map Rv.P) x.R) = true → ∀ y ∈ xs.take (k + 1), rightR y.R = true ∧ fitsB (fs.map Rv.P) y.R = true) := by
            intro h1 y hy
            obtain ⟨hl, he⟩ := List.getElem?_eq_some_iff.1 hxk
            rw [List.take_succ_eq_append_getElem hl, he] at hy
            rcases List.mem_append.1 hy with hy | hy
            · exact HAl.out y hy
            · simp at hy; subst hy; rwa [Bool.and_eq_true] at h1
          have HFt : Hid (Calls Tryz.prog 42 #[.slice nao j ncap, .slice lao j lcap, x.1.val] wr fun e w' => e = .returned (.bool (rightR x.R && fitsB (fs.map Rv.P) x.R)) ∧ Below wr.heap.size wr w') := refFits_calls nao lao j ncap lcap fs x.1 x.2 wr (HPN.out _ _ _ HP.out).1 (HPN.out _ _ _ HP.out).2 (hok.below HP.out.low) (fun f hf => (HFi.out f hf).1)
          generalize (rightR x.R && fitsB (fs.map Rv.P) x.R) = Z at *
          obtain ⟨⟨nm, m, rf, p, ro, rl, rc, b, q, sc⟩, lx⟩ := x
          obtain ⟨c0, c1, c2, c3, c4, c5, c6, c7⟩ := hcx
          simp only [RV.val] at HFt
          clear hcs hxk hok HAl
          go_wp2_with fail
          refine HFt.out.mono ?_
          rintro e w3 ⟨rfl, hb3⟩
          have HP3 : Hid (PrAt w (fs.map (·.1)) (fs.map (·.2)) (.slice nao j ncap) (.slice lao j lcap) (.slice bao acc.length bcap) acc w3) := HP.out.next hb3
          clear hb3 HFt HP c0 c1 c2 c3 c4 c5 c6 c7
          cases Z with
          | false =>
            have HE : Hid (TextPost (printF (qs.map Sq.P) (xs.map Rl.R)) w (.returned (.tuple #[.string ⟨#[]⟩, .int .i64 51])) w3) := text_post (HBad.out rfl) rfl HP3.out.low
            clear HBad HNx
            go_wp2
            go_ret2
            exact HE.out
          | true =>
            have HN2 : Hid (∀ y ∈ xs.take (k + 1), rightR y.R = true ∧ fitsB (fs.map Rv.P) y.R = true) := HNx.out rfl
            clear HBad HNx
            go_wp2
            go_roundw
            case rel => exact ⟨k + 1, by omega, by go_num, HP3.out, HN2.out⟩
            case measure => simp [intOf]; omega
        · have hdk2 : decide ((k : Int) < (n : Int)) = false := by simp; omega
          have HAll : Hid (∀ x ∈ xs, rightR x.R = true ∧ fitsB (fs.map Rv.P) x.R = true) := by
            have := HAl.out
            rwa [List.take_of_length_le (by rw [HXL.out]; omega)] at this
          have HE : Hid (printF (qs.map Sq.P) (xs.map Rl.R) = layA fs xs) := print_lay HNL.out HKs.out (by
            unfold allFit
            rw [List.all_eq_true]
            intro r hr
            obtain ⟨x, hx, rfl⟩ := List.mem_map.1 hr
            simp [HAll.out x hx])
          have HBf : Hid (BufF w.heap.size (accX fs xs 0) (.slice bao acc.length bcap) wr ∧ Below w.heap.size w wr ∧ (accX fs xs 0).length ≤ 1048576) := by
            have e : accX fs xs 0 = acc := by rw [← HAC.out]; simp [accX, recsT]
            rw [e]; exact ⟨HP.out.buf, HP.out.low, by omega⟩
          clear HP HAl HFi HPN HLj
          go_wp2_with fail
          go_loopw [8, 15] (fun vb i wq => ∃ k : Nat, k ≤ n ∧ i = .int .i64 k ∧ BufF w.heap.size (accX fs xs k) vb wq ∧ Below w.heap.size w wq ∧ Hid ((accX fs xs k).length ≤ 1048576)) (fun _ i _ => n - (intOf i).toNat)
          case atStart => exact ⟨0, Nat.zero_le _, rfl, HBf.out.1, HBf.out.2.1, HBf.out.2.2⟩
          case round =>
            rename_i wq
            obtain ⟨k, hk, rfl, hbu, hbel, HAk⟩ := hrel
            have hal := HAk.out
            obtain ⟨bao, bcap, hvb⟩ := hbu.shape
            subst hvb
            have HBu : Hid (BufF w.heap.size (accX fs xs k) (.slice bao (accX fs xs k).length bcap) wr ∧ Below w.heap.size w wr) := ⟨hbu, hbel⟩
            clear hbu hbel HBf
            by_cases hlk : k < n
            · have hdk2 : decide ((k : Int) < (n : Int)) = true := by simp; omega
              obtain ⟨x, hxk⟩ : ∃ x, xs[k]? = some x := ⟨_, List.getElem?_eq_getElem (by rw [HXL.out]; exact hlk)⟩
              obtain ⟨b2, off2, rfl, hcs⟩ := (HX.out.below HBu.out.2).cells (by omega)
              have hcx := hcs k x hxk
              have hmem := List.mem_of_getElem? hxk
              have hok := HX.out.fine x hmem
              have hrr := (HAll.out x hmem).1
              have HNx : Hid (accX fs xs (k + 1) = accX fs xs k ++ (lineR x.R ++ [10])) := accX_next hxk
              have HBig : Hid (1048576 < (accX fs xs (k + 1)).length → layA fs xs = ([], 2)) := fun h => by
                unfold layA
                rw [if_pos (by rw [← accX_file]; exact Nat.lt_of_lt_of_le h (accX_len _))]
              have hll := lineR_short hrr hok.score
              have HLn : Hid (Calls Tryz.prog 13 #[x.1.val] wr fun e w' => TextPost (lineR x.R, 0) wr e w') := by
                have := refLine_calls x.1 x.2 wr (hok.below HBu.out.2)
                rw [show lineA (x.1.R x.2) = (lineR x.R, 0) by rw [lineA, show rightR (x.1.R x.2) = true from hrr]; rfl] at this
                exact this
              generalize lineR x.R = LR at *
              obtain ⟨⟨nm, m, rf, p, ro, rl, rc, b, q, sc⟩, lx⟩ := x
              obtain ⟨c0, c1, c2, c3, c4, c5, c6, c7⟩ := hcx
              simp only [RV.val] at HLn
              clear hcs hxk hmem hok hrr HAk
              generalize hac : accX fs xs k = acc2 at *
              clear hac
              go_wp2_with fail
              refine HLn.out.mono ?_
              rintro e w3 ⟨t, rfl, ht, hb3⟩
              simp only at ht
              have hts : t.size ≤ 34603548 := by rw [← size_toList, ht]; exact hll
              have HT : Hid (t.data.toList = LR) := ht
              have HB3 : Hid (BufF w.heap.size acc2 (.slice bao acc2.length bcap) w3 ∧ Below w.heap.size w w3) := ⟨HBu.out.1.below hb3, HBu.out.2.trans (hb3.mono HBu.out.2.size)⟩
              obtain ⟨u, hu, huc⟩ : ∃ u : ByteArray, u = t ++ ⟨#[10]⟩ ∧ ∀ W, (Op.stringOp .add t ⟨#[10]⟩).run Tryz.prog W = .ok (.string u) W := ⟨_, rfl, fun W => run_string_add_sum W _ _ (by show t.size + 1 ≤ _; omega)⟩
              have hus : u.size ≤ 34603549 ∧ 0 < u.size := by
                have : u.size = t.size + 1 := by rw [hu, ← size_toList, ba_append, List.length_append, size_toList]; rfl
                omega
              have HU : Hid (u.data.toList = LR ++ [10]) := by show _ = _; rw [hu, ba_append, HT.out]
              have hs3 : w.heap.size ≤ w3.heap.size := HB3.out.2.size
              clear hb3 ht HLn HBu hu hll HT hts c0 c1 c2 c3 c4 c5 c6 c7
              go_wp2_with (at_builtin; go_loud (refine wpList_append_buf rfl (.tmp 117) (.tmp 119) rfl w.heap.size (.slice bao acc2.length bcap) acc2 rfl HB3.out.1 u rfl (by omega) (by omega) hs3 ?_))
              intro vb2 w6 ho6 hg6
              obtain ⟨ao6, cap6, rfl⟩ := owned_shape ho6
              have HB6 : Hid (BufF w.heap.size (accX fs xs (k + 1)) (.slice ao6 (acc2.length + u.size) cap6) w6 ∧ Below w.heap.size w w6) := by
                refine ⟨.inl ?_, HB3.out.2.grown hg6 hs3 (fun k hk => (HB3.out.1.lt k hk).1)⟩
                rw [HNx.out, byteVals_append, ← HU.out, List.length_append, size_toList, ← strCells_eq]
                exact ho6
              have HLn : Hid ((accX fs xs (k + 1)).length = acc2.length + u.size) := by show _ = _; rw [HNx.out, ← HU.out, List.length_append, size_toList]
              clear ho6 hg6 HB3 huc
              by_cases hbig : acc2.length + u.size ≤ 1048576
              · have hd : decide (((acc2.length + u.size : Nat) : Int) > 1048576) = false := by simp; omega
                have HA2 : Hid ((accX fs xs (k + 1)).length ≤ 1048576) := by show _ ≤ _; rw [HLn.out]; exact hbig
                clear HBig
                go_wp2
                go_roundw
                case rel => exact ⟨k + 1, by omega, by go_num, HB6.out.1, HB6.out.2, HA2⟩
                case measure => simp [intOf]; omega
              · have hd : decide (((acc2.length + u.size : Nat) : Int) > 1048576) = true := by simp; omega
                have HEE : Hid (TextPost (printF (qs.map Sq.P) (xs.map Rl.R)) w (.returned (.tuple #[.string ⟨#[]⟩, .int .i64 2])) w6) := text_post (by rw [HE.out]; exact HBig.out (by rw [HLn.out]; omega)) rfl HB6.out.2
                clear HBig
                go_wp2
                go_ret2
                exact HEE.out
            · have hdk2 : decide ((k : Int) < (n : Int)) = false := by simp; omega
              have hkn : k = xs.length := by rw [HXL.out]; omega
              have HEE : Hid (printF (qs.map Sq.P) (xs.map Rl.R) = (accX fs xs k, 0)) := by
                show _ = _
                rw [HE.out, layA, hkn, accX_file, if_neg (by rw [← accX_file, ← hkn]; omega)]
              have hconv := HBu.out.1.text
              have HBe : Hid (Below w.heap.size w wr) := HBu.out.2
              clear HBu hkn HE
              generalize hac : accX fs xs k = acc2 at *
              clear hac
              go_wp2
              go_ret2
              exact text_post HEE.out rfl HBe.out
end Go.Proofs.YtdhphipdpjhhbaaGreatDoor
