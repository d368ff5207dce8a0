/-
  The file that sam reads, in memory; the walks of takeReference, takeRecord and take.
-/
import Derived.Test.YtdhphipdpjhhbaaGreatDoorReadRef
import Derived.Test.YtdhphipdpjhhbaaGreatDoorRows8
import Derived.Test.YtdhphipdpjhhbaaGreatDoorKnow
import Derived.Test.YtdhphipdpjhhbaaGreatDoorRecord2
import Derived.Test.YtdhphipdpjhhbaaGreatDoorAwake
import Derived.Deep.RegionHeld3
namespace Go.Proofs.YtdhphipdpjhhbaaGreatDoor
open Go.RowKit

/-- What is told of a line is small. -/
structure SmR (r : Rec) : Prop where
  name : r.name.length ≤ 65536
  ref : r.ref.length ≤ 65536
  bases : r.bases.length ≤ 65536
  quals : r.quals.length ≤ 65536
  pos : fit64 r.pos
  score : fit64 r.score
  runs : ∀ x ∈ r.runs, fitI x.2
  few : r.runs.length ≤ 131074
theorem right_sm {r : Rec} (h : rightR r = true) (hs : fit64 r.score) : SmR r := by
  have h1 := rightR_read h
  have hb : r.bases.length ≤ 65536 := by
    have := h1.bases
    simp only [basesB, Bool.and_eq_true, decide_eq_true_eq] at this
    exact this.2.1
  have hn := name_short h1.name
  have hq : r.quals.length ≤ 65536 := by rw [h1.long]; exact hb
  cases hm : r.mapped with
  | false =>
    have e := rightR_plain h hm
    have h0 : fit64 0 := ⟨by decide, by decide⟩
    exact ⟨by omega, by rw [e]; exact Nat.zero_le _, hb, hq, by rw [e]; exact h0, hs, (by rw [e]; exact fun x hx => by cases hx), (by rw [e]; exact Nat.zero_le _)⟩
  | true =>
    have h2 := rightR_map h hm
    have hr := name_short h2.ref
    exact ⟨by omega, by omega, hb, hq, h2.pos_fit, hs, fun x hx => ⟨by have := (right_each h2.runs x hx).2; omega, by have := (right_each h2.runs x hx).2; omega⟩, right_few h2.runs⟩
theorem zero_sm : SmR zeroR := ⟨by decide, by decide, by decide, by decide, ⟨by decide, by decide⟩, ⟨by decide, by decide⟩, (fun x hx => by cases hx), by decide⟩
theorem recA_sm (l : List UInt8) : SmR (recA l).1 := by
  cases h : recB l with
  | none => rw [recA_none h]; exact zero_sm
  | some r => rw [recA_some h]; exact right_sm (recB_spec h).1 (recB_spec h).2.1
theorem sm_ok {W : World} {B : Nat} {v : RV} {r : Rec} (hs : SmR r) (hR : v.R r.runs = r) (ho : W.ownsRow B 37 2 (.slice v.ao v.len v.cap) r.runs.length (rowCells r.runs)) : RecOk W v r.runs ∧ v.len = r.runs.length := by
  obtain ⟨ao', cap', he⟩ := owned_shape ho
  have hl : v.len = r.runs.length := by injection he
  have e1 : v.name.data.toList = r.name := congrArg Rec.name hR
  have e2 : v.ref.data.toList = r.ref := congrArg Rec.ref hR
  have e3 : v.bases.data.toList = r.bases := congrArg Rec.bases hR
  have e4 : v.quals.data.toList = r.quals := congrArg Rec.quals hR
  have e5 : v.pos = r.pos := congrArg Rec.pos hR
  have e6 : v.score = r.score := congrArg Rec.score hR
  have h1 := hs.name
  have h2 := hs.ref
  have h3 := hs.bases
  have h4 := hs.quals
  rw [← e1, size_toList] at h1
  rw [← e2, size_toList] at h2
  rw [← e3, size_toList] at h3
  rw [← e4, size_toList] at h4
  rw [← hl] at ho
  exact ⟨⟨by unfold maxLen; omega, by unfold maxLen; omega, by unfold maxLen; omega, by unfold maxLen; omega, by rw [e5]; exact hs.pos, by rw [e6]; exact hs.score, owned_rns ho hs.runs⟩, hl⟩
abbrev RV.runsV (v : RV) : Value := .slice v.ao v.len v.cap
/-- A file as far as it is read: its block, its references, its records. -/
structure FlAt (w : World) (b : Nat) (fs : List Rv) (xs : List Rl) (vr vl : Value) (W : World) : Prop where
  low : Below w.heap.size w W
  base : w.heap.size ≤ b
  box : W.heap[b]? = some (.cells #[vr, vl] 78 (0, 0))
  refs : W.ownsRow w.heap.size 83 2 vr fs.length (refCells fs)
  recs : W.ownsRow w.heap.size 24 8 vl xs.length ((xs.map (·.1)).flatMap rvRow)
  runs : ∀ x ∈ xs, W.ownsRow w.heap.size 37 2 x.1.runsV x.2.length (rowCells x.2)
  apart : xs.Pairwise fun x y => ∀ g, x.1.runsV.ownBlock = some g → y.1.runsV.ownBlock ≠ some g
  few : fs.length ≤ 64
  many : xs.length ≤ 256
  fine : ∀ f ∈ fs, rvOk f
  good : ∀ x ∈ xs, SmR x.R
theorem FlAt.next {w : World} {b : Nat} {fs : List Rv} {xs : List Rl} {vr vl : Value} {W W' : World} (h : FlAt w b fs xs vr vl W) (hb : Below W.heap.size W W') : FlAt w b fs xs vr vl W' :=
  ⟨h.low.trans (hb.mono h.low.size), h.base, keepB h.box hb, owned_below h.refs hb, owned_below h.recs hb, fun x hx => owned_below (h.runs x hx) hb, h.apart, h.few, h.many, h.fine, h.good⟩
theorem owned_low {w : World} {B B' : Nat} {e : TypeId} {size : Nat} {v : Value} {n : Nat} {xs : List Value} (h : w.ownsRow B e size v n xs) (hB : B' ≤ B) : w.ownsRow B' e size v n xs := by
  refine ⟨h.1, ?_⟩
  rcases h.2 with h1 | ⟨g', cap', cur, hv, hb, rest⟩
  · exact .inl h1
  · exact .inr ⟨g', cap', cur, hv, by omega, rest⟩
theorem FlAt.addRef {w : World} {b : Nat} {fs : List Rv} {xs : List Rl} {vr vl v' : Value} {W W' : World} {f : Rv} {o : Obj} (h : FlAt w b fs xs vr vl W) (ho : W'.ownsRow w.heap.size 83 2 v' (fs.length + 1) (refCells fs ++ rfCells f)) (hg : (W.alloc o).grownBy W' vr.ownBlock) (hf : rvOk f) (hl : fs.length < 64) :
    W'.cell? ⟨b, 0, none⟩ = some vr ∧ W'.frozen? ⟨b, 0, none⟩ = false ∧ FlAt w b (fs ++ [f]) xs v' vl (W'.setCell ⟨b, 0, none⟩ v') := by
  have h1 := h.next (below_new W o)
  have hbx : W'.heap[b]? = some (.cells #[vr, vl] 78 (0, 0)) := by
    rw [hg.block b (lt_block h1.box) (owned_ne h1.refs h1.box (by decide)).symm]; exact h1.box
  refine ⟨cellB hbx rfl, freeB hbx 0, ⟨(h1.low.grown hg h1.low.size (fun k hk => (h1.refs.lt k hk).1)).setCell (p := ⟨b, 0, none⟩) h.base _, h.base, ?_, ?_, ?_, ?_, h.apart, ?_, h.many, ?_, h.good⟩⟩
  · exact heap_setCell_same W' b 0 #[vr, vl] 78 v' hbx
  · have h2 := owned_setOther (i := 0) ho hbx (by decide) v'
    rw [refCells_snoc, List.length_append]; exact h2
  · exact owned_setOther (owned_grown h1.recs h1.refs (by decide) hg) hbx (by decide) v'
  · exact fun x hx => owned_setOther (owned_grown (h1.runs x hx) h1.refs (by decide) hg) hbx (by decide) v'
  · rw [List.length_append]; show fs.length + 1 ≤ 64; omega
  · intro g hgm
    rcases List.mem_append.1 hgm with hgm | hgm
    · exact h.fine g hgm
    · simp at hgm; subst hgm; exact hf
theorem FlAt.addRec {w : World} {b : Nat} {fs : List Rv} {xs : List Rl} {vr vl v' : Value} {W W' : World} {x : Rl} {o : Obj} (h : FlAt w b fs xs vr vl W) (ho : W'.ownsRow w.heap.size 24 8 v' (xs.length + 1) ((xs.map (·.1)).flatMap rvRow ++ rvRow x.1)) (hg : (W.alloc o).grownBy W' vl.ownBlock)
    (hr : W.ownsRow w.heap.size 37 2 x.1.runsV x.2.length (rowCells x.2)) (hnew : ∀ y ∈ xs, ∀ g, y.1.runsV.ownBlock = some g → x.1.runsV.ownBlock ≠ some g) (hs : SmR x.R) (hl : xs.length < 256) :
    W'.cell? ⟨b, 1, none⟩ = some vl ∧ W'.frozen? ⟨b, 1, none⟩ = false ∧ FlAt w b fs (xs ++ [x]) vr v' (W'.setCell ⟨b, 1, none⟩ v') := by
  have hbn := below_new W o
  have h1 := h.next hbn
  have hbx : W'.heap[b]? = some (.cells #[vr, vl] 78 (0, 0)) := by
    rw [hg.block b (lt_block h1.box) (owned_ne h1.recs h1.box (by decide)).symm]; exact h1.box
  refine ⟨cellB hbx rfl, freeB hbx 1, ⟨(h1.low.grown hg h1.low.size (fun k hk => (h1.recs.lt k hk).1)).setCell (p := ⟨b, 1, none⟩) h.base _, h.base, ?_, ?_, ?_, ?_, ?_, h.few, ?_, h.fine, ?_⟩⟩
  · exact heap_setCell_same W' b 1 #[vr, vl] 78 v' hbx
  · exact owned_setOther (owned_grown h1.refs h1.recs (by decide) hg) hbx (by decide) v'
  · have h2 := owned_setOther (i := 1) ho hbx (by decide) v'
    rw [List.map_append, List.flatMap_append, List.length_append]
    simpa using h2
  · intro y hy
    rcases List.mem_append.1 hy with hy | hy
    · exact owned_setOther (owned_grown (h1.runs y hy) h1.recs (by decide) hg) hbx (by decide) v'
    · simp at hy; subst hy
      exact owned_setOther (owned_grown (owned_below hr hbn) h1.recs (by decide) hg) hbx (by decide) v'
  · rw [List.pairwise_append]
    refine ⟨h.apart, by simp, fun y hy z hz g hgy => ?_⟩
    simp at hz; subst hz
    exact hnew y hy g hgy
  · rw [List.length_append]; show xs.length + 1 ≤ 256; omega
  · intro y hy
    rcases List.mem_append.1 hy with hy | hy
    · exact h.good y hy
    · simp at hy; subst hy; exact hs
/-- What taking a line in leaves. -/
def TakePost (w : World) (b : Nat) (o : Option Fl) (e : Ending) (W' : World) : Prop :=
  e = .returned (.bool o.isSome) ∧ Below w.heap.size w W' ∧ ∀ f, o = some f → ∃ fs xs vr vl, FlAt w b fs xs vr vl W' ∧ (fs.map Rv.P, xs.map Rl.R) = f
theorem take_none {w : World} {b : Nat} {o : Option Fl} {W' : World} (h : o = none) (hb : Below w.heap.size w W') : TakePost w b o (.returned (.bool false)) W' :=
  ⟨by rw [h]; rfl, hb, fun f hf => by rw [h] at hf; cases hf⟩
/-- append onto a row of the call's own, as one step of a statement that leaves its order open. -/
theorem step_append_own {P : Program} {ops : Array Oper} {o : Oper} {a : Act} {w : World} {K : Act → World → Prop} {Q : Exit → Act → World → Prop} {E : Prop}
    (hg : o.guard = none) (s x : Operand) (t : TypeId) (hop : o.op = Op.call { callee := Callee.builtin Builtin.append, args := #[s, x], argTypes := #[t, t] })
    (base : Nat) (e : TypeId) (i : TypeInfo) (z : Value) (size bytes : Nat) (h1 : P.underlying t = some (.slice e)) (h2 : P.info? e = some i) (h3 : i.zero = some z) (h4 : i.size = size) (h5 : i.bytes = bytes) (h6 : z.cells.size = size) (h7 : 0 < size)
    (v : Value) (n : Nat) (xs : List Value) (hs : a.eval s = v) (hown : w.ownsRow base e size v n xs)
    (ad : Addr) (m c : Nat) (news : List Value) (hx : a.eval x = .slice (some ad) m c) (hn : news.length = m * size) (hc : ∀ j u, news[j]? = some u → w.cell? (ad.add j) = some u) (h1c : ∀ u ∈ news, u.oneCell' = true)
    (b1 : n + m ≤ maxLen) (b2 : (n + m) * bytes ≤ 140737488355328) (hbase : base ≤ w.heap.size)
    (hK : ∀ v' w', w'.ownsRow base e size v' (n + m) (xs ++ news) → w.grownBy w' v.ownBlock → K (a.put o.dst v') w') :
    if Region.wanted o (yielded ops a.tmps) = true then Oper.wp P o a w K Q else E := by
  have hw : Region.wanted o (yielded ops a.tmps) = true := by simp [Region.wanted, hg]
  rw [if_pos hw]
  obtain ⟨v', w', hrun, r1, r2, _⟩ := run_append_own (P := P) w base t o.type e i z size bytes h1 h2 h3 h4 h5 h6 h7 v n xs hown ad m c news hn hc h1c b1 b2 hbase
  unfold Oper.wp
  simp [execOp, hop, resolve, invoke, builtin, hs, hx, hrun, Result.andThen]
  exact hK v' w' r1 r2

/-- Where takeReference stands: the file, the reference that was read. -/
structure TkA (w : World) (b : Nat) (fs : List Rv) (xs : List Rl) (vr vl : Value) (nm : ByteArray) (z : Int) (g5 : Nat) (W : World) : Prop where
  fl : FlAt w b fs xs vr vl W
  got : W.heap[g5]? = some (.cells #[.string nm, .int .i64 z] 83 (0, 0))
theorem TkA.next {w : World} {b : Nat} {fs : List Rv} {xs : List Rl} {vr vl : Value} {nm : ByteArray} {z : Int} {g5 : Nat} {W W' : World} (h : TkA w b fs xs vr vl nm z g5 W) (hb : Below W.heap.size W W') : TkA w b fs xs vr vl nm z g5 W' := ⟨h.fl.next hb, keepB h.got hb⟩
structure TkR (w : World) (b : Nat) (fs : List Rv) (xs : List Rl) (vr vl : Value) (nm : ByteArray) (z : Int) (g5 g : Nat) (W : World) : Prop where
  all : TkA w b fs xs vr vl nm z g5 W
  new : W.heap[g]? = some (.cells #[.string ⟨#[]⟩, .int .i64 0] 83 (0, 0))
  far : g5 < g
  low : w.heap.size ≤ g
  free : W.ownsRow w.heap.size 83 2 vr fs.length (refCells fs) → vr.ownBlock ≠ some g
theorem TkR.next {w : World} {b : Nat} {fs : List Rv} {xs : List Rl} {vr vl : Value} {nm : ByteArray} {z : Int} {g5 g : Nat} {W W' : World} (h : TkR w b fs xs vr vl nm z g5 g W) (hb : Below W.heap.size W W') : TkR w b fs xs vr vl nm z g5 g W' :=
  ⟨h.all.next hb, keepB h.new hb, h.far, h.low, fun _ => h.free h.all.fl.refs⟩
theorem TkR.make {w : World} {b : Nat} {fs : List Rv} {xs : List Rl} {vr vl : Value} {nm : ByteArray} {z : Int} {g5 : Nat} {W : World} (h : TkA w b fs xs vr vl nm z g5 W) : TkR w b fs xs vr vl nm z g5 W.heap.size (W.alloc (.cells #[.string ⟨#[]⟩, .int .i64 0] 83)) :=
  ⟨h.next (below_new W _), heap_alloc_new W _, lt_block h.got, h.fl.low.size, fun _ e => by have := (h.fl.refs.lt _ e).2; omega⟩
theorem TkR.set2 {w : World} {b : Nat} {fs : List Rv} {xs : List Rl} {vr vl : Value} {nm : ByteArray} {z : Int} {g5 g : Nat} {W : World} (h : TkR w b fs xs vr vl nm z g5 g W) (v0 v1 : Value) : TkA w b fs xs vr vl nm z g5 ((W.setCell ⟨g, 0, none⟩ v0).setCell ⟨g, 1, none⟩ v1) := by
  have hbne : b ≠ g := fun e => by
    have h1 := h.all.fl.box
    rw [e, h.new] at h1; cases h1
  have hgne : g5 ≠ g := Nat.ne_of_lt h.far
  have hf := h.free h.all.fl.refs
  have hN := h.new
  have hN2 := set_any (i := 0) hN v0
  have hl := h.all.fl
  refine ⟨⟨(hl.low.setCell (p := ⟨g, 0, none⟩) h.low _).setCell (p := ⟨g, 1, none⟩) h.low _, hl.base, keepS (keepS hl.box hbne _) hbne _, owned_setNe (owned_setNe hl.refs hf) hf, owned_setOther (owned_setOther hl.recs hN (by decide) _) hN2 (by decide) _, fun x hx => owned_setOther (owned_setOther (hl.runs x hx) hN (by decide) _) hN2 (by decide) _, hl.apart, hl.few, hl.many, hl.fine, hl.good⟩, keepS (keepS h.all.got hgne _) hgne _⟩

set_option maxRecDepth 20000 in
set_option maxHeartbeats 8000000 in
theorem takeReference_calls (w : World) (b : Nat) (fs : List Rv) (xs : List Rl) (vr vl : Value) (s : ByteArray) (W : World) (h : FlAt w b fs xs vr vl W) (hs : s.size ≤ 1048576) (hstd : Std W) :
    Calls Tryz.prog 74 #[.pointer (some ⟨b, 0, none⟩), .string s] W fun e W' => TakePost w b (takeRefB (fs.map Rv.P, xs.map Rl.R) s.data.toList) e W' := by
  obtain ⟨ro, rc, hvr⟩ := owned_shape h.refs
  obtain ⟨lo, lc, hvl⟩ := owned_shape h.recs
  have hfew := h.few
  have hmany := h.many
  subst hvr hvl
  have HRd : Hid (Calls Tryz.prog 95 #[.string s] W fun e w' => RefPost s.data.toList W e w') := readReference_calls s W hs hstd
  have HTk : Hid (takeRefB (fs.map Rv.P, xs.map Rl.R) s.data.toList = if (xs.map Rl.R) ≠ [] ∨ (fs.map Rv.P).length = 64 then none else match refLineB s.data.toList with | none => none | some x => if (findB (fs.map Rv.P) x.1).isSome then none else some (fs.map Rv.P ++ [x], xs.map Rl.R)) := rfl
  obtain ⟨n, hn⟩ : ∃ n, fs.length = n := ⟨_, rfl⟩
  obtain ⟨m, hm⟩ : ∃ m, xs.length = m := ⟨_, rfl⟩
  rw [hn] at hfew
  rw [hm] at hmany
  have HF : Hid (FlAt w b fs xs (.slice ro n rc) (.slice lo m lc) W) := by show FlAt _ _ _ _ _ _ _; rw [← hn, ← hm]; exact h
  have HN : Hid (fs.length = n) := hn
  have HM : Hid (xs.length = m) := hm
  have c0 := cellB HF.out.box (i := 0) rfl
  have c1 := cellB HF.out.box (i := 1) rfl
  clear h hn hm hstd
  generalize takeRefB (fs.map Rv.P, xs.map Rl.R) s.data.toList = O at *
  by_cases hx : 0 < m
  · have hd : decide ((m : Int) > 0) = true := by simp; omega
    have hm0 : ¬ m = 0 := by omega
    have HO : Hid (O = none) := by
      show O = none
      rw [HTk.out, if_pos (.inl (fun e => by have := congrArg List.length e; rw [List.length_map, HM.out] at this; simp at this; omega))]
    go_enter Tryz.func74, Tryz.ntmps74
    go_wp2
    go_ret
    exact take_none HO.out HF.out.low
  have hd : decide ((m : Int) > 0) = false := by simp; omega
  have hm0 : m = 0 := by omega
  by_cases h64 : n = 64
  · have hd2 : ((n : Int) == 64) = true := by rw [beq_iff_eq]; omega
    have HO : Hid (O = none) := by
      show O = none
      rw [HTk.out, if_pos (.inr (by rw [List.length_map, HN.out]; exact h64))]
    clear hm0
    go_enter Tryz.func74, Tryz.ntmps74
    go_wp2
    go_ret
    exact take_none HO.out HF.out.low
  have hd2 : ((n : Int) == 64) = false := by rw [beq_eq_false_iff_ne]; omega
  have HO : Hid (O = match refLineB s.data.toList with | none => none | some x => if (findB (fs.map Rv.P) x.1).isSome then none else some (fs.map Rv.P ++ [x], xs.map Rl.R)) := by
    show O = _
    rw [HTk.out, if_neg]
    intro hor
    rcases hor with hor | hor
    · exact hor (List.length_eq_zero_iff.1 (by rw [List.length_map, HM.out]; exact hm0))
    · rw [List.length_map, HN.out] at hor; exact h64 hor
  have hn64 : n < 64 := by omega
  clear HTk h64 hx hd
  subst hm0
  go_enter Tryz.func74, Tryz.ntmps74
  go_wp2_with fail
  refine HRd.out.mono ?_
  rintro e w1 ⟨nm, z, ok, rfl, hok, hfx, hb1⟩
  have HOk : Hid (ok = (refLineB s.data.toList).isSome ∧ (∀ x, refLineB s.data.toList = some x → Rv.P (nm, z) = x)) := ⟨hok, hfx⟩
  have HF1 : Hid (FlAt w b fs xs (.slice ro n rc) (.slice lo 0 lc) w1) := HF.out.next hb1
  clear hb1 hok hfx HF c0 c1 HRd
  have HA0 : Hid (TkA w b fs xs (.slice ro n rc) (.slice lo 0 lc) nm z w1.heap.size (w1.alloc (.cells #[.string nm, .int .i64 z] 83)).drew) :=
    TkA.next (W := w1.alloc (.cells #[.string nm, .int .i64 z] 83)) ⟨HF1.out.next (below_new _ _), heap_alloc_new w1 _⟩ (Below.refl _ _).drew
  have HFd : Hid (∀ W, Hid (TkA w b fs xs (.slice ro n rc) (.slice lo 0 lc) nm z w1.heap.size W) → Calls Tryz.prog 65 #[.slice ro n rc, .string nm] W fun e w' => ∃ (n' : ByteArray) (z' : Int), e = .returned (.tuple #[.agg #[.string n', .int .i64 z'], .bool (findB (fs.map Rv.P) nm.data.toList).isSome]) ∧ Hid (TkA w b fs xs (.slice ro n rc) (.slice lo 0 lc) nm z w1.heap.size w') ∧ (w'.cell? ⟨b, 0, none⟩ = some (.slice ro n rc) ∧ w'.cell? ⟨w1.heap.size, 0, none⟩ = some (.string nm))) := by
    intro W hW
    have hr := hW.out.fl.refs
    rw [HN.out] at hr
    refine (find_calls ro n rc fs nm W (owned_refs hr hfew hW.out.fl.fine)).mono ?_
    rintro e w' ⟨n', z', rfl, _, hb⟩
    have h2 := hW.out.next hb
    exact ⟨n', z', rfl, h2, cellB h2.fl.box rfl, cellB h2.got rfl⟩
  have HFe : Hid (∀ W g, Hid (TkR w b fs xs (.slice ro n rc) (.slice lo 0 lc) nm z w1.heap.size g W) → Calls Tryz.prog 65 #[.slice ro n rc, .string nm] W fun e w' => ∃ (n' : ByteArray) (z' : Int), e = .returned (.tuple #[.agg #[.string n', .int .i64 z'], .bool (findB (fs.map Rv.P) nm.data.toList).isSome]) ∧ Hid (TkR w b fs xs (.slice ro n rc) (.slice lo 0 lc) nm z w1.heap.size g w') ∧ (w'.cell? ⟨b, 0, none⟩ = some (.slice ro n rc) ∧ w'.cell? ⟨w1.heap.size, 0, none⟩ = some (.string nm)) ∧ (w'.cell? ⟨g, 0, none⟩ = some (.string ⟨#[]⟩) ∧ w'.cell? ⟨g, 1, none⟩ = some (.int .i64 0)) ∧ (∀ i, w'.frozen? ⟨g, i, none⟩ = false)) := by
    intro W g hW
    have hr := hW.out.all.fl.refs
    rw [HN.out] at hr
    refine (find_calls ro n rc fs nm W (owned_refs hr hfew hW.out.all.fl.fine)).mono ?_
    rintro e w' ⟨n', z', rfl, _, hb⟩
    have h2 := hW.out.next hb
    exact ⟨n', z', rfl, h2, ⟨cellB h2.all.fl.box rfl, cellB h2.all.got rfl⟩, ⟨cellB h2.new rfl, cellB h2.new rfl⟩, freeB h2.new⟩
  have HM : Hid (∀ W, Hid (TkA w b fs xs (.slice ro n rc) (.slice lo 0 lc) nm z w1.heap.size W) → Hid (TkR w b fs xs (.slice ro n rc) (.slice lo 0 lc) nm z w1.heap.size W.heap.size (W.alloc (.cells #[.string ⟨#[]⟩, .int .i64 0] 83)))) := fun W h => TkR.make h.out
  go_upto_region 4 with fail
  generalize hwx : w1.alloc (.cells #[.string nm, .int .i64 z] 83) = wx at *
  clear hwx
  generalize w1.heap.size = g5 at *
  have HM0 : Hid (Hid (TkR w b fs xs (.slice ro n rc) (.slice lo 0 lc) nm z g5 wx.heap.size (wx.alloc (.cells #[.string ⟨#[]⟩, .int .i64 0] 83)).drew)) := HM.out wx.drew HA0
  have HS0 : Hid (wx.drew.cell? ⟨b, 0, none⟩ = some (.slice ro n rc) ∧ wx.drew.cell? ⟨g5, 0, none⟩ = some (.string nm)) := ⟨cellB HA0.out.fl.box rfl, cellB HA0.out.got rfl⟩
  have HKA0 : Hid (∀ o, (wx.alloc o).drew.cell? ⟨b, 0, none⟩ = some (.slice ro n rc) ∧ (wx.alloc o).drew.cell? ⟨g5, 0, none⟩ = some (.string nm)) := by
    intro o
    have h2 := HA0.out.next (below_new wx.drew o)
    exact ⟨cellB h2.fl.box rfl, cellB h2.got rfl⟩
  have HKA : Hid (∀ W o, Hid (TkA w b fs xs (.slice ro n rc) (.slice lo 0 lc) nm z g5 W) → (W.alloc o).cell? ⟨b, 0, none⟩ = some (.slice ro n rc) ∧ (W.alloc o).cell? ⟨g5, 0, none⟩ = some (.string nm)) := by
    intro W o hW
    have h2 := hW.out.next (below_new W o)
    exact ⟨cellB h2.fl.box rfl, cellB h2.got rfl⟩
  have HK2 : Hid (∀ (W : World) (g : Nat) (v0 v1 : Value), Hid (TkR w b fs xs (.slice ro n rc) (.slice lo 0 lc) nm z g5 g W) → ((W.setCell ⟨g, 0, none⟩ v0).setCell ⟨g, 1, none⟩ v1).cell? ⟨b, 0, none⟩ = some (.slice ro n rc) ∧ ((W.setCell ⟨g, 0, none⟩ v0).setCell ⟨g, 1, none⟩ v1).cell? ⟨g5, 0, none⟩ = some (.string nm)) := by
    intro W g v0 v1 hW
    have h2 := hW.out.set2 v0 v1
    exact ⟨cellB h2.fl.box rfl, cellB h2.got rfl⟩
  go_cut [8] (fun v wc => v = .bool (findB (fs.map Rv.P) nm.data.toList).isSome ∧ TkA w b fs xs (.slice ro n rc) (.slice lo 0 lc) nm z g5 wc)
  case first =>
    go_region_held3 (fun W => W.cell? ⟨b, 0, none⟩ = some (.slice ro n rc) ∧ W.cell? ⟨g5, 0, none⟩ = some (.string nm))
      (first | with_reducible assumption | with_reducible exact HS0.out | with_reducible exact HKA0.out _ | with_reducible exact HKA.out _ _ (by with_reducible assumption) | with_reducible exact HK2.out _ _ _ _ (by with_reducible assumption))
      (first
        | (go_at_call 65; refine (HFd.out _ (by with_reducible assumption)).mono ?_; rintro e w2 ⟨n', z', rfl, hK1, hS1⟩)
        | (go_at_call 65; refine (HFe.out _ _ (Hid.out (by first | with_reducible assumption | with_reducible exact HM0 | with_reducible exact ⟨HM.out _ (by with_reducible assumption)⟩))).mono ?_; rintro e w2 ⟨n', z', rfl, hK1, hS1, ⟨g0, g1⟩, gf⟩))
    all_goals (go_wp2; go_meet; refine ⟨rfl, ?_⟩)
    all_goals first | exact (Hid.out (by with_reducible assumption) : TkA w b fs xs (.slice ro n rc) (.slice lo 0 lc) nm z g5 _).next (below_new _ _) | exact TkR.set2 (Hid.out (by with_reducible assumption)) _ _
  case rest =>
    obtain ⟨rfl, hA⟩ := hcut
    have HA : Hid (TkA w b fs xs (.slice ro n rc) (.slice lo 0 lc) nm z g5 wc) := hA
    clear hA HA0 HFd HFe HM HM0 HS0 HKA0 HKA HK2 HF1
    cases hfd : (findB (fs.map Rv.P) nm.data.toList).isSome with
    | true =>
      have HN1 : Hid (O = none) := by
        show O = none
        rw [HO.out]
        cases hr : refLineB s.data.toList with
        | none => rfl
        | some x =>
          have hx := HOk.out.2 x hr
          subst hx
          simp only [Rv.P, hfd, if_true]
      clear hfd
      go_wp2
      go_ret
      exact take_none HN1.out HA.out.fl.low
    | false =>
    cases ok with
    | false =>
      have HN1 : Hid (O = none) := by
        show O = none
        rw [HO.out]
        have hx := HOk.out.1
        cases hr : refLineB s.data.toList with
        | none => rfl
        | some x => rw [hr] at hx; cases hx
      clear hfd
      go_wp2
      go_ret
      exact take_none HN1.out HA.out.fl.low
    | true =>
      obtain ⟨x, hr⟩ : ∃ x, refLineB s.data.toList = some x := Option.isSome_iff_exists.1 HOk.out.1.symm
      have hx := HOk.out.2 x hr
      have hrv : rvOk (nm, z) := by
        obtain ⟨h1, h2⟩ := (refLineB_spec hr).1
        rw [← hx] at h1 h2
        have h3 := name_short h1
        have h4 : nm.size ≤ 64 := by rw [← size_toList]; exact h3
        exact ⟨by show nm.size ≤ _; omega, by have := h2.1; show 0 ≤ z; have h5 : 1 ≤ z := this; omega, h2.2⟩
      have HY : Hid (O = some (fs.map Rv.P ++ [Rv.P (nm, z)], xs.map Rl.R)) := by
        show O = _
        rw [HO.out, hr]
        subst hx
        simp only [Rv.P] at hfd ⊢
        simp only [hfd]
        rfl
      clear hr hx hfd HO HOk
      have HJd : Hid (TkA w b fs xs (.slice ro n rc) (.slice lo 0 lc) nm z g5 wc.drew) := HA.out.next (Below.refl _ _).drew
      have c0 := cellB HJd.out.fl.box (i := 0) rfl
      have d0 := cellB HJd.out.got (i := 0) rfl
      have d1 := cellB HJd.out.got (i := 1) rfl
      have c0o : ∀ o, (wc.alloc o).drew.cell? ⟨b, 0, none⟩ = some (.slice ro n rc) := fun o => cellB (HJd.out.next (below_new wc.drew o)).fl.box rfl
      have d0o : ∀ o, (wc.alloc o).drew.cell? ⟨g5, 0, none⟩ = some (.string nm) := fun o => cellB (HJd.out.next (below_new wc.drew o)).got rfl
      have d1o : ∀ o, (wc.alloc o).drew.cell? ⟨g5, 1, none⟩ = some (.int .i64 z) := fun o => cellB (HJd.out.next (below_new wc.drew o)).got rfl
      obtain ⟨i0, hi, hz0, hz1, hz2⟩ := info_parts info83
      have HJO : Hid (∀ W o, Hid (TkA w b fs xs (.slice ro n rc) (.slice lo 0 lc) nm z g5 W) → (W.alloc o).ownsRow w.heap.size 83 2 (.slice ro n rc) n (refCells fs)) := by
        intro W o hW
        have := (hW.out.fl.next (below_new W o)).refs
        rw [HN.out] at this
        exact this
      have HJS : Hid (∀ W o, Hid (TkA w b fs xs (.slice ro n rc) (.slice lo 0 lc) nm z g5 W) → w.heap.size ≤ (W.alloc o).heap.size) := fun W o hW => (hW.out.fl.next (below_new W o)).low.size
      have HJE : Hid (∀ W o v' w4, Hid (TkA w b fs xs (.slice ro n rc) (.slice lo 0 lc) nm z g5 W) → w4.ownsRow w.heap.size 83 2 v' (n + 1) (refCells fs ++ rfCells (nm, z)) → (W.alloc o).grownBy w4 (Value.slice ro n rc).ownBlock →
          w4.cell? ⟨b, 0, none⟩ = some (.slice ro n rc) ∧ w4.frozen? ⟨b, 0, none⟩ = false ∧ Hid (TakePost w b O (.returned (.bool true)) (w4.setCell ⟨b, 0, none⟩ v'))) := by
        intro W o v' w4 hW ho hg
        have ho2 : w4.ownsRow w.heap.size 83 2 v' (fs.length + 1) (refCells fs ++ rfCells (nm, z)) := by rw [HN.out]; exact ho
        obtain ⟨k1, k2, k3⟩ := hW.out.fl.addRef ho2 hg hrv (by rw [HN.out]; exact hn64)
        refine ⟨k1, k2, ?_⟩
        show TakePost _ _ _ _ _
        rw [HY.out]
        refine ⟨rfl, k3.low, fun f hf => ⟨_, _, _, _, k3, ?_⟩⟩
        rw [← Option.some.inj hf, List.map_append]; rfl
      clear HY
      go_wp2_with fail
      go_region_law (first
        | (refine step_append_own rfl (.tmp 47) (.tmp 49) 69 rfl w.heap.size 83 i0 _ 2 24 Tryz.underlying69 hi hz0 hz1 hz2 rfl (by decide) _ _ _ (by simp [Act.eval]) (HJO.out _ _ (by assumption)) ⟨_, 0, none⟩ 1 1 (rfCells (nm, z)) (by simp [Act.eval]) rfl (cell_rf_new _ (nm, z)) (rf_oneCell (nm, z)) (by unfold maxLen; omega) (by omega) (HJS.out _ _ (by assumption)) ?_
           intro v' w4 ho hg
           obtain ⟨k1, k2, k3⟩ := HJE.out wc.drew _ _ _ HJd ho hg
           obtain ⟨ao2, cap2, rfl⟩ := owned_shape ho
           clear ho hg))
      all_goals (go_wp2; go_ret)
      all_goals assumption
/-- Where takeRecord stands: the file, the record that was read. -/
structure TcA (w : World) (b : Nat) (fs : List Rv) (xs : List Rl) (vr vl : Value) (v : RV) (l : List Rn) (g5 B : Nat) (W : World) : Prop where
  fl : FlAt w b fs xs vr vl W
  got : W.heap[g5]? = some (.cells #[.string v.name, .bool v.mapped, .string v.ref, .int .i64 v.pos, .slice v.ao v.len v.cap, .string v.bases, .string v.quals, .int .i64 v.score] 24 (0, 0))
  own : W.ownsRow B 37 2 v.runsV l.length (rowCells l)
theorem TcA.next {w : World} {b : Nat} {fs : List Rv} {xs : List Rl} {vr vl : Value} {v : RV} {l : List Rn} {g5 B : Nat} {W W' : World} (h : TcA w b fs xs vr vl v l g5 B W) (hb : Below W.heap.size W W') : TcA w b fs xs vr vl v l g5 B W' := ⟨h.fl.next hb, keepB h.got hb, owned_below h.own hb⟩
theorem cell_rv_new (W : World) (v : RV) : ∀ (i : Nat) (u : Value), (rvRow v)[i]? = some u → (W.alloc (.cells #[.string v.name, .bool v.mapped, .string v.ref, .int .i64 v.pos, .slice v.ao v.len v.cap, .string v.bases, .string v.quals, .int .i64 v.score] 24)).cell? ((⟨W.heap.size, 0, none⟩ : Addr).add i) = some u := by
  intro i u hu
  have hadd : (⟨W.heap.size, 0, none⟩ : Addr).add i = ⟨W.heap.size, i, none⟩ := by unfold Addr.add; split <;> simp_all
  rw [hadd, cell_of_row _ W.heap.size i _ 24 (0, 0) (heap_alloc_new W _)]
  have h2 : (#[.string v.name, .bool v.mapped, .string v.ref, .int .i64 v.pos, .slice v.ao v.len v.cap, .string v.bases, .string v.quals, .int .i64 v.score] : Array Value).toList = rvRow v := rfl
  rw [← Array.getElem?_toList, h2]; exact hu

set_option maxRecDepth 20000 in
set_option maxHeartbeats 8000000 in
theorem takeRecord_calls (w : World) (b : Nat) (fs : List Rv) (xs : List Rl) (vr vl : Value) (s : ByteArray) (W : World) (h : FlAt w b fs xs vr vl W) (hs : s.size ≤ 1048576) (hstd : Std W) :
    Calls Tryz.prog 75 #[.pointer (some ⟨b, 0, none⟩), .string s] W fun e W' => TakePost w b (takeRecB (fs.map Rv.P, xs.map Rl.R) s.data.toList) e W' := by
  obtain ⟨ro, rc, hvr⟩ := owned_shape h.refs
  obtain ⟨lo, lc, hvl⟩ := owned_shape h.recs
  have hfew := h.few
  have hmany := h.many
  subst hvr hvl
  have HRd : Hid (Calls Tryz.prog 15 #[.string s] W fun e w' => RecPost (recA s.data.toList) W e w') := record_calls s W hs hstd
  have HTk : Hid (takeRecB (fs.map Rv.P, xs.map Rl.R) s.data.toList = if (xs.map Rl.R).length = 256 then none else match recB s.data.toList with | none => none | some r => if fitsB (fs.map Rv.P) r then some (fs.map Rv.P, xs.map Rl.R ++ [r]) else none) := rfl
  obtain ⟨n, hn⟩ : ∃ n, fs.length = n := ⟨_, rfl⟩
  obtain ⟨k, hm⟩ : ∃ k, xs.length = k := ⟨_, rfl⟩
  rw [hn] at hfew
  rw [hm] at hmany
  have HF : Hid (FlAt w b fs xs (.slice ro n rc) (.slice lo k lc) W) := by show FlAt _ _ _ _ _ _ _; rw [← hn, ← hm]; exact h
  have HN : Hid (fs.length = n) := hn
  have HM : Hid (xs.length = k) := hm
  have c0 := cellB HF.out.box (i := 0) rfl
  have c1 := cellB HF.out.box (i := 1) rfl
  clear h hn hm hstd
  generalize takeRecB (fs.map Rv.P, xs.map Rl.R) s.data.toList = O at *
  by_cases h256 : k = 256
  · have hd2 : ((k : Int) == 256) = true := by rw [beq_iff_eq]; omega
    have HO : Hid (O = none) := by
      show O = none
      rw [HTk.out, if_pos (by rw [List.length_map, HM.out]; exact h256)]
    go_enter Tryz.func75, Tryz.ntmps75
    go_wp2
    go_ret
    exact take_none HO.out HF.out.low
  have hd2 : ((k : Int) == 256) = false := by rw [beq_eq_false_iff_ne]; omega
  have hk256 : k < 256 := by omega
  have HO : Hid (O = match recB s.data.toList with | none => none | some r => if fitsB (fs.map Rv.P) r then some (fs.map Rv.P, xs.map Rl.R ++ [r]) else none) := by
    show O = _
    rw [HTk.out, if_neg (by rw [List.length_map, HM.out]; exact h256)]
  clear HTk h256
  go_enter Tryz.func75, Tryz.ntmps75
  go_wp2_with fail
  refine HRd.out.mono ?_
  rintro e w1 ⟨v, rfl, hvR, hown, hb1⟩
  have HF1 : Hid (FlAt w b fs xs (.slice ro n rc) (.slice lo k lc) w1) := HF.out.next hb1
  have HOld : Hid (∀ y ∈ xs, ∀ g, y.1.runsV.ownBlock = some g → g < W.heap.size) := fun y hy g hg => ((HF.out.runs y hy).lt g hg).2
  have hBW : w.heap.size ≤ W.heap.size := HF.out.low.size
  generalize W.heap.size = B at *
  obtain ⟨nm, m, rf, p, ao, len, cap, bb, q, sc⟩ := v
  cases hrec : recB s.data.toList with
  | none =>
    have HN1 : Hid (O = none) := by show O = none; rw [HO.out, hrec]
    rw [recA_none hrec]
    have HB2 : Hid (∀ o nq, Below w.heap.size w ((w1.alloc o).drewN nq)) := fun o nq => below_drewN (HF1.out.next (below_new w1 o)).low nq
    clear hrec hown hvR hb1 HF HRd c0 c1 HO
    simp only [RV.val]
    go_wp2_with fail
    go_quiet (fail)
    have HB3 := HB2.out (.cells #[.string nm, .bool m, .string rf, .int .i64 p, .slice ao len cap, .string bb, .string q, .int .i64 sc] 24) nq
    generalize (w1.alloc (.cells #[.string nm, .bool m, .string rf, .int .i64 p, .slice ao len cap, .string bb, .string q, .int .i64 sc] 24)).drewN nq = wz at *
    go_wp2
    go_ret
    exact take_none HN1.out HB3
  | some r =>
    obtain ⟨hright, hfit, hline⟩ := recB_spec hrec
    have hA : recA s.data.toList = (r, 0) := recA_some hrec
    rw [hA] at hvR hown
    rw [hA]
    simp only at hvR hown
    have HSm : Hid (SmR r) := right_sm hright hfit
    have HVR : Hid (RV.R ⟨nm, m, rf, p, ao, len, cap, bb, q, sc⟩ r.runs = r) := hvR
    have HO2 : Hid (O = if fitsB (fs.map Rv.P) r then some (fs.map Rv.P, xs.map Rl.R ++ [r]) else none) := by show O = _; rw [HO.out, hrec]
    have HRi : Hid (rightR r = true) := hright
    have HA0 : Hid (TcA w b fs xs (.slice ro n rc) (.slice lo k lc) ⟨nm, m, rf, p, ao, len, cap, bb, q, sc⟩ r.runs w1.heap.size B (w1.alloc (.cells #[.string nm, .bool m, .string rf, .int .i64 p, .slice ao len cap, .string bb, .string q, .int .i64 sc] 24)).drew) :=
      TcA.next (W := w1.alloc (.cells #[.string nm, .bool m, .string rf, .int .i64 p, .slice ao len cap, .string bb, .string q, .int .i64 sc] 24)) ⟨HF1.out.next (below_new _ _), heap_alloc_new w1 _, owned_below hown (below_new _ _)⟩ (Below.refl _ _).drew
    clear hrec hA hvR hown hright hfit hline hb1 HF HRd c0 c1 HO HF1
    simp only [RV.val]
    go_wp2_with fail
    generalize hwx : w1.alloc (.cells #[.string nm, .bool m, .string rf, .int .i64 p, .slice ao len cap, .string bb, .string q, .int .i64 sc] 24) = wx at *
    clear hwx
    generalize w1.heap.size = g5 at *
    have HC : Hid (∀ W, TcA w b fs xs (.slice ro n rc) (.slice lo k lc) ⟨nm, m, rf, p, ao, len, cap, bb, q, sc⟩ r.runs g5 B W → W.cell? ⟨b, 0, none⟩ = some (.slice ro n rc) ∧ W.cell? ⟨g5, 0, none⟩ = some (.string nm) ∧ W.cell? ⟨g5, 1, none⟩ = some (.bool m) ∧ W.cell? ⟨g5, 2, none⟩ = some (.string rf) ∧ W.cell? ⟨g5, 3, none⟩ = some (.int .i64 p) ∧ W.cell? ⟨g5, 4, none⟩ = some (.slice ao len cap) ∧ W.cell? ⟨g5, 5, none⟩ = some (.string bb) ∧ W.cell? ⟨g5, 6, none⟩ = some (.string q) ∧ W.cell? ⟨g5, 7, none⟩ = some (.int .i64 sc)) := fun W hW => ⟨cellB hW.fl.box rfl, cellB hW.got rfl, cellB hW.got rfl, cellB hW.got rfl, cellB hW.got rfl, cellB hW.got rfl, cellB hW.got rfl, cellB hW.got rfl, cellB hW.got rfl⟩
    have HFt : Hid (∀ W, Hid (TcA w b fs xs (.slice ro n rc) (.slice lo k lc) ⟨nm, m, rf, p, ao, len, cap, bb, q, sc⟩ r.runs g5 B W) → Calls Tryz.prog 38 #[.slice ro n rc, .agg #[.string nm, .bool m, .string rf, .int .i64 p, .slice ao len cap, .string bb, .string q, .int .i64 sc]] W fun e w' => e = .returned (.bool (fitsB (fs.map Rv.P) r)) ∧ Hid (TcA w b fs xs (.slice ro n rc) (.slice lo k lc) ⟨nm, m, rf, p, ao, len, cap, bb, q, sc⟩ r.runs g5 B w') ∧ (w'.cell? ⟨b, 0, none⟩ = some (.slice ro n rc) ∧ w'.cell? ⟨g5, 0, none⟩ = some (.string nm) ∧ w'.cell? ⟨g5, 1, none⟩ = some (.bool m) ∧ w'.cell? ⟨g5, 2, none⟩ = some (.string rf) ∧ w'.cell? ⟨g5, 3, none⟩ = some (.int .i64 p) ∧ w'.cell? ⟨g5, 4, none⟩ = some (.slice ao len cap) ∧ w'.cell? ⟨g5, 5, none⟩ = some (.string bb) ∧ w'.cell? ⟨g5, 6, none⟩ = some (.string q) ∧ w'.cell? ⟨g5, 7, none⟩ = some (.int .i64 sc))) := by
      intro W hW
      have hr := hW.out.fl.refs
      rw [HN.out] at hr
      have hc := fits_calls ro n rc fs ⟨nm, m, rf, p, ao, len, cap, bb, q, sc⟩ r.runs W (owned_refs hr hfew hW.out.fl.fine) (sm_ok HSm.out HVR.out hW.out.own).1 (by rw [HVR.out]; exact HRi.out)
      rw [HVR.out] at hc
      refine hc.mono ?_
      rintro e w' ⟨rfl, hb⟩
      have h2 := hW.out.next hb
      exact ⟨rfl, h2, HC.out _ h2⟩
    have HS0 : Hid (wx.drew.cell? ⟨b, 0, none⟩ = some (.slice ro n rc) ∧ wx.drew.cell? ⟨g5, 0, none⟩ = some (.string nm) ∧ wx.drew.cell? ⟨g5, 1, none⟩ = some (.bool m) ∧ wx.drew.cell? ⟨g5, 2, none⟩ = some (.string rf) ∧ wx.drew.cell? ⟨g5, 3, none⟩ = some (.int .i64 p) ∧ wx.drew.cell? ⟨g5, 4, none⟩ = some (.slice ao len cap) ∧ wx.drew.cell? ⟨g5, 5, none⟩ = some (.string bb) ∧ wx.drew.cell? ⟨g5, 6, none⟩ = some (.string q) ∧ wx.drew.cell? ⟨g5, 7, none⟩ = some (.int .i64 sc)) := HC.out _ HA0.out
    generalize hfits : fitsB (fs.map Rv.P) r = ft at *
    clear hfits
    cases ft with
    | false =>
      have HN1 : Hid (O = none) := by show O = none; rw [HO2.out]; rfl
      clear HO2
      go_region_held3 (fun W => W.cell? ⟨b, 0, none⟩ = some (.slice ro n rc) ∧ W.cell? ⟨g5, 0, none⟩ = some (.string nm) ∧ W.cell? ⟨g5, 1, none⟩ = some (.bool m) ∧ W.cell? ⟨g5, 2, none⟩ = some (.string rf) ∧ W.cell? ⟨g5, 3, none⟩ = some (.int .i64 p) ∧ W.cell? ⟨g5, 4, none⟩ = some (.slice ao len cap) ∧ W.cell? ⟨g5, 5, none⟩ = some (.string bb) ∧ W.cell? ⟨g5, 6, none⟩ = some (.string q) ∧ W.cell? ⟨g5, 7, none⟩ = some (.int .i64 sc)) (first | with_reducible assumption | with_reducible exact HS0.out) (first | (go_at_call 38; refine (HFt.out _ (by with_reducible assumption)).mono ?_; rintro e w2 ⟨rfl, HA2, hS2⟩))
      clear hS2 HS0 HA0 HFt HC
      go_wp2
      go_ret
      exact take_none HN1.out HA2.out.fl.low
    | true =>
      have HY : Hid (O = some (fs.map Rv.P, xs.map Rl.R ++ [r])) := by show O = _; rw [HO2.out]; rfl
      clear HO2
      go_region_held3 (fun W => W.cell? ⟨b, 0, none⟩ = some (.slice ro n rc) ∧ W.cell? ⟨g5, 0, none⟩ = some (.string nm) ∧ W.cell? ⟨g5, 1, none⟩ = some (.bool m) ∧ W.cell? ⟨g5, 2, none⟩ = some (.string rf) ∧ W.cell? ⟨g5, 3, none⟩ = some (.int .i64 p) ∧ W.cell? ⟨g5, 4, none⟩ = some (.slice ao len cap) ∧ W.cell? ⟨g5, 5, none⟩ = some (.string bb) ∧ W.cell? ⟨g5, 6, none⟩ = some (.string q) ∧ W.cell? ⟨g5, 7, none⟩ = some (.int .i64 sc)) (first | with_reducible assumption | with_reducible exact HS0.out) (first | (go_at_call 38; refine (HFt.out _ (by with_reducible assumption)).mono ?_; rintro e w2 ⟨rfl, HA2, hS2⟩))
      clear hS2 HS0 HA0 HFt
      have HJd : Hid (TcA w b fs xs (.slice ro n rc) (.slice lo k lc) ⟨nm, m, rf, p, ao, len, cap, bb, q, sc⟩ r.runs g5 B w2.drew) := HA2.out.next (Below.refl _ _).drew
      have HJc : Hid (∀ o, TcA w b fs xs (.slice ro n rc) (.slice lo k lc) ⟨nm, m, rf, p, ao, len, cap, bb, q, sc⟩ r.runs g5 B (w2.alloc o).drew) := fun o => HJd.out.next (below_new w2.drew o)
      have c1 := cellB HJd.out.fl.box (i := 1) rfl
      have c1o : ∀ o, (w2.alloc o).drew.cell? ⟨b, 1, none⟩ = some (.slice lo k lc) := fun o => cellB (HJc.out o).fl.box rfl
      obtain ⟨_, d0, d1, d2, d3, d4, d5, d6, d7⟩ := HC.out _ HJd.out
      have dall : ∀ o, (w2.alloc o).drew.cell? ⟨b, 0, none⟩ = some (.slice ro n rc) ∧ (w2.alloc o).drew.cell? ⟨g5, 0, none⟩ = some (.string nm) ∧ (w2.alloc o).drew.cell? ⟨g5, 1, none⟩ = some (.bool m) ∧ (w2.alloc o).drew.cell? ⟨g5, 2, none⟩ = some (.string rf) ∧ (w2.alloc o).drew.cell? ⟨g5, 3, none⟩ = some (.int .i64 p) ∧ (w2.alloc o).drew.cell? ⟨g5, 4, none⟩ = some (.slice ao len cap) ∧ (w2.alloc o).drew.cell? ⟨g5, 5, none⟩ = some (.string bb) ∧ (w2.alloc o).drew.cell? ⟨g5, 6, none⟩ = some (.string q) ∧ (w2.alloc o).drew.cell? ⟨g5, 7, none⟩ = some (.int .i64 sc) := fun o => HC.out _ (HJc.out o)
      obtain ⟨i0, hi, hz0, hz1, hz2⟩ := info_parts info24
      have HJO : Hid (∀ W o, Hid (TcA w b fs xs (.slice ro n rc) (.slice lo k lc) ⟨nm, m, rf, p, ao, len, cap, bb, q, sc⟩ r.runs g5 B W) → (W.alloc o).ownsRow w.heap.size 24 8 (.slice lo k lc) k ((xs.map (·.1)).flatMap rvRow)) := by
        intro W o hW
        have := (hW.out.fl.next (below_new W o)).recs
        rw [HM.out] at this
        exact this
      have HJS : Hid (∀ W o, Hid (TcA w b fs xs (.slice ro n rc) (.slice lo k lc) ⟨nm, m, rf, p, ao, len, cap, bb, q, sc⟩ r.runs g5 B W) → w.heap.size ≤ (W.alloc o).heap.size) := fun W o hW => (hW.out.fl.next (below_new W o)).low.size
      have HJE : Hid (∀ W o v' w4, Hid (TcA w b fs xs (.slice ro n rc) (.slice lo k lc) ⟨nm, m, rf, p, ao, len, cap, bb, q, sc⟩ r.runs g5 B W) → w4.ownsRow w.heap.size 24 8 v' (k + 1) ((xs.map (·.1)).flatMap rvRow ++ rvRow ⟨nm, m, rf, p, ao, len, cap, bb, q, sc⟩) → (W.alloc o).grownBy w4 (Value.slice lo k lc).ownBlock →
          w4.cell? ⟨b, 1, none⟩ = some (.slice lo k lc) ∧ w4.frozen? ⟨b, 1, none⟩ = false ∧ Hid (TakePost w b O (.returned (.bool true)) (w4.setCell ⟨b, 1, none⟩ v'))) := by
        intro W o v' w4 hW ho hg
        have ho2 : w4.ownsRow w.heap.size 24 8 v' (xs.length + 1) ((xs.map (·.1)).flatMap rvRow ++ rvRow ⟨nm, m, rf, p, ao, len, cap, bb, q, sc⟩) := by rw [HM.out]; exact ho
        obtain ⟨k1, k2, k3⟩ := hW.out.fl.addRec (x := (⟨nm, m, rf, p, ao, len, cap, bb, q, sc⟩, r.runs)) ho2 hg (owned_low hW.out.own hBW) (fun y hy g hgy e => by
          have h1 := HOld.out y hy g hgy
          have h2 := (hW.out.own.lt g e).1
          omega) (by show SmR (RV.R ⟨nm, m, rf, p, ao, len, cap, bb, q, sc⟩ r.runs); rw [HVR.out]; exact HSm.out) (by rw [HM.out]; exact hk256)
        refine ⟨k1, k2, ?_⟩
        show TakePost _ _ _ _ _
        rw [HY.out]
        refine ⟨rfl, k3.low, fun f hf => ⟨_, _, _, _, k3, ?_⟩⟩
        rw [← Option.some.inj hf, List.map_append]
        show (_, _ ++ [RV.R ⟨nm, m, rf, p, ao, len, cap, bb, q, sc⟩ r.runs]) = _
        rw [HVR.out]
      clear HY HC
      go_wp2_with fail
      go_region_law (first
        | (refine step_append_own rfl (.tmp 33) (.tmp 35) 26 rfl w.heap.size 24 i0 _ 8 112 Tryz.underlying26 hi hz0 hz1 hz2 rfl (by decide) _ _ _ (by simp [Act.eval]) (HJO.out _ _ (by assumption)) ⟨_, 0, none⟩ 1 1 (rvRow ⟨nm, m, rf, p, ao, len, cap, bb, q, sc⟩) (by simp [Act.eval]) rfl (cell_rv_new _ ⟨nm, m, rf, p, ao, len, cap, bb, q, sc⟩) (rv_one ⟨nm, m, rf, p, ao, len, cap, bb, q, sc⟩) (by unfold maxLen; omega) (by omega) (HJS.out _ _ (by assumption)) ?_
           intro v' w4 ho hg
           obtain ⟨k1, k2, k3⟩ := HJE.out w2.drew _ _ _ HJd ho hg
           obtain ⟨ao2, cap2, rfl⟩ := owned_shape ho
           clear ho hg))
      all_goals (go_wp2; go_ret)
      all_goals assumption
theorem hasPrefix_at (l : List UInt8) : Lib.hasPrefix l [64] = decide (l.head? = some 64) := by
  cases l with
  | nil => rfl
  | cons c r =>
    by_cases h : c = 64
    · subst h; simp [Lib.hasPrefix]
    · have h2 : ¬ 64 = c := fun e => h e.symm
      simp [Lib.hasPrefix, List.isPrefixOf, h, h2]
set_option maxRecDepth 20000 in
set_option maxHeartbeats 2000000 in
theorem take_calls (w : World) (b : Nat) (fs : List Rv) (xs : List Rl) (vr vl : Value) (s : ByteArray) (k : Nat) (W : World) (h : FlAt w b fs xs vr vl W) (hs : s.size ≤ 1048576) (hstd : Std W) (hk : k ≤ 1048577) :
    Calls Tryz.prog 44 #[.pointer (some ⟨b, 0, none⟩), .string s, .int .i64 (k : Int)] W fun e W' => TakePost w b (takeB (fs.map Rv.P, xs.map Rl.R) k s.data.toList) e W' := by
  by_cases h1 : k = 1
  · subst h1
    refine (takeFirst_calls _ s W).mono ?_
    rintro e w' ⟨rfl, rfl⟩
    by_cases hh : s.data.toList = headT
    · have hT : takeB (fs.map Rv.P, xs.map Rl.R) 1 s.data.toList = some (fs.map Rv.P, xs.map Rl.R) := by rw [takeB, if_pos rfl, if_pos hh]
      rw [hT, decide_eq_true hh]
      exact ⟨rfl, h.low, fun f hf => ⟨_, _, _, _, h, Option.some.inj hf⟩⟩
    · have hT : takeB (fs.map Rv.P, xs.map Rl.R) 1 s.data.toList = none := by rw [takeB, if_pos rfl, if_neg hh]
      rw [hT, decide_eq_false hh]
      exact take_none rfl h.low
  have hd : ((k : Int) == 1) = false := by rw [beq_eq_false_iff_ne]; omega
  have HP : Hid (Calls Tryz.prog 73 #[.string s, .string ⟨#[64]⟩] W fun e w' => e = .returned (.bool (decide (s.data.toList.head? = some 64))) ∧ w' = W) := by
    show Calls _ _ _ _ _
    have h1 := Tryz.strings_HasPrefix s ⟨#[64]⟩ W
    rw [show (⟨#[64]⟩ : ByteArray).data.toList = [64] from rfl, hasPrefix_at] at h1
    exact h1
  by_cases hh : s.data.toList.head? = some 64
  · have HT : Hid (Calls Tryz.prog 74 #[.pointer (some ⟨b, 0, none⟩), .string s] W fun e W' => TakePost w b (takeB (fs.map Rv.P, xs.map Rl.R) k s.data.toList) e W') := by
      show Calls _ _ _ _ _
      rw [takeB, if_neg h1, if_pos hh]
      exact takeReference_calls w b fs xs vr vl s W h hs hstd
    rw [decide_eq_true hh] at HP
    generalize takeB (fs.map Rv.P, xs.map Rl.R) k s.data.toList = O at *
    clear h hstd hh h1
    go_enter Tryz.func44, Tryz.ntmps44
    go_wp2_with (first | (go_at_call 73; refine HP.out.mono ?_; rintro e w' ⟨rfl, rfl⟩) | (go_at_call 74; refine HT.out.mono ?_; rintro e w' ⟨rfl, h2, h3⟩))
    go_ret
    exact ⟨rfl, h2, h3⟩
  · have HT : Hid (Calls Tryz.prog 75 #[.pointer (some ⟨b, 0, none⟩), .string s] W fun e W' => TakePost w b (takeB (fs.map Rv.P, xs.map Rl.R) k s.data.toList) e W') := by
      show Calls _ _ _ _ _
      rw [takeB, if_neg h1, if_neg hh]
      exact takeRecord_calls w b fs xs vr vl s W h hs hstd
    rw [decide_eq_false hh] at HP
    generalize takeB (fs.map Rv.P, xs.map Rl.R) k s.data.toList = O at *
    clear h hstd hh h1
    go_enter Tryz.func44, Tryz.ntmps44
    go_wp2_with (first | (go_at_call 73; refine HP.out.mono ?_; rintro e w' ⟨rfl, rfl⟩) | (go_at_call 75; refine HT.out.mono ?_; rintro e w' ⟨rfl, h2, h3⟩))
    go_ret
    exact ⟨rfl, h2, h3⟩
end Go.Proofs.YtdhphipdpjhhbaaGreatDoor
