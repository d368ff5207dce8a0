/-
  FastaJoins is proved for every two texts: of two files that are taken, one behind the other with a line feed between, fasta.Parse tells the sequences of both, or that a name is in both. No condition.
-/
import Derived.Test.YtcleejdlmamdhaaRows
import Derived.Test.YtcleejdlmamdhaaReads
import Derived.Test.YtcleejdlmamdhaaRun
import Derived.Laws.AppendOwnNone
namespace Go.Proofs.Ytcleejdlmamdhaa
open Go.RowKit

theorem names_map (qs : List Sq) (n : List UInt8) : n ∈ names (qs.map Sq.P) ↔ ∃ (i : Nat) (q : Sq), qs[i]? = some q ∧ q.1.data.toList = n := by
  unfold names
  rw [List.mem_map]
  constructor
  · rintro ⟨p, hp, rfl⟩
    obtain ⟨q, hq, rfl⟩ := List.mem_map.1 hp
    obtain ⟨i, hi⟩ := List.getElem?_of_mem hq
    exact ⟨i, q, hi, rfl⟩
  · rintro ⟨i, q, hi, rfl⟩
    exact ⟨q.P, List.mem_map_of_mem (List.mem_of_getElem? hi), rfl⟩
/-- What the third call tells. -/
structure JoinFacts (qs ms ns : List Sq) (gc jc : Nat) : Prop where
  clash : ∀ (i k : Nat) (q p : Sq), qs[i]? = some q → ms[k]? = some p → q.1 = p.1 → gc = 20 ∧ 1 ≤ jc
  apart : (∀ (i k : Nat) (q p : Sq), qs[i]? = some q → ms[k]? = some p → q.1 ≠ p.1) → gc = 0 ∧ jc = 0 ∧ ns.map Sq.P = (qs ++ ms).map Sq.P
theorem joinFacts {a b c : ByteArray} {qs ms ns : List Sq} (hc : c.data.toList = a.data.toList ++ 10 :: b.data.toList) (hq : qs.map Sq.P = (parseB a.data.toList).1) (hm : ms.map Sq.P = (parseB b.data.toList).1) (hn : ns.map Sq.P = (parseB c.data.toList).1)
    (ha : (parseB a.data.toList).2.2 = 0) (hb : (parseB b.data.toList).2.2 = 0) (hs : a.size + b.size < 1048576) (hl : qs.length + ms.length ≤ 64) : JoinFacts qs ms ns (parseB c.data.toList).2.2 (parseB c.data.toList).2.1 := by
  have ea : parseB a.data.toList = (qs.map Sq.P, (parseB a.data.toList).2.1, 0) := by rw [hq, ← ha]
  have eb : parseB b.data.toList = (ms.map Sq.P, (parseB b.data.toList).2.1, 0) := by rw [hm, ← hb]
  obtain ⟨h1, h2⟩ := parse_join a.data.toList b.data.toList _ _ _ _ ea eb (by rw [size_toList, size_toList]; exact hs) (by simpa using hl)
  rw [← hc] at h1 h2
  constructor
  · intro i k q p hi hk he
    obtain ⟨j, hj, e⟩ := h2 ⟨q.1.data.toList, (names_map qs _).2 ⟨i, q, hi, rfl⟩, (names_map ms _).2 ⟨k, p, hk, by rw [he]⟩⟩
    rw [e]; exact ⟨rfl, hj⟩
  · intro hd
    have e := h1 (fun n hn1 hn2 => by
      obtain ⟨k, p, hk, e1⟩ := (names_map ms n).1 hn1
      obtain ⟨i, q, hi, e2⟩ := (names_map qs n).1 hn2
      exact hd i k q p hi hk (byte_ext (e2.trans e1.symm)))
    rw [hn, e]
    exact ⟨rfl, rfl, by simp⟩

structure JoinInv (w w1 w2 w3 : World) (lv mv nv : Value) (n m k : Nat) (qs ms ns : List Sq) (wr : World) : Prop where
  l : wr.ownsRow w1.heap.size 29 3 lv n (rowCells qs)
  m : wr.ownsRow w2.heap.size 29 3 mv m (rowCells ms)
  n : wr.ownsRow w3.heap.size 29 3 nv k (rowCells ns)
  below : Below w.heap.size w wr
  size : w3.heap.size ≤ wr.heap.size
theorem JoinInv.next {w w1 w2 w3 wr w' : World} {lv mv nv : Value} {n m k : Nat} {qs ms ns : List Sq} (h : JoinInv w w1 w2 w3 lv mv nv n m k qs ms ns wr) (hb : Below wr.heap.size wr w') : JoinInv w w1 w2 w3 lv mv nv n m k qs ms ns w' :=
  ⟨owned_below h.l hb, owned_below h.m hb, owned_below h.n hb, h.below.trans (hb.mono h.below.size), Nat.le_trans h.size hb.size⟩

set_option maxRecDepth 100000 in
set_option maxHeartbeats 8000000 in
theorem joins_walk (a b : ByteArray) (w : World) (ha : a.size ≤ maxLen) (hb : b.size ≤ maxLen) : Calls Try.prog 7 #[.string a, .string b] w fun e w' => e = .returned (.bool true) ∧ Below w.heap.size w w' := by
  unfold maxLen at ha hb
  by_cases h1 : 1073741823 < a.size
  · have hd : decide ((1073741823 : Int) < a.size) = true := by simp; omega
    go_enter Try.func7, Try.ntmps7
    go_wp2
    go_ret
    exact ⟨rfl, Below.refl _ _⟩
  have hd1 : decide ((1073741823 : Int) < a.size) = false := by simp; omega
  by_cases h2 : 1073741823 < b.size
  · have hd : decide ((1073741823 : Int) < b.size) = true := by simp; omega
    go_enter Try.func7, Try.ntmps7
    go_wp2
    go_ret
    exact ⟨rfl, Below.refl _ _⟩
  have hd2 : decide ((1073741823 : Int) < b.size) = false := by simp; omega
  have hsb : (⟨#[10]⟩ : ByteArray).size = 1 := rfl
  have hcat1 : ∀ W, (Op.stringOp .add a ⟨#[10]⟩).run Try.prog W = .ok (.string (a ++ ⟨#[10]⟩)) W := fun W => run_string_add_sum W _ _ (by rw [hsb]; omega)
  have hcat2 : ∀ W, (Op.stringOp .add (a ++ ⟨#[10]⟩) b).run Try.prog W = .ok (.string (a ++ ⟨#[10]⟩ ++ b)) W := fun W => run_string_add_sum W _ _ (by rw [ByteArray.size_append, hsb]; omega)
  have HCL : Hid ((a ++ ⟨#[10]⟩ ++ b).data.toList = a.data.toList ++ 10 :: b.data.toList) := by
    show _ = _
    rw [ba_append, ba_append]; simp
  clear hsb ha hb
  go_enter Try.func7, Try.ntmps7
  go_wp2_with fail
  refine (awake_calls w).mono ?_
  rintro e w1 ⟨rfl, hb1⟩
  have HB1 : Hid (Below w.heap.size w w1) := hb1
  clear hb1
  go_wp2_with fail
  refine (parse_calls a w1).mono ?_
  rintro e w2 ⟨lv, qs, rfl, hlo, hlq, hb2⟩
  have HQ : Hid (qs.map Sq.P = (parseB a.data.toList).1) := hlq
  have HLO : Hid (w2.ownsRow w1.heap.size 29 3 lv qs.length (rowCells qs)) := hlo
  have HB2 : Hid (Below w.heap.size w w2) := HB1.out.trans (hb2.mono HB1.out.size)
  have HS12 : Hid (w1.heap.size ≤ w2.heap.size) := hb2.size
  clear hlo hlq hb2
  go_wp2_with fail
  refine (parse_calls b w2).mono ?_
  rintro e w3 ⟨mv, ms, rfl, hmo, hmq, hb3⟩
  have HM : Hid (ms.map Sq.P = (parseB b.data.toList).1) := hmq
  have HLO3 : Hid (w3.ownsRow w1.heap.size 29 3 lv qs.length (rowCells qs)) := owned_below HLO.out hb3
  have HMO3 : Hid (w3.ownsRow w2.heap.size 29 3 mv ms.length (rowCells ms)) := hmo
  have HB3 : Hid (Below w.heap.size w w3) := HB2.out.trans (hb3.mono HB2.out.size)
  have HS23 : Hid (w2.heap.size ≤ w3.heap.size) := hb3.size
  have HLB : Hid (∀ k, lv.ownBlock = some k → w1.heap.size ≤ k ∧ k < w2.heap.size) := fun k hk => HLO.out.lt k hk
  have HMB : Hid (∀ k, mv.ownBlock = some k → w2.heap.size ≤ k ∧ k < w3.heap.size) := fun k hk => HMO3.out.lt k hk
  clear hmo hmq hb3 HLO
  go_wp2_with fail
  generalize a ++ ⟨#[10]⟩ ++ b = c at *
  clear hcat1 hcat2
  refine (parse_calls c w3).mono ?_
  rintro e w4 ⟨nv, ns, rfl, hno, hnq, hb4⟩
  have HN : Hid (ns.map Sq.P = (parseB c.data.toList).1) := hnq
  have HI : Hid (JoinInv w w1 w2 w3 lv mv nv qs.length ms.length ns.length qs ms ns w4) := ⟨owned_below HLO3.out hb4, owned_below HMO3.out hb4, hno, HB3.out.trans (hb4.mono HB3.out.size), hb4.size⟩
  have HFacts : Hid ((parseB a.data.toList).2.2 = 0 → (parseB b.data.toList).2.2 = 0 → a.size + b.size < 1048576 → qs.length + ms.length ≤ 64 → JoinFacts qs ms ns (parseB c.data.toList).2.2 (parseB c.data.toList).2.1) := fun h3 h4 h5 h6 => joinFacts HCL.out HQ.out HM.out HN.out h3 h4 h5 h6
  have HQ64 : Hid (qs.length ≤ 64) := by
    have h3 := congrArg List.length HQ.out
    rw [List.length_map] at h3
    show _ ≤ _
    rw [h3]; exact parse_few _
  have HM64 : Hid (ms.length ≤ 64) := by
    have h3 := congrArg List.length HM.out
    rw [List.length_map] at h3
    show _ ≤ _
    rw [h3]; exact parse_few _
  obtain ⟨lao, lcap, rfl⟩ := owned_shape HLO3.out
  obtain ⟨mao, mcap, rfl⟩ := owned_shape HMO3.out
  obtain ⟨nao, ncap, rfl⟩ := owned_shape hno
  clear hno hnq hb4 HLO3 HMO3 HB2 HB3 HCL HQ HM HN
  generalize (parseB a.data.toList).2.2 = ea at *
  generalize (parseB b.data.toList).2.2 = eb at *
  generalize (parseB c.data.toList).2.2 = gc at *
  generalize (parseB c.data.toList).2.1 = jc at *
  generalize (parseB a.data.toList).2.1 = ja at *
  generalize (parseB b.data.toList).2.1 = jb at *
  generalize hqn : qs.length = n at *
  have HQN : Hid (qs.length = n) := hqn
  generalize hmn : ms.length = m at *
  have HMN : Hid (ms.length = m) := hmn
  generalize hnn : ns.length = kn at *
  have HNN : Hid (ns.length = kn) := hnn
  clear hqn hmn hnn
  have hq64 : n ≤ 64 := HQ64.out
  have hm64 : m ≤ 64 := HM64.out
  have HBe4 : Hid (Below w.heap.size w w4) := HI.out.below
  by_cases hea : ea = 0
  · subst hea
    have hda : (((0 : Nat) : Int) != 0) = false := by decide
    by_cases heb : eb = 0
    · subst heb
      by_cases hbig : 1048576 ≤ a.size + b.size
      · have hdb : decide ((1048576 : Int) ≤ (a.size : Int) + (b.size : Int)) = true := by simp; omega
        clear HFacts HI
        go_wp2
        go_ret
        exact ⟨rfl, HBe4.out⟩
      have hdb : decide ((1048576 : Int) ≤ (a.size : Int) + (b.size : Int)) = false := by simp; omega
      by_cases hmany : 64 < n + m
      · have hdm : decide ((64 : Int) < (n : Int) + (m : Int)) = true := by simp; omega
        clear HFacts HI
        go_wp2
        go_ret
        exact ⟨rfl, HBe4.out⟩
      have hdm : decide ((64 : Int) < (n : Int) + (m : Int)) = false := by simp; omega
      have HF : Hid (JoinFacts qs ms ns gc jc) := HFacts.out rfl rfl (by omega) (by omega)
      clear HFacts HBe4
      go_wp2_with fail
      go_loopw [15] (fun i wr => ∃ k : Nat, k ≤ n ∧ i = .int .i64 k ∧ (∀ (x y : Nat) (q p : Sq), x < k → qs[x]? = some q → ms[y]? = some p → q.1 ≠ p.1) ∧ JoinInv w w1 w2 w3 (.slice lao n lcap) (.slice mao m mcap) (.slice nao kn ncap) n m kn qs ms ns wr) (fun i _ => n - (intOf i).toNat)
      case atStart => exact ⟨0, Nat.zero_le _, rfl, fun x y q p hx => absurd hx (Nat.not_lt_zero _), HI.out⟩
      case round =>
        obtain ⟨k, hk, rfl, hap, hinv⟩ := hrel
        have HAp : Hid (∀ (x y : Nat) (q p : Sq), x < k → qs[x]? = some q → ms[y]? = some p → q.1 ≠ p.1) := hap
        have HJ : Hid (JoinInv w w1 w2 w3 (.slice lao n lcap) (.slice mao m mcap) (.slice nao kn ncap) n m kn qs ms ns wr) := hinv
        clear hap hinv HI
        by_cases hlt : k < n
        · have hdk : decide ((k : Int) < (n : Int)) = true := by simp; omega
          obtain ⟨q, hq⟩ : ∃ q, qs[k]? = some q := ⟨_, List.getElem?_eq_getElem (by rw [HQN.out]; exact hlt)⟩
          have HQk : Hid (qs[k]? = some q) := hq
          clear hq
          go_wp2_with fail
          go_loopw [16] (fun i wr => ∃ j : Nat, j ≤ m ∧ i = .int .i64 j ∧ (∀ (y : Nat) (p : Sq), y < j → ms[y]? = some p → q.1 ≠ p.1) ∧ JoinInv w w1 w2 w3 (.slice lao n lcap) (.slice mao m mcap) (.slice nao kn ncap) n m kn qs ms ns wr) (fun i _ => m - (intOf i).toNat)
          case atStart => exact ⟨0, Nat.zero_le _, rfl, fun y p hy => absurd hy (Nat.not_lt_zero _), HJ.out⟩
          case round =>
            obtain ⟨j, hj, rfl, hap, hinv⟩ := hrel
            have HAj : Hid (∀ (y : Nat) (p : Sq), y < j → ms[y]? = some p → q.1 ≠ p.1) := hap
            have HJ2 : Hid (JoinInv w w1 w2 w3 (.slice lao n lcap) (.slice mao m mcap) (.slice nao kn ncap) n m kn qs ms ns wr) := hinv
            clear hap hinv HJ
            by_cases hltj : j < m
            · have hdj : decide ((j : Int) < (m : Int)) = true := by simp; omega
              obtain ⟨p, hp⟩ : ∃ p, ms[j]? = some p := ⟨_, List.getElem?_eq_getElem (by rw [HMN.out]; exact hltj)⟩
              have HPj : Hid (ms[j]? = some p) := hp
              obtain ⟨b1, o1, rfl, hc1⟩ := (owned_sqs HJ2.out.l).cells (by omega)
              obtain ⟨b2, o2, rfl, hc2⟩ := (owned_sqs HJ2.out.m).cells (by omega)
              obtain ⟨x1, _, _⟩ := hc1 k q HQk.out
              obtain ⟨y1, _, _⟩ := hc2 j p hp
              clear hc1 hc2 hp
              cases heq : (q.1.toList == p.1.toList) with
              | true =>
                have HE : Hid (gc = 20 ∧ 1 ≤ jc) := HF.out.clash k j q p HQk.out HPj.out (by
                  apply byte_ext; rw [← ByteArray.toList_eq, ← ByteArray.toList_eq]; simpa using heq)
                obtain ⟨hg20, hj1⟩ := HE.out
                subst hg20
                have hdj1 : decide ((0 : Int) < (jc : Int)) = true := by simp; omega
                have HBz : Hid (Below w.heap.size w wr) := HJ2.out.below
                clear HE HF HAj HJ2 HPj
                go_wp2_with fail
                go_quiet (fail)
                go_wp2
                go_ret
                refine ⟨ret_bool ?_, below_drewN HBz.out _⟩
                simp
                omega
              | false =>
                have HNe : Hid (q.1 ≠ p.1) := name_ne heq
                go_wp2_with fail
                go_quiet (fail)
                have HJ3 : Hid (JoinInv w w1 w2 w3 (.slice (some ⟨b1, o1, none⟩) n lcap) (.slice (some ⟨b2, o2, none⟩) m mcap) (.slice nao kn ncap) n m kn qs ms ns (wr.drewN nq)) := HJ2.out.next (below_drewN (Below.refl _ _) _)
                have HA3 : Hid (∀ (y : Nat) (p : Sq), y < j + 1 → ms[y]? = some p → q.1 ≠ p.1) := by
                  intro y p' hy hp'
                  by_cases hyj : y = j
                  · subst hyj
                    have : p' = p := Option.some.inj (hp'.symm.trans HPj.out)
                    rw [this]; exact HNe.out
                  · exact HAj.out y p' (by omega) hp'
                generalize wr.drewN nq = wz at *
                clear HJ2 HAj HPj HNe x1 y1
                go_wp2
                go_roundw
                case rel => exact ⟨j + 1, by omega, by go_num, HA3.out, HJ3.out⟩
                case measure => simp [intOf]; omega
            · have hdj : decide ((j : Int) < (m : Int)) = false := by simp; omega
              have HA3 : Hid (∀ (x y : Nat) (q p : Sq), x < k + 1 → qs[x]? = some q → ms[y]? = some p → q.1 ≠ p.1) := by
                intro x y q' p' hx hq' hp'
                by_cases hxk : x = k
                · subst hxk
                  have : q' = q := Option.some.inj (hq'.symm.trans HQk.out)
                  rw [this]
                  have hy : y < ms.length := (List.getElem?_eq_some_iff.1 hp').1
                  rw [HMN.out] at hy
                  exact HAj.out y p' (by omega) hp'
                · exact HAp.out x y q' p' (by omega) hq' hp'
              go_wp2
              go_roundw
              case rel => exact ⟨k + 1, by omega, by go_num, HA3.out, HJ2.out⟩
              case measure => simp [intOf]; omega
        · have hdk : decide ((k : Int) < (n : Int)) = false := by simp; omega
          obtain ⟨hg0, hj0, hmap⟩ := HF.out.apart (fun x y q p hx hy => HAp.out x y q p (by
            have := (List.getElem?_eq_some_iff.1 hx).1; rw [HQN.out] at this; omega) hx hy)
          subst hg0
          subst hj0
          have HMap : Hid (ns.map Sq.P = (qs ++ ms).map Sq.P) := hmap
          clear hmap HF HAp
          obtain ⟨i0, hi, hz0, hz1, hz2⟩ := info_parts info29
          have HFin : Hid (∀ v' w5, w5.ownsRow w1.heap.size 29 3 v' (n + m) (rowCells qs ++ rowCells ms) → w5.ownsRow w3.heap.size 29 3 (.slice nao kn ncap) kn (rowCells ns) → ∃ ao cap, v' = .slice ao (n + m) cap ∧ Calls Try.prog 11 #[.slice nao kn ncap, .slice ao (n + m) cap] w5 fun e w' => e = .returned (.bool true) ∧ ∃ k, w' = w5.drewN k) := by
            intro v' w5 h1 h2
            obtain ⟨ao, cap, rfl⟩ := owned_shape h1
            rw [← rowCells_append] at h1
            refine ⟨ao, cap, rfl, ?_⟩
            have h3 := same_calls nao ao _ _ ncap cap ns (qs ++ ms) w5 (owned_sqs h2) (owned_sqs h1)
            rw [decide_eq_true HMap.out] at h3
            exact h3
          have hs3 : w3.heap.size ≤ wr.heap.size := HJ.out.size
          have hs2 : w2.heap.size ≤ wr.heap.size := Nat.le_trans HS23.out hs3
          have hs1 : w1.heap.size ≤ wr.heap.size := Nat.le_trans HS12.out hs2
          rcases HJ.out.m.2 with ⟨hv, hz⟩ | ⟨g, gcap, cur, hv, _, hgm, _⟩
          · cases hv
            have hms : ms = [] := List.eq_nil_of_length_eq_zero HMN.out
            subst hms
            obtain ⟨ao5, cap5, hv5, hcall⟩ := HFin.out (.slice lao n lcap) wr (by simpa [rowCells] using HJ.out.l) HJ.out.n
            cases hv5
            have HCall : Hid (Calls Try.prog 11 #[.slice nao kn ncap, .slice lao n lcap] wr fun e w' => e = .returned (.bool true) ∧ ∃ k, w' = wr.drewN k) := hcall
            have HBz : Hid (Below w.heap.size w wr) := HJ.out.below
            have HLz : Hid (wr.ownsRow w1.heap.size 29 3 (.slice lao n lcap) n (rowCells qs)) := HJ.out.l
            clear hcall HFin HJ HMap
            go_wp2_with (first
              | (at_builtin; go_loud (refine wpList_append_own_none rfl _ _ 23 rfl w1.heap.size 29 i0 3 Try.underlying23 hi _ _ _ rfl HLz.out rfl ?_))
              | (go_at_call 11; refine HCall.out.mono ?_; rintro e w6 ⟨rfl, kd, hw6⟩))
            go_ret
            exact ⟨rfl, below_drewN HBz.out kd⟩
          · cases hv
            have HLz : Hid (wr.ownsRow w1.heap.size 29 3 (.slice lao n lcap) n (rowCells qs)) := HJ.out.l
            have HMz : Hid (wr.ownsRow w2.heap.size 29 3 (.slice (some ⟨g, 0, none⟩) m mcap) m (rowCells ms)) := HJ.out.m
            have HNz : Hid (wr.ownsRow w3.heap.size 29 3 (.slice nao kn ncap) kn (rowCells ns)) := HJ.out.n
            have HBz : Hid (Below w.heap.size w wr) := HJ.out.below
            clear HJ HMap hgm
            go_wp2_with (at_builtin; go_loud (refine wpList_append_own _ rfl _ _ 23 rfl w1.heap.size 29 i0 _ 3 48 Try.underlying23 hi hz0 hz1 hz2 rfl (by decide) _ _ _ rfl HLz.out ⟨g, 0, none⟩ m mcap (rowCells ms) rfl ?c0 ?c1 ?c2 ?c3 ?c4 ?c5 ?_))
            case c0 => rw [rowCells_length, HMN.out]
            case c1 =>
              intro j u hu
              have hadd : (⟨g, 0, none⟩ : Addr).add j = ⟨g, j, none⟩ := by unfold Addr.add; split <;> simp_all
              rw [hadd]; exact (owned_cells HMz.out j u hu).1
            case c2 =>
              intro u hu
              unfold rowCells at hu
              obtain ⟨q, _, hq⟩ := List.mem_flatMap.1 hu
              exact sq_oneCell q u hq
            case c3 => unfold maxLen; omega
            case c4 => omega
            case c5 => exact hs1
            intro v' w5 ho5 hg5 _
            have hn5 := owned_grownBelow HNz.out (fun k hk => Nat.lt_of_lt_of_le (HLB.out k hk).2 HS23.out) hg5
            have HB5 : Hid (Below w.heap.size w w5) := HBz.out.grown hg5 HBz.out.size (fun k hk => Nat.le_trans HB1.out.size (HLB.out k hk).1)
            obtain ⟨ao5, cap5, rfl, hcall⟩ := HFin.out v' w5 ho5 hn5
            have HCall : Hid (Calls Try.prog 11 #[.slice nao kn ncap, .slice ao5 (n + m) cap5] w5 fun e w' => e = .returned (.bool true) ∧ ∃ k, w' = w5.drewN k) := hcall
            clear hcall HFin ho5 hg5 hn5 HLz HMz HNz HBz
            go_wp2_with (go_at_call 11; refine HCall.out.mono ?_; rintro e w6 ⟨rfl, kd, hw6⟩)
            go_ret
            exact ⟨rfl, below_drewN HB5.out kd⟩
    · have hdb : ((eb : Int) != 0) = true := by simp; omega
      clear HFacts HI
      go_wp2
      go_ret
      exact ⟨rfl, HBe4.out⟩
  · have hda : ((ea : Int) != 0) = true := by simp; omega
    clear HFacts HI
    go_wp2
    go_ret
    exact ⟨rfl, HBe4.out⟩

namespace fastaJoins
open Go.ChangeShapes Go.WideShapes Go.ChangeAt Go.RowKit
open Go.ChangeMaps (open_string shut_string)
theorem own : ownKnob Try.prog.godebug = none := by kernel_rfl

set_option maxRecDepth 100000 in
theorem lifted (os : Os) (started : os.Started) (H : Type) (enc : TypeId × Value → H) :
    ReturnsInHanded {} Try.checked os 7 .any (Rows.fastaJoinsSpec.pre6 enc Try.prog Try.f7 Rows.fastaJoinsRow.domain false) (Rows.fastaJoinsSpec.post enc Try.prog Try.f7 false true false false) := by
  refine returnsInHanded_of_change (C := Try.checked) own started (by kernel_rfl) Try.func7
    (ChangeSpec.witness6 (enc := enc) (C := Try.checked) false ⟨#[], #[.string ByteArray.empty, .string ByteArray.empty], []⟩ 8 (by kernel_rfl) (by kernel_rfl) (by kernel_rfl) (by kernel_rfl)) ?_
  intro W base args ds gs before hval0 hW _ _
  have hval : ∀ (j : Nat) t v, Try.f7.params[j]? = some t → args[j]? = some v → Value.okWide Try.prog W .any base t v := hval0
  have hW' := hW
  obtain ⟨p, q, hA0, hV, rfl, hfz, hnd⟩ := hW
  have hA : DataW.TrodAll enc Try.prog W 0 (fun _ => true) true Try.f7.params.toList args.toList ds p := hA0
  rw [Try.params7] at hA hval
  obtain ⟨v0, vs0, d0, ds0, p0, q0, hargs, rfl, rfl, h0, r0⟩ := trodAll_cons hA
  obtain ⟨v1, vs1, d1, ds1, p1, q1, rfl, rfl, rfl, h1, r1⟩ := trodAll_cons r0
  obtain ⟨rfl, rfl, rfl⟩ := trodAll_nil r1
  obtain rfl : args = #[v0, v1] := by cases args; simp_all
  obtain ⟨rfl, rfl⟩ := trodVars_none hV
  obtain ⟨a0, rfl, rfl, rfl, w0⟩ := open_string Try.underlying9 (hval 0 9 v0 rfl rfl) h0
  obtain ⟨a1, rfl, rfl, rfl, w1⟩ := open_string Try.underlying9 (hval 1 9 v1 rfl rfl) h1
  clear hA0 hval0
  refine (joins_walk a0 a1 W w0 w1).mono fun e W' ⟨he, bel⟩ => ?_
  subst he
  exact ⟨_, rfl, _, _, _, [], _, [], hW', trodAll_mk1 (shut_bool Try.underlying4 _), (trodAll_cons_mk (shut_string Try.underlying9 w0) (trodAll_cons_mk (shut_string Try.underlying9 w1) trodAll_mk0)), rfl, bel.frame _, fun h => by cases h⟩
end fastaJoins

theorem fastaJoins_holds : Rows.FastaJoinsSaid :=
  OpenClaim.holds_of_wide 7 Try.f7 rfl rfl rfl rfl rfl rfl rfl ⟨rfl, rfl, rfl, rfl, rfl⟩ rfl rfl rfl rfl rfl (by kernel_rfl) Try.func7 (by kernel_rfl)
    (of_decide_eq_true (by kernel_rfl)) (by unfold Func.isWrapper; first | (rw [if_pos (by decide +kernel)]; kernel_rfl) | (rw [if_neg (by decide +kernel)]; exact ⟨rfl, rfl⟩))
    (fun os started H enc _ => fastaJoins.lifted os started H enc)
end Go.Proofs.Ytcleejdlmamdhaa
