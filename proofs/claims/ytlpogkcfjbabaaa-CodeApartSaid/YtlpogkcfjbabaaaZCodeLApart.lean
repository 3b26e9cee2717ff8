/- The statement CodeApart, as a walk over the contracts: of any two specs and lists of numbers the call returns true. -/
import Derived.Deep.QuietTactic
import Derived.BigQuiet
import Derived.LoopTactic
import Derived.Test.YtlpogkcfjbabaaaMg18
import Derived.Test.YtlpogkcfjbabaaaMg30
import Derived.Test.YtlpogkcfjbabaaaZCodeLBack
import Derived.Test.YtlpogkcfjbabaaaZSpecEq
import Derived.Test.YtlpogkcfjbabaaaMg06
namespace Go.Proofs.Ytlpogkcfjbabaaa
open Go.RowKit

/-- p is no beginning of q -/
def NoPre (p q : Bs) : Prop := p ≠ q.take p.length
def Far (p q : Bs) : Prop := NoPre p q ∧ NoPre q p
theorem nopre_mk {p q : Bs} (h : ∀ r, q ≠ p ++ r) : NoPre p q := fun e => h (q.drop p.length) (by conv => lhs; rw [← List.take_append_drop p.length q, ← e])
theorem far_spec {s t : Sp} (hs : rightS s = true) (ht : rightS t = true) (h : s ≠ t) : Far (specB s) (specB t) :=
  ⟨nopre_mk fun _ e => h (spec_apart hs ht e), nopre_mk fun _ e => h (spec_apart ht hs e).symm⟩
theorem far_set {s t : List Int} (hs : rightB s = true) (ht : rightB t = true) (h : s ≠ t) : Far (setB s) (setB t) :=
  ⟨nopre_mk fun _ e => h (set_apart hs ht e), nopre_mk fun _ e => h (set_apart ht hs e).symm⟩
theorem far_both (s : Sp) (l : List Int) : Far (specB s) (setB l) := ⟨nopre_mk fun _ e => spec_set_apart.2 e, nopre_mk fun _ e => spec_set_apart.1 e⟩
def oneL (c : Bool) (p : Bs) : List Bs := if c = true then [p] else []
theorem mem_oneL {c : Bool} {p x : Bs} : x ∈ oneL c p ↔ c = true ∧ x = p := by
  cases c <;> simp [oneL]
/-- the bytes that are looked at, behind the first steps: each where its question says yes -/
def listOf (q : Nat → Bool) (p : Nat → Bs) : Nat → List Bs
  | 0 => []
  | k + 1 => listOf q p k ++ oneL (q k) (p k)
theorem listOf_yes {q : Nat → Bool} {p : Nat → Bs} {k : Nat} (h : q k = true) : listOf q p (k + 1) = listOf q p k ++ [p k] := by
  show _ ++ oneL _ _ = _
  unfold oneL
  rw [if_pos h]
theorem listOf_no {q : Nat → Bool} {p : Nat → Bs} {k : Nat} (h : q k = false) : listOf q p (k + 1) = listOf q p k := by
  show _ ++ oneL _ _ = _
  unfold oneL
  rw [if_neg (by rw [h]; simp), List.append_nil]
theorem listOf_len (q : Nat → Bool) (p : Nat → Bs) : ∀ k, (listOf q p k).length ≤ k
  | 0 => Nat.le_refl _
  | k + 1 => by
    have h := listOf_len q p k
    cases hq : q k with
    | true => rw [listOf_yes hq, List.length_append]; simp; omega
    | false => rw [listOf_no hq]; omega
theorem listOf_mem {q : Nat → Bool} {p : Nat → Bs} {x : Bs} : ∀ {k : Nat}, x ∈ listOf q p k → ∃ j, j < k ∧ q j = true ∧ x = p j
  | 0, h => by cases h
  | k + 1, h => by
    rcases List.mem_append.1 h with h | h
    · obtain ⟨j, h1, h2⟩ := listOf_mem h; exact ⟨j, by omega, h2⟩
    · obtain ⟨h1, h2⟩ := mem_oneL.1 h; exact ⟨k, by omega, h1, h2⟩
theorem listOf_far {q : Nat → Bool} {p : Nat → Bs} : ∀ (k : Nat), (∀ i j, i < j → j < k → q i = true → q j = true → Far (p i) (p j)) → (listOf q p k).Pairwise Far
  | 0, _ => List.Pairwise.nil
  | k + 1, h => by
    show (_ ++ oneL _ _).Pairwise Far
    rw [List.pairwise_append]
    refine ⟨listOf_far k (fun i j h1 h2 => h i j h1 (by omega)), ?_, fun x hx y hy => ?_⟩
    · unfold oneL; split <;> simp
    · obtain ⟨i, hi, hqi, rfl⟩ := listOf_mem hx
      obtain ⟨hqk, rfl⟩ := mem_oneL.1 hy
      exact h i k hi (by omega) hqi hqk
theorem far_apart {l : List Bs} (hp : l.Pairwise Far) {i k : Nat} (hi : i < l.length) (hk : k < l.length) (h : i ≠ k) : NoPre (l.getD i []) (l.getD k []) := by
  have hp := List.pairwise_iff_getElem.1 hp
  rw [List.getD, List.getD, List.getElem?_eq_getElem hi, List.getElem?_eq_getElem hk]
  rcases Nat.lt_or_gt_of_ne h with h | h
  · exact (hp i k hi hk h).1
  · exact (hp k i hk hi h).2
/-- the four questions of the statement, and their bytes -/
def apQ (s t : Sp) (a b : List Int) : Nat → Bool
  | 0 => rightS s
  | 1 => rightS t && !sameSp s t
  | 2 => rightB a
  | _ => rightB b && !sameB a b
def apP (s t : Sp) (a b : List Int) : Nat → Bs
  | 0 => specB s
  | 1 => specB t
  | 2 => setB a
  | _ => setB b
def apL (s t : Sp) (a b : List Int) (k : Nat) : List Bs := listOf (apQ s t a b) (apP s t a b) k
theorem ap4_far (s t : Sp) (a b : List Int) : (apL s t a b 4).Pairwise Far := by
  refine listOf_far 4 fun i j hij hj hi hq => ?_
  have hst : ∀ {c d : Bool}, (c && !d) = true → c = true ∧ d = false := fun {c d} h => by cases c <;> cases d <;> simp_all
  rcases (show (i = 0 ∧ j = 1) ∨ (i = 0 ∧ j = 2) ∨ (i = 0 ∧ j = 3) ∨ (i = 1 ∧ j = 2) ∨ (i = 1 ∧ j = 3) ∨ (i = 2 ∧ j = 3) by omega) with ⟨rfl, rfl⟩ | ⟨rfl, rfl⟩ | ⟨rfl, rfl⟩ | ⟨rfl, rfl⟩ | ⟨rfl, rfl⟩ | ⟨rfl, rfl⟩
  · obtain ⟨h1, h2⟩ := hst hq
    exact far_spec hi h1 (fun e => by rw [sameSp_iff.2 e] at h2; cases h2)
  · exact far_both _ _
  · exact far_both _ _
  · exact far_both _ _
  · exact far_both _ _
  · obtain ⟨h1, h2⟩ := hst hq
    exact far_set hi h1 (fun e => by rw [sameB_iff.2 e] at h2; cases h2)
theorem spec_diff {s t : Sp} (h : sameSp s t = false) : (s.nodes == t.nodes) = false ∨ ((s.nodes == t.nodes) = true ∧ ((s.cores == t.cores) = false ∨ ((s.cores == t.cores) = true ∧ ((s.gpus == t.gpus) = false ∨ ((s.gpus == t.gpus) = true ∧ ((s.tag.toList == t.tag.toList) = false ∨ ((s.tag.toList == t.tag.toList) = true ∧ ((s.whole == t.whole) = false ∨ ((s.whole == t.whole) = true ∧ ((s.long == t.long) = false ∨ ((s.long == t.long) = true ∧ (s.prio == t.prio) = false))))))))))) := by
  unfold sameSp at h
  generalize (s.nodes == t.nodes) = b0 at *
  generalize (s.cores == t.cores) = b1 at *
  generalize (s.gpus == t.gpus) = b2 at *
  generalize (s.tag.toList == t.tag.toList) = b3 at *
  generalize (s.whole == t.whole) = b4 at *
  generalize (s.long == t.long) = b5 at *
  generalize (s.prio == t.prio) = b6 at *
  cases b0 <;> cases b1 <;> cases b2 <;> cases b3 <;> cases b4 <;> cases b5 <;> cases b6 <;> simp_all
theorem run_ixS_0 (W : World) (x0 x1 x2 y0 y1 y2 x5 x6 y5 y6 : Int) (x3 y3 : ByteArray) (x4 y4 : Bool) : (Instr.index 51 (.agg #[.int .i64 x0, .int .i64 x1, .int .i64 x2, .string x3, .bool x4, .int .i64 x5, .int .i64 x6, .int .i64 y0, .int .i64 y1, .int .i64 y2, .string y3, .bool y4, .int .i64 y5, .int .i64 y6]) (.int .i64 0)).run Try.prog W = .ok (.agg #[.int .i64 x0, .int .i64 x1, .int .i64 x2, .string x3, .bool x4, .int .i64 x5, .int .i64 x6]) W := by
  simp [Instr.index, run_underlying Try.underlying51, asIntOf, part, isAgg, run_underlying Try.underlying23, Try.sizeOf23]
theorem run_ixS_1 (W : World) (x0 x1 x2 y0 y1 y2 x5 x6 y5 y6 : Int) (x3 y3 : ByteArray) (x4 y4 : Bool) : (Instr.index 51 (.agg #[.int .i64 x0, .int .i64 x1, .int .i64 x2, .string x3, .bool x4, .int .i64 x5, .int .i64 x6, .int .i64 y0, .int .i64 y1, .int .i64 y2, .string y3, .bool y4, .int .i64 y5, .int .i64 y6]) (.int .i64 1)).run Try.prog W = .ok (.agg #[.int .i64 y0, .int .i64 y1, .int .i64 y2, .string y3, .bool y4, .int .i64 y5, .int .i64 y6]) W := by
  simp [Instr.index, run_underlying Try.underlying51, asIntOf, part, isAgg, run_underlying Try.underlying23, Try.sizeOf23]
theorem run_ixI_0 (W : World) (A A2 : Option Addr) (n c n2 c2 : Nat) : (Instr.index 52 (.agg #[.slice A n c, .slice A2 n2 c2]) (.int .i64 0)).run Try.prog W = .ok (.slice A n c) W := by
  simp [Instr.index, run_underlying Try.underlying52, asIntOf, part, isAgg, run_underlying Try.underlying24, Try.sizeOf24]
theorem run_ixI_1 (W : World) (A A2 : Option Addr) (n c n2 c2 : Nat) : (Instr.index 52 (.agg #[.slice A n c, .slice A2 n2 c2]) (.int .i64 1)).run Try.prog W = .ok (.slice A2 n2 c2) W := by
  simp [Instr.index, run_underlying Try.underlying52, asIntOf, part, isAgg, run_underlying Try.underlying24, Try.sizeOf24]

set_option maxRecDepth 100000 in
set_option maxHeartbeats 16000000 in
theorem codeApart_main (H : CodeOk) (s t : Sp) (A : Option Addr) (n c : Nat) (a : List Int) (A2 : Option Addr) (n2 c2 : Nat) (b : List Int) (w : World) (hs : SAsk s) (ht : SAsk t) (hl1 : LAsk w A n c a) (hl2 : LAsk w A2 n2 c2 b) (hG : Glob w) :
    Calls Try.prog 6 #[.agg #[.int .i64 s.nodes, .int .i64 s.cores, .int .i64 s.gpus, .string s.tag, .bool s.whole, .int .i64 s.long, .int .i64 s.prio], .agg #[.int .i64 t.nodes, .int .i64 t.cores, .int .i64 t.gpus, .string t.tag, .bool t.whole, .int .i64 t.long, .int .i64 t.prio], .slice A n c, .slice A2 n2 c2] w fun e w' => e = .returned (.bool true) ∧ Below w.heap.size w w' := by
  obtain ⟨W, hW⟩ : ∃ W, W = (w.alloc (spO s)).alloc (spO t) := ⟨_, rfl⟩
  have BS : Hid (BoxS W w.heap.size s) := Lib.hid (by rw [hW]; exact (box_new w s).alloc _)
  have BT : Hid (BoxS W (w.heap.size + 1) t) := Lib.hid (by rw [hW]; have := box_new (w.alloc (spO s)) t; simpa using this)
  have hb0 : Below w.heap.size w W := by rw [hW]; exact ((Below.refl _ _).alloc (Nat.le_refl _) _).alloc (by simp) _
  have HB := Lib.hid hb0
  have HG := Lib.hid (hG.next hb0)
  have HXs := Lib.hid hs
  have HXt := Lib.hid ht
  have HL := Lib.hid (hl1.next hb0)
  have HM := Lib.hid (hl2.next hb0)
  have hd1 : decide ((300 : Int) < (n : Int)) = false := by have := hl1.few; simp; omega
  have hd2 : decide ((300 : Int) < (n2 : Int)) = false := by have := hl2.few; simp; omega
  unfold spO at hW
  clear hs ht hl1 hl2 hG hb0
  go_enter Try.func6, Try.ntmps6
  go_wp2_with fail
  rw [← hW]
  refine (awake8_any H _ HG.out).mono ?_
  rintro e w1 ⟨rfl, hb⟩
  have HB1 := Lib.hid (HB.out.trans (hb.mono HB.out.size))
  have HG1 := Lib.hid (HG.out.next hb)
  have BS1 := Lib.hid (BS.out.next hb)
  have BT1 := Lib.hid (BT.out.next hb)
  have HL1 := Lib.hid (HL.out.next hb)
  have HM1 := Lib.hid (HM.out.next hb)
  clear hW hb HB HG BS BT HL HM
  have p0 := BS1.out.c0
  have p1 := BS1.out.c1
  have p2 := BS1.out.c2
  have p3 := BS1.out.c3
  have p4 := BS1.out.c4
  have p5 := BS1.out.c5
  have p6 := BS1.out.c6
  have q0 := BT1.out.c0
  have q1 := BT1.out.c1
  have q2 := BT1.out.c2
  have q3 := BT1.out.c3
  have q4 := BT1.out.c4
  have q5 := BT1.out.c5
  have q6 := BT1.out.c6
  go_wp2
  clear p0 p1 p2 p3 p4 p5 p6 q0 q1 q2 q3 q4 q5 q6
  go_loopw [9, 33] (fun v i wr => ∃ k : Nat, k ≤ 2 ∧ i = .int .i64 k ∧ PON w1 v (apL s t a b k) wr) (fun _ i _ => 2 - (intOf i).toNat)
  case atStart => exact ⟨0, by omega, rfl, PON.nil w1⟩
  case round =>
    obtain ⟨k, hk, rfl, hpt⟩ := hrel
    have HPT := Lib.hid hpt
    clear hpt
    rcases (show k = 0 ∨ k = 1 ∨ k = 2 by omega) with rfl | rfl | rfl
    · clear hk
      have hBW := HPT.out.below
      have HG := Lib.hid (HG1.out.next hBW)
      have BS := Lib.hid (BS1.out.next hBW)
      have BT := Lib.hid (BT1.out.next hBW)
      have HL := Lib.hid (HL1.out.next hBW)
      have HM := Lib.hid (HM1.out.next hBW)
      clear hBW
      have hix := run_ixS_0 wr s.nodes s.cores s.gpus t.nodes t.cores t.gpus s.long s.prio t.long t.prio s.tag t.tag s.whole t.whole
      have hb := Below.alloc (Below.refl wr.heap.size wr) (Nat.le_refl _) (.cells #[.int .i64 s.nodes, .int .i64 s.cores, .int .i64 s.gpus, .string s.tag, .bool s.whole, .int .i64 s.long, .int .i64 s.prio] 23)
      have HPTq := Lib.hid (HPT.out.next hb)
      clear HPT
      have HPT := HPTq
      clear HPTq
      have HGq := Lib.hid (HG.out.next hb)
      clear HG
      have HG := HGq
      clear HGq
      have BSq := Lib.hid (BS.out.next hb)
      clear BS
      have BS := BSq
      clear BSq
      have BTq := Lib.hid (BT.out.next hb)
      clear BT
      have BT := BTq
      clear BTq
      have HLq := Lib.hid (HL.out.next hb)
      clear HL
      have HL := HLq
      clear HLq
      have HMq := Lib.hid (HM.out.next hb)
      clear HM
      have HM := HMq
      clear HMq
      clear hb
      cases hr : rightS s with
      | false =>
        have E := Lib.hid (show ptSpec s = ([], 1) from by unfold ptSpec; rw [if_neg (by rw [hr]; simp)])
        have HQ : Hid (apL s t a b 1 = apL s t a b 0) := Lib.hid (listOf_no (by show rightS s = false; rw [hr]))
        clear hr
        go_wp2_with fail
        refine (c8_spec H HG.out HXs.out E.out).mono ?_
        rintro e w4 ⟨⟨A4, c4, rfl, _, _⟩, hb⟩
        have HPTq := Lib.hid (HPT.out.next hb)
        clear HPT
        have HPT := HPTq
        clear HPTq
        clear hb hix
        go_wp2
        go_roundw
        case rel => exact ⟨1, by omega, by go_num, by rw [HQ.out]; exact HPT.out⟩
        case measure => simp [intOf]
      | true =>
        have E := Lib.hid (show ptSpec s = (specB s, 0) from by unfold ptSpec; rw [if_pos hr])
        have HQ : Hid (apL s t a b 1 = apL s t a b 0 ++ [specB s]) := Lib.hid (listOf_yes (by show rightS s = true; exact hr))
        have HLEN : Hid ((apL s t a b 0).length ≤ 1000) := Lib.hid (by have := listOf_len (apQ s t a b) (apP s t a b) 0; unfold apL; omega)
        clear hr
        go_wp2_with fail
        refine (c8_spec H HG.out HXs.out E.out).mono ?_
        rintro e w4 ⟨⟨A4, c4, rfl, ha4, hn4⟩, hb⟩
        have hpn := pn_new HPT.out hb ha4 hn4
        have PN4 := Lib.hid hpn
        have HPTq := Lib.hid (HPT.out.next hb)
        clear HPT
        have HPT := HPTq
        clear HPTq
        have BSq := Lib.hid (BS.out.next hb)
        clear BS
        have BS := BSq
        clear BSq
        have BTq := Lib.hid (BT.out.next hb)
        clear BT
        have BT := BTq
        clear BTq
        clear hb hix ha4 hn4 hpn
        go_wp2_with (at_builtin; refine wpList_append_P1 rfl (.tmp 53) (.tmp 55) rfl HPT.out rfl A4 _ c4 _ PN4.out rfl HLEN.out ?_; intro v5 w5 hON; refine Hid.out ?_)
        refine Lib.hid ?_
        have HON := Lib.hid hON
        clear hON
        go_wp2
        go_roundw
        case rel => exact ⟨1, by omega, by go_num, by rw [HQ.out]; exact HON.out⟩
        case measure => simp [intOf]
    · clear hk
      have hBW := HPT.out.below
      have HG := Lib.hid (HG1.out.next hBW)
      have BS := Lib.hid (BS1.out.next hBW)
      have BT := Lib.hid (BT1.out.next hBW)
      have HL := Lib.hid (HL1.out.next hBW)
      have HM := Lib.hid (HM1.out.next hBW)
      clear hBW
      have hix := run_ixS_1 wr s.nodes s.cores s.gpus t.nodes t.cores t.gpus s.long s.prio t.long t.prio s.tag t.tag s.whole t.whole
      have hb := Below.alloc (Below.refl wr.heap.size wr) (Nat.le_refl _) (.cells #[.int .i64 t.nodes, .int .i64 t.cores, .int .i64 t.gpus, .string t.tag, .bool t.whole, .int .i64 t.long, .int .i64 t.prio] 23)
      have HPTq := Lib.hid (HPT.out.next hb)
      clear HPT
      have HPT := HPTq
      clear HPTq
      have HGq := Lib.hid (HG.out.next hb)
      clear HG
      have HG := HGq
      clear HGq
      have BSq := Lib.hid (BS.out.next hb)
      clear BS
      have BS := BSq
      clear BSq
      have BTq := Lib.hid (BT.out.next hb)
      clear BT
      have BT := BTq
      clear BTq
      have HLq := Lib.hid (HL.out.next hb)
      clear HL
      have HL := HLq
      clear HLq
      have HMq := Lib.hid (HM.out.next hb)
      clear HM
      have HM := HMq
      clear HMq
      clear hb
      cases hr : rightS t with
      | false =>
        have E := Lib.hid (show ptSpec t = ([], 1) from by unfold ptSpec; rw [if_neg (by rw [hr]; simp)])
        have HQ : Hid (apL s t a b 2 = apL s t a b 1) := Lib.hid (listOf_no (by show (rightS t && !sameSp s t) = false; rw [hr]; rfl))
        clear hr
        go_wp2_with fail
        refine (c8_spec H HG.out HXt.out E.out).mono ?_
        rintro e w4 ⟨⟨A4, c4, rfl, _, _⟩, hb⟩
        have HPTq := Lib.hid (HPT.out.next hb)
        clear HPT
        have HPT := HPTq
        clear HPTq
        clear hb hix
        go_wp2
        go_roundw
        case rel => exact ⟨2, by omega, by go_num, by rw [HQ.out]; exact HPT.out⟩
        case measure => simp [intOf]
      | true =>
        cases hss : sameSp s t with
        | false =>
          have hdf := spec_diff hss
          rcases hdf with d0 | ⟨d0, d1 | ⟨d1, d2 | ⟨d2, d3 | ⟨d3, d4 | ⟨d4, d5 | ⟨d5, d6⟩⟩⟩⟩⟩⟩
          all_goals
            have E := Lib.hid (show ptSpec t = (specB t, 0) from by unfold ptSpec; rw [if_pos hr])
            have HQ : Hid (apL s t a b 2 = apL s t a b 1 ++ [specB t]) := Lib.hid (listOf_yes (by show (rightS t && !sameSp s t) = true; rw [hr, hss]; rfl))
            have HSS := Lib.hid hss
            clear hss
            have HLEN : Hid ((apL s t a b 1).length ≤ 1000) := Lib.hid (by have := listOf_len (apQ s t a b) (apP s t a b) 1; unfold apL; omega)
            clear hr
            go_wp2_with fail
            refine (c8_spec H HG.out HXt.out E.out).mono ?_
            rintro e w4 ⟨⟨A4, c4, rfl, ha4, hn4⟩, hb⟩
            have hpn := pn_new HPT.out hb ha4 hn4
            have PN4 := Lib.hid hpn
            have HPTq := Lib.hid (HPT.out.next hb)
            clear HPT
            have HPT := HPTq
            clear HPTq
            have BSq := Lib.hid (BS.out.next hb)
            clear BS
            have BS := BSq
            clear BSq
            have BTq := Lib.hid (BT.out.next hb)
            clear BT
            have BT := BTq
            clear BTq
            clear hb hix ha4 hn4 hpn
            have p0 := BS.out.c0
            have p1 := BS.out.c1
            have p2 := BS.out.c2
            have p3 := BS.out.c3
            have p4 := BS.out.c4
            have p5 := BS.out.c5
            have p6 := BS.out.c6
            have q0 := BT.out.c0
            have q1 := BT.out.c1
            have q2 := BT.out.c2
            have q3 := BT.out.c3
            have q4 := BT.out.c4
            have q5 := BT.out.c5
            have q6 := BT.out.c6
            go_wp2_with (at_builtin; refine wpList_append_P1 rfl (.tmp 53) (.tmp 55) rfl HPT.out rfl A4 _ c4 _ PN4.out rfl HLEN.out ?_; intro v5 w5 hON; refine Hid.out ?_)
            refine Lib.hid ?_
            have HON := Lib.hid hON
            clear hON
            go_wp2
            go_roundw
            case rel => exact ⟨2, by omega, by go_num, by rw [HQ.out]; exact HON.out⟩
            case measure => simp [intOf]
        | true =>
          have hst := sameSp_iff.1 hss
          have d0 : (s.nodes == t.nodes) = true := by rw [hst]; simp
          have d1 : (s.cores == t.cores) = true := by rw [hst]; simp
          have d2 : (s.gpus == t.gpus) = true := by rw [hst]; simp
          have d3 : (s.tag.toList == t.tag.toList) = true := by rw [hst]; simp
          have d4 : (s.whole == t.whole) = true := by rw [hst]; simp
          have d5 : (s.long == t.long) = true := by rw [hst]; simp
          have d6 : (s.prio == t.prio) = true := by rw [hst]; simp
          clear hst
          have E := Lib.hid (show ptSpec t = (specB t, 0) from by unfold ptSpec; rw [if_pos hr])
          have HQ : Hid (apL s t a b 2 = apL s t a b 1) := Lib.hid (listOf_no (by show (rightS t && !sameSp s t) = false; rw [hr, hss]; rfl))
          have HSS := Lib.hid hss
          clear hss
          have HLEN : Hid ((apL s t a b 1).length ≤ 1000) := Lib.hid (by have := listOf_len (apQ s t a b) (apP s t a b) 1; unfold apL; omega)
          clear hr
          go_wp2_with fail
          refine (c8_spec H HG.out HXt.out E.out).mono ?_
          rintro e w4 ⟨⟨A4, c4, rfl, ha4, hn4⟩, hb⟩
          have hpn := pn_new HPT.out hb ha4 hn4
          have PN4 := Lib.hid hpn
          have HPTq := Lib.hid (HPT.out.next hb)
          clear HPT
          have HPT := HPTq
          clear HPTq
          have BSq := Lib.hid (BS.out.next hb)
          clear BS
          have BS := BSq
          clear BSq
          have BTq := Lib.hid (BT.out.next hb)
          clear BT
          have BT := BTq
          clear BTq
          clear hb hix ha4 hn4 hpn
          have p0 := BS.out.c0
          have p1 := BS.out.c1
          have p2 := BS.out.c2
          have p3 := BS.out.c3
          have p4 := BS.out.c4
          have p5 := BS.out.c5
          have p6 := BS.out.c6
          have q0 := BT.out.c0
          have q1 := BT.out.c1
          have q2 := BT.out.c2
          have q3 := BT.out.c3
          have q4 := BT.out.c4
          have q5 := BT.out.c5
          have q6 := BT.out.c6
          go_wp2
          go_roundw
          case rel => exact ⟨2, by omega, by go_num, by rw [HQ.out]; exact HPT.out⟩
          case measure => simp [intOf]
    · clear hk
      go_wp2
      go_loopw [9, 61] (fun v i wr => ∃ k : Nat, k ≤ 2 ∧ i = .int .i64 k ∧ PON w1 v (apL s t a b (k + 2)) wr) (fun _ i _ => 2 - (intOf i).toNat)
      case atStart => exact ⟨0, by omega, rfl, HPT.out⟩
      case round =>
        clear HPT
        obtain ⟨k, hk, rfl, hpt⟩ := hrel
        have HPT := Lib.hid hpt
        clear hpt
        rcases (show k = 0 ∨ k = 1 ∨ k = 2 by omega) with rfl | rfl | rfl
        · clear hk
          have hBW := HPT.out.below
          have HG := Lib.hid (HG1.out.next hBW)
          have BS := Lib.hid (BS1.out.next hBW)
          have BT := Lib.hid (BT1.out.next hBW)
          have HL := Lib.hid (HL1.out.next hBW)
          have HM := Lib.hid (HM1.out.next hBW)
          clear hBW
          have hix := run_ixI_0 wr A A2 n c n2 c2
          cases hr : rightB a with
          | false =>
            have E := Lib.hid (show ptSet a = ([], 1) from by unfold ptSet; rw [if_neg (by rw [hr]; simp)])
            have HQ : Hid (apL s t a b 3 = apL s t a b 2) := Lib.hid (listOf_no (by show rightB a = false; rw [hr]))
            clear hr
            go_wp2_with fail
            refine (c8_set H HG.out HL.out E.out).mono ?_
            rintro e w4 ⟨⟨A4, c4, rfl, _, _⟩, hb⟩
            have HPTq := Lib.hid (HPT.out.next hb)
            clear HPT
            have HPT := HPTq
            clear HPTq
            clear hb hix
            go_wp2
            refine ⟨?_, ?_⟩
            · repeat apply Exists.intro
              refine And.intro (b := _ = _) ?_ ?_
              rotate_left
              · rfl
              exact ⟨1, by omega, by go_num, by rw [HQ.out]; exact HPT.out⟩
            · simp [intOf]
          | true =>
            have E := Lib.hid (show ptSet a = (setB a, 0) from by unfold ptSet; rw [if_pos hr])
            have HQ : Hid (apL s t a b 3 = apL s t a b 2 ++ [setB a]) := Lib.hid (listOf_yes (by show rightB a = true; exact hr))
            have HLEN : Hid ((apL s t a b 2).length ≤ 1000) := Lib.hid (by have := listOf_len (apQ s t a b) (apP s t a b) 2; unfold apL; omega)
            clear hr
            go_wp2_with fail
            refine (c8_set H HG.out HL.out E.out).mono ?_
            rintro e w4 ⟨⟨A4, c4, rfl, ha4, hn4⟩, hb⟩
            have hpn := pn_new HPT.out hb ha4 hn4
            have PN4 := Lib.hid hpn
            have HPTq := Lib.hid (HPT.out.next hb)
            clear HPT
            have HPT := HPTq
            clear HPTq
            have HLq := Lib.hid (HL.out.next hb)
            clear HL
            have HL := HLq
            clear HLq
            have HMq := Lib.hid (HM.out.next hb)
            clear HM
            have HM := HMq
            clear HMq
            clear hb hix ha4 hn4 hpn
            go_wp2_with (at_builtin; refine wpList_append_P1 rfl (.tmp 82) (.tmp 84) rfl HPT.out rfl A4 _ c4 _ PN4.out rfl HLEN.out ?_; intro v5 w5 hON; refine Hid.out ?_)
            refine Lib.hid ?_
            have HON := Lib.hid hON
            clear hON
            go_wp2
            refine ⟨?_, ?_⟩
            · repeat apply Exists.intro
              refine And.intro (b := _ = _) ?_ ?_
              rotate_left
              · rfl
              exact ⟨1, by omega, by go_num, by rw [HQ.out]; exact HON.out⟩
            · simp [intOf]
        · clear hk
          have hBW := HPT.out.below
          have HG := Lib.hid (HG1.out.next hBW)
          have BS := Lib.hid (BS1.out.next hBW)
          have BT := Lib.hid (BT1.out.next hBW)
          have HL := Lib.hid (HL1.out.next hBW)
          have HM := Lib.hid (HM1.out.next hBW)
          clear hBW
          have hix := run_ixI_1 wr A A2 n c n2 c2
          cases hr : rightB b with
          | false =>
            have E := Lib.hid (show ptSet b = ([], 1) from by unfold ptSet; rw [if_neg (by rw [hr]; simp)])
            have HQ : Hid (apL s t a b 4 = apL s t a b 3) := Lib.hid (listOf_no (by show (rightB b && !sameB a b) = false; rw [hr]; rfl))
            clear hr
            go_wp2_with fail
            refine (c8_set H HG.out HM.out E.out).mono ?_
            rintro e w4 ⟨⟨A4, c4, rfl, _, _⟩, hb⟩
            have HPTq := Lib.hid (HPT.out.next hb)
            clear HPT
            have HPT := HPTq
            clear HPTq
            clear hb hix
            go_wp2
            refine ⟨?_, ?_⟩
            · repeat apply Exists.intro
              refine And.intro (b := _ = _) ?_ ?_
              rotate_left
              · rfl
              exact ⟨2, by omega, by go_num, by rw [HQ.out]; exact HPT.out⟩
            · simp [intOf]
          | true =>
            cases hss : sameB a b with
            | false =>
              have E := Lib.hid (show ptSet b = (setB b, 0) from by unfold ptSet; rw [if_pos hr])
              have HQ : Hid (apL s t a b 4 = apL s t a b 3 ++ [setB b]) := Lib.hid (listOf_yes (by show (rightB b && !sameB a b) = true; rw [hr, hss]; rfl))
              have HSS := Lib.hid hss
              clear hss
              have HLEN : Hid ((apL s t a b 3).length ≤ 1000) := Lib.hid (by have := listOf_len (apQ s t a b) (apP s t a b) 3; unfold apL; omega)
              clear hr
              go_wp2_with fail
              refine (c8_set H HG.out HM.out E.out).mono ?_
              rintro e w4 ⟨⟨A4, c4, rfl, ha4, hn4⟩, hb⟩
              have hpn := pn_new HPT.out hb ha4 hn4
              have PN4 := Lib.hid hpn
              have HPTq := Lib.hid (HPT.out.next hb)
              clear HPT
              have HPT := HPTq
              clear HPTq
              have HLq := Lib.hid (HL.out.next hb)
              clear HL
              have HL := HLq
              clear HLq
              have HMq := Lib.hid (HM.out.next hb)
              clear HM
              have HM := HMq
              clear HMq
              clear hb hix ha4 hn4 hpn
              go_wp2_with fail
              refine (ri_same HL.out.reads HM.out.reads (ml300 HL.out.few) (ml300 HM.out.few) HSS.out).mono ?_
              rintro e w5 ⟨rfl, hb⟩
              have HPTq := Lib.hid (HPT.out.next hb)
              clear HPT
              have HPT := HPTq
              clear HPTq
              have PN4q := Lib.hid (PN4.out.next hb)
              clear PN4
              have PN4 := PN4q
              clear PN4q
              clear hb
              go_wp2_with (at_builtin; refine wpList_append_P1 rfl (.tmp 82) (.tmp 84) rfl HPT.out rfl A4 _ c4 _ PN4.out rfl HLEN.out ?_; intro v5 w5 hON; refine Hid.out ?_)
              refine Lib.hid ?_
              have HON := Lib.hid hON
              clear hON
              go_wp2
              refine ⟨?_, ?_⟩
              · repeat apply Exists.intro
                refine And.intro (b := _ = _) ?_ ?_
                rotate_left
                · rfl
                exact ⟨2, by omega, by go_num, by rw [HQ.out]; exact HON.out⟩
              · simp [intOf]
            | true =>
              have E := Lib.hid (show ptSet b = (setB b, 0) from by unfold ptSet; rw [if_pos hr])
              have HQ : Hid (apL s t a b 4 = apL s t a b 3) := Lib.hid (listOf_no (by show (rightB b && !sameB a b) = false; rw [hr, hss]; rfl))
              have HSS := Lib.hid hss
              clear hss
              have HLEN : Hid ((apL s t a b 3).length ≤ 1000) := Lib.hid (by have := listOf_len (apQ s t a b) (apP s t a b) 3; unfold apL; omega)
              clear hr
              go_wp2_with fail
              refine (c8_set H HG.out HM.out E.out).mono ?_
              rintro e w4 ⟨⟨A4, c4, rfl, ha4, hn4⟩, hb⟩
              have hpn := pn_new HPT.out hb ha4 hn4
              have PN4 := Lib.hid hpn
              have HPTq := Lib.hid (HPT.out.next hb)
              clear HPT
              have HPT := HPTq
              clear HPTq
              have HLq := Lib.hid (HL.out.next hb)
              clear HL
              have HL := HLq
              clear HLq
              have HMq := Lib.hid (HM.out.next hb)
              clear HM
              have HM := HMq
              clear HMq
              clear hb hix ha4 hn4 hpn
              go_wp2_with fail
              refine (ri_same HL.out.reads HM.out.reads (ml300 HL.out.few) (ml300 HM.out.few) HSS.out).mono ?_
              rintro e w5 ⟨rfl, hb⟩
              have HPTq := Lib.hid (HPT.out.next hb)
              clear HPT
              have HPT := HPTq
              clear HPTq
              have PN4q := Lib.hid (PN4.out.next hb)
              clear PN4
              have PN4 := PN4q
              clear PN4q
              clear hb
              go_wp2
              refine ⟨?_, ?_⟩
              · repeat apply Exists.intro
                refine And.intro (b := _ = _) ?_ ?_
                rotate_left
                · rfl
                exact ⟨2, by omega, by go_num, by rw [HQ.out]; exact HPT.out⟩
              · simp [intOf]
        · clear hk
          obtain ⟨Ap, cp, rfl, hpa⟩ := HPT.out.pask (by have := listOf_len (apQ s t a b) (apP s t a b) 4; show (listOf _ _ 4).length ≤ 1000; omega)
          have HPA := Lib.hid hpa
          have HFAR := Lib.hid (fun i k hi hk h => far_apart (ap4_far s t a b) (i := i) (k := k) hi hk h)
          have HB2 := Lib.hid (HB1.out.trans (HPT.out.below.mono HB1.out.size))
          generalize hps : apL s t a b (2 + 2) = ps at *
          generalize hN : ps.length = N at *
          have hNM := HPA.out.few
          unfold maxLen at hNM
          clear hpa HPT hps
          go_wp2
          go_loopw [18] (fun i wx => ∃ k : Nat, k ≤ N ∧ i = .int .i64 k ∧ PAsk wx Ap N cp ps ∧ Below w.heap.size w wx) (fun i _ => N - (intOf i).toNat)
          case atStart => exact ⟨0, Nat.zero_le _, rfl, HPA.out, HB2.out⟩
          case round =>
            clear HPA HB2
            obtain ⟨k, hk, rfl, hpx, hbx⟩ := hrel
            have HPA := Lib.hid hpx
            have HB2 := Lib.hid hbx
            clear hbx hpx
            by_cases hlt : k < N
            · go_wp2
              go_loopw [19] (fun i wx => ∃ m : Nat, m ≤ N ∧ i = .int .i64 m ∧ PAsk wx Ap N cp ps ∧ Below w.heap.size w wx) (fun i _ => N - (intOf i).toNat)
              case atStart => exact ⟨0, Nat.zero_le _, rfl, HPA.out, HB2.out⟩
              case round =>
                clear HPA HB2
                obtain ⟨m, hm, rfl, hpx, hbx⟩ := hrel
                have HPA := Lib.hid hpx
                have HB2 := Lib.hid hbx
                clear hbx hpx
                by_cases hlm : m < N
                · obtain ⟨b1, o1, A1, m1, c1, e1, _, hc1, hp1⟩ := HPA.out.one hlt
                  obtain ⟨b2, o2, A3, m3, c3, e2, _, hc2, hp2⟩ := HPA.out.one hlm
                  subst e1
                  injection e2 with e2
                  injection e2 with e3 e4
                  subst e3 e4
                  have hz1 : (k : Int) < (N : Int) := by omega
                  have hz2 : (m : Int) < (N : Int) := by omega
                  by_cases hkm : k = m
                  · subst hkm
                    clear hp1 hp2
                    go_wp2
                    go_quiet (fail)
                    go_wp2
                    refine ⟨?_, ?_⟩
                    · repeat apply Exists.intro
                      refine And.intro ?_ ?_
                      rotate_left
                      · rfl
                      exact ⟨k + 1, by omega, by go_num, HPA.out.next (bel_drew _ _), bel_more HB2.out _⟩
                    · simp [intOf]; omega
                  · have hne : ((k : Int) == (m : Int)) = false := by simp; omega
                    have hne1 : ((k : Int) != (m : Int)) = true := by simp; omega
                    have hne2 : (k == m) = false := by simp; omega
                    have hne3 : (!(k == m)) = true := by rw [hne2]; rfl
                    have hne4 : (!((k : Int) == (m : Int))) = true := by rw [hne]; rfl
                    have hne5 : (k != m) = true := by simp; omega
                    have hnf := HFAR.out k m (by omega) (by omega) hkm
                    have hl1 := hp1.reads.len
                    have hl2 := hp2.reads.len
                    have hcap3 := hp2.cap
                    by_cases hle : m1 ≤ m3
                    · have hled : decide ((m1 : Int) ≤ (m3 : Int)) = true := by simp; omega
                      have hled2 : decide (m1 ≤ m3) = true := by simp; omega
                      have hmc : m1 ≤ c3 := by omega
                      have hmc2 : (m1 : Int) ≤ (c3 : Int) := by omega
                      have hmc3 : decide ((c3 : Int) < (m1 : Int)) = false := by simp; omega
                      have hmc4 : decide (c3 < m1) = false := by simp; omega
                      have s1 := fun q => string_of (c := c1) (hp1.reads.drewN q)
                      have s2 := fun q => string_of (c := c3) ((hp2.reads.front hle).drewN q)
                      unfold NoPre at hnf
                      rw [hl1] at hnf
                      obtain ⟨p, hp⟩ : ∃ p, ps.getD k [] = p := ⟨_, rfl⟩
                      obtain ⟨q, hq⟩ : ∃ q, (ps.getD m []).take m1 = q := ⟨_, rfl⟩
                      rw [hp] at s1 hnf
                      rw [hq] at s2 hnf
                      have hbl : (p == q) = false := beq_eq_false_iff_ne.2 hnf
                      clear hp1 hp2 hl1 hl2 hp hq hnf hle
                      go_wp2
                      go_quiet (fail)
                      go_wp2
                      refine ⟨?_, ?_⟩
                      · repeat apply Exists.intro
                        refine And.intro ?_ ?_
                        rotate_left
                        · rfl
                        exact ⟨m + 1, by omega, by go_num, HPA.out.next (bel_drew _ _), bel_more HB2.out _⟩
                      · simp [intOf]; omega
                    · have hled : decide ((m1 : Int) ≤ (m3 : Int)) = false := by simp; omega
                      have hled2 : decide (m1 ≤ m3) = false := by simp; omega
                      clear hp1 hp2 hl1 hl2 hnf
                      go_wp2
                      go_quiet (fail)
                      go_wp2
                      refine ⟨?_, ?_⟩
                      · repeat apply Exists.intro
                        refine And.intro ?_ ?_
                        rotate_left
                        · rfl
                        exact ⟨m + 1, by omega, by go_num, HPA.out.next (bel_drew _ _), bel_more HB2.out _⟩
                      · simp [intOf]; omega
                · have hmn : m = N := by omega
                  go_wp2
                  go_roundw
                  case rel => exact ⟨k + 1, by omega, by go_num, HPA.out, HB2.out⟩
                  case measure => simp [intOf]; omega
            · have hkn : k = N := by omega
              go_wp2
              go_ret
              exact ⟨rfl, HB2.out⟩

set_option maxRecDepth 100000 in
set_option maxHeartbeats 4000000 in
theorem codeApart_big (H : CodeOk) (s t : Sp) (A : Option Addr) (n c : Nat) (A2 : Option Addr) (n2 c2 : Nat) (w : World) (hn1 : n ≤ maxLen) (hn2 : n2 ≤ maxLen) (hbig : 300 < n ∨ (n ≤ 300 ∧ 300 < n2)) (hG : Glob w) :
    Calls Try.prog 6 #[.agg #[.int .i64 s.nodes, .int .i64 s.cores, .int .i64 s.gpus, .string s.tag, .bool s.whole, .int .i64 s.long, .int .i64 s.prio], .agg #[.int .i64 t.nodes, .int .i64 t.cores, .int .i64 t.gpus, .string t.tag, .bool t.whole, .int .i64 t.long, .int .i64 t.prio], .slice A n c, .slice A2 n2 c2] w fun e w' => e = .returned (.bool true) ∧ Below w.heap.size w w' := by
  obtain ⟨W, hW⟩ : ∃ W, W = (w.alloc (spO s)).alloc (spO t) := ⟨_, rfl⟩
  have hb0 : Below w.heap.size w W := by rw [hW]; exact ((Below.refl _ _).alloc (Nat.le_refl _) _).alloc (by simp) _
  have HB := Lib.hid hb0
  have HG := Lib.hid (hG.next hb0)
  unfold maxLen at hn1 hn2
  unfold spO at hW
  clear hG hb0
  rcases hbig with h | ⟨h, h'⟩
  · have hd1 : decide ((300 : Int) < (n : Int)) = true := by simp; omega
    go_enter Try.func6, Try.ntmps6
    go_wp2_with fail
    rw [← hW]
    refine (awake8_any H _ HG.out).mono ?_
    rintro e w1 ⟨rfl, hb⟩
    have HB1 := Lib.hid (HB.out.trans (hb.mono HB.out.size))
    clear hb
    go_wp2
    go_ret
    exact ⟨rfl, HB1.out⟩
  · have hd1 : decide ((300 : Int) < (n : Int)) = false := by simp; omega
    have hd2 : decide ((300 : Int) < (n2 : Int)) = true := by simp; omega
    go_enter Try.func6, Try.ntmps6
    go_wp2_with fail
    rw [← hW]
    refine (awake8_any H _ HG.out).mono ?_
    rintro e w1 ⟨rfl, hb⟩
    have HB1 := Lib.hid (HB.out.trans (hb.mono HB.out.size))
    clear hb
    go_wp2
    go_ret
    exact ⟨rfl, HB1.out⟩

theorem codeApart_walk (H : CodeOk) (s t : Sp) (A : Option Addr) (n c : Nat) (a : List Int) (A2 : Option Addr) (n2 c2 : Nat) (b : List Int) (w : World) (hs : SAsk s) (ht : SAsk t) (hr1 : RI w w.heap.size A n a) (hj1 : ∀ x ∈ a, I64 x) (hnil1 : A = none → c = 0) (hnc1 : n ≤ c) (hn1 : n ≤ maxLen) (hr2 : RI w w.heap.size A2 n2 b) (hj2 : ∀ x ∈ b, I64 x) (hnil2 : A2 = none → c2 = 0) (hnc2 : n2 ≤ c2) (hn2 : n2 ≤ maxLen) (hG : Glob w) :
    Calls Try.prog 6 #[.agg #[.int .i64 s.nodes, .int .i64 s.cores, .int .i64 s.gpus, .string s.tag, .bool s.whole, .int .i64 s.long, .int .i64 s.prio], .agg #[.int .i64 t.nodes, .int .i64 t.cores, .int .i64 t.gpus, .string t.tag, .bool t.whole, .int .i64 t.long, .int .i64 t.prio], .slice A n c, .slice A2 n2 c2] w fun e w' => e = .returned (.bool true) ∧ Below w.heap.size w w' := by
  by_cases h1 : n ≤ 300
  · by_cases h2 : n2 ≤ 300
    · exact codeApart_main H s t A n c a A2 n2 c2 b w hs ht ⟨hr1, hnil1, hnc1, h1, hj1⟩ ⟨hr2, hnil2, hnc2, h2, hj2⟩ hG
    · exact codeApart_big H s t A n c A2 n2 c2 w hn1 hn2 (.inr ⟨h1, by omega⟩) hG
  · exact codeApart_big H s t A n c A2 n2 c2 w hn1 hn2 (.inl (by omega)) hG

end Go.Proofs.Ytlpogkcfjbabaaa
