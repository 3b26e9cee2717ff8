/- The statement SetRuns, as a walk: of any three small numbers the call returns true and keeps all that was there. -/
import Derived.Test.YtgifhbjcelkjkaaDoorSetKit2
import Derived.Test.YtgifhbjcelkjkaaDoorSetWhich
namespace Go.Proofs.YtgifhbjcelkjkaaDoor
open Go.RowKit Go.Shelf

/-- the numbers from a up to k, k not counted in -/
def upto (a k : Nat) : List Int := (List.range' a (k - a)).map fun (n : Nat) => (n : Int)
theorem upto_nil (a : Nat) : upto a a = [] := by unfold upto; simp
theorem upto_snoc {a k : Nat} (h : a ≤ k) : upto a (k + 1) = upto a k ++ [(k : Int)] := by
  unfold upto
  rw [show k + 1 - a = (k - a) + 1 by omega, List.range'_concat, List.map_append]
  simp
  omega
theorem upto_len (a k : Nat) : (upto a k).length = k - a := by unfold upto; simp
theorem upto_range (a b : Nat) : upto a (b + 1) = rangeL a b := rfl

/-- where the loop stands -/
def RunsRel (lo hi : Nat) (w : World) (v i : Value) (wr : World) : Prop :=
  ∃ k : Nat, lo ≤ k ∧ k ≤ hi + 1 ∧ i = .int .i64 k ∧ wr.ownsRow w.heap.size 3 1 v (upto lo k).length ((upto lo k).map (Value.int .i64)) ∧ Below w.heap.size w wr
theorem runs_step {lo hi : Nat} {w wr w1 : World} {v v' : Value} {k : Nat} {o : Obj} (hlo : lo ≤ k) (hk : k ≤ hi) (hb : Below w.heap.size w wr)
    (hown : wr.ownsRow w.heap.size 3 1 v (upto lo k).length ((upto lo k).map (Value.int .i64)))
    (hown' : w1.ownsRow w.heap.size 3 1 v' ((upto lo k).length + 1) ((upto lo k).map (Value.int .i64) ++ [.int .i64 (k : Int)])) (hgrow : (wr.alloc o).grownBy w1 v.ownBlock) :
    RunsRel lo hi w v' (.int .i64 ((k : Int) + 1)) w1 := by
  refine ⟨k + 1, by omega, by omega, by go_num, ?_, (hb.alloc hb.size o).grown hgrow (by have := hb.size; simp; omega) (fun j hj => (hown.lt j hj).1)⟩
  rw [upto_snoc hlo, List.length_append, List.map_append]
  exact hown'

theorem right_rangeL {a b : Nat} (hb : b ≤ 255) : rightB (rangeL a b) = true := by
  have := right_range _ a b [] rfl hb rfl (by simp)
  rwa [List.append_nil] at this
theorem right_one {k : Nat} (hk : k < 256) : rightB [(k : Int)] = true := right_cons (by omega) rfl (by simp)
theorem has_of {l : List Int} {n : Int} (h : rightB l = true) (hn : n ∈ l) : hasB l n = true := by unfold hasB; rw [h]; simpa using hn
theorem has_not {l : List Int} {n : Int} (hn : n ∉ l) : hasB l n = false := by unfold hasB; simp [hn]
theorem back_one {l : List Int} {k : Nat} (h : rightB l = true) (hk : k < 256) : joinL (lessL l [(k : Int)]) (meetL l [(k : Int)]) = l := by
  rw [join_comm (right_lessL _ _) (right_meetL _ _)]
  exact join_back h (right_one hk)
theorem shows {xs : List Int} (h : rightB xs = true) : (ShowB xs).size ≤ 8192 ∧ parseL (ShowB xs).data.toList = (xs, 0) := by
  unfold ShowB
  rw [if_pos h]
  have := show_length h
  exact ⟨by show (showL xs).toArray.size ≤ 8192; simp; omega, parse_show h⟩

set_option maxRecDepth 100000 in
set_option maxHeartbeats 8000000 in
theorem runs_main (a b k lo hi : Nat) (w : World) (ha : a < 256) (hb : b < 256) (hk : k < 256) (hlo : min (a : Int) b = lo) (hhi : max (a : Int) b = hi) (hg : GlobOk w) :
    Calls Tryd.prog 7 #[.int .u8 a, .int .u8 b, .int .u8 k] w fun e w' => e = .returned (.bool true) ∧ Below w.heap.size w w' := by
  have hhi' : hi < 256 := by omega
  have hlh : lo ≤ hi := by omega
  have HIN : Hid ((a : Int) ∈ rangeL lo hi) := Lib.hid (mem_rangeL.2 (by omega))
  have HNO : Hid ((hi : Int) + 1 ∉ rangeL lo hi) := Lib.hid (fun h => by have := mem_rangeL.1 h; omega)
  have HR : Hid (rightB (rangeL lo hi) = true) := Lib.hid (right_rangeL (by omega))
  have HND : Hid ((k : Int) ∉ lessL (rangeL lo hi) [(k : Int)]) := Lib.hid (fun h => ((mem_lessL HR.out (right_one hk) _).1 h).2 (by simp))
  have HK := Lib.hid hk
  have HG0 := Lib.hid hg
  clear hg
  obtain ⟨i0, hi0, hz0, hz1, hz2⟩ := info_parts int_info
  go_enter Tryd.func7, Tryd.ntmps7
  go_wp2_with fail
  refine (awake_any _ HG0.out).mono ?_
  rintro e w1 ⟨rfl, hb1⟩
  go_wp2
  go_loopw [9, 10] (fun v i wr => RunsRel lo hi w v i wr) (fun _ i _ => 257 - (intOf i).toNat)
  case atStart => exact ⟨lo, Nat.le_refl _, by omega, rfl, by rw [upto_nil]; exact World.ownsRow_nil _ _ _ _, hb1⟩
  case round =>
    obtain ⟨n, hn1, hn2, rfl, hown, hbr⟩ := hrel
    clear hb1
    by_cases hle : n ≤ hi
    · have hlen := upto_len lo n
      have hstep := Lib.hid (fun w1 v' o x y => @runs_step lo hi w wr w1 _ v' n o hn1 hle hbr hown x y)
      clear HIN HNO HR HND
      generalize upto lo n = L at *
      clear hlo hhi
      go_wp2_with (at_builtin; refine wpList_append_own _ rfl (.tmp 31) (.tmp 33) 22 rfl w.heap.size 3 i0 (.int .i64 0) 1 8 Tryd.underlying22 hi0 hz0 hz1 hz2 rfl (by decide) _ _ _ rfl (hown.alloc _) ⟨wr.heap.size, 0, none⟩ 1 1 [.int .i64 (n : Int)] rfl rfl (by intro j u hj; match j, hj with | 0, hj => simp at hj; subst hj; simp [Addr.add]) (by intro u hu; simp at hu; subst hu; rfl) (by unfold maxLen; omega) (by omega) (by have := hbr.size; simp; omega) ?_; intro v' w2 hown' hgrow _; refine Hid.out ?_)
      refine Lib.hid ?_
      have R := Lib.hid (hstep.out w2 v' _ hown' hgrow)
      clear hown' hgrow hstep
      go_wp2
      go_roundw
      case rel => exact R.out
      case measure => simp [intOf]; omega
    · have hn : n = hi + 1 := by omega
      have hU : upto lo n = rangeL lo hi := by rw [hn, upto_range]
      rw [hU] at hown
      have hd : decide (n ≤ hi) = false := by simp; omega
      obtain ⟨A0, c0, rfl⟩ := own_form hown
      have FL := Lib.hid (RI.of_own hown)
      have FLc := Lib.hid (own_cap hown)
      have HB := Lib.hid hbr
      have HG := Lib.hid (HG0.out.below hbr)
      clear hown hbr hU hn hn1 hn2 HG0
      go_wp2_with fail
      refine (k_show FL.out (ml256 (right_length HR.out)) FLc.out HG.out rfl).mono ?_
      rintro e w1 ⟨rfl, hb1⟩
      have hBz := HB.out.size
      have HB2 := Lib.hid (HB.out.trans (hb1.mono hBz))
      clear HB hBz
      have HB := HB2
      clear HB2
      have HG2 := Lib.hid (HG.out.below hb1)
      clear HG
      have HG := HG2
      clear HG2
      have FL2 := Lib.hid (FL.out.next hb1)
      clear FL
      have FL := FL2
      clear FL2
      clear hb1
      go_wp2_with fail
      refine (k_parse (shows HR.out).1 HG.out (shows HR.out).2).mono ?_
      rintro e w2 ⟨⟨A2, c2, hc2, rfl, hr2⟩, hb2⟩
      have hBz := HB.out.size
      have HB2 := Lib.hid (HB.out.trans (hb2.mono hBz))
      clear HB hBz
      have HB := HB2
      clear HB2
      have HG2 := Lib.hid (HG.out.below hb2)
      clear HG
      have HG := HG2
      clear HG2
      have FL2 := Lib.hid (FL.out.next hb2)
      clear FL
      have FL := FL2
      clear FL2
      clear hb2
      have F1 := Lib.hid hr2
      have F1c := Lib.hid hc2
      clear hr2 hc2
      go_wp2_with fail
      refine (k_same F1.out FL.out (ml256 (right_length HR.out)) (ml256 (right_length HR.out)) rfl).mono ?_
      rintro e w3 ⟨rfl, hb3⟩
      have hBz := HB.out.size
      have HB2 := Lib.hid (HB.out.trans (hb3.mono hBz))
      clear HB hBz
      have HB := HB2
      clear HB2
      have HG2 := Lib.hid (HG.out.below hb3)
      clear HG
      have HG := HG2
      clear HG2
      have FL2 := Lib.hid (FL.out.next hb3)
      clear FL
      have FL := FL2
      clear FL2
      have F12 := Lib.hid (F1.out.next hb3)
      clear F1
      have F1 := F12
      clear F12
      clear hb3
      clear F1
      go_wp2_with fail
      refine (k_has FL.out (ml256 (right_length HR.out)) (has_of HR.out HIN.out)).mono ?_
      rintro e w4 ⟨rfl, hb4⟩
      have hBz := HB.out.size
      have HB2 := Lib.hid (HB.out.trans (hb4.mono hBz))
      clear HB hBz
      have HB := HB2
      clear HB2
      have HG2 := Lib.hid (HG.out.below hb4)
      clear HG
      have HG := HG2
      clear HG2
      have FL2 := Lib.hid (FL.out.next hb4)
      clear FL
      have FL := FL2
      clear FL2
      clear hb4
      go_wp2_with fail
      refine (k_has FL.out (ml256 (right_length HR.out)) (has_not HNO.out)).mono ?_
      rintro e w5 ⟨rfl, hb5⟩
      have hBz := HB.out.size
      have HB2 := Lib.hid (HB.out.trans (hb5.mono hBz))
      clear HB hBz
      have HB := HB2
      clear HB2
      have HG2 := Lib.hid (HG.out.below hb5)
      clear HG
      have HG := HG2
      clear HG2
      have FL2 := Lib.hid (FL.out.next hb5)
      clear FL
      have FL := FL2
      clear FL2
      clear hb5
      go_wp2_with fail
      have hb6 : Below w5.heap.size w5 (w5.alloc (.cells #[.int .i64 (k : Int)] 3)) := Below.alloc (Below.refl _ _) (Nat.le_refl _) _
      have hBz := HB.out.size
      have HB2 := Lib.hid (HB.out.trans (hb6.mono hBz))
      clear HB hBz
      have HB := HB2
      clear HB2
      have HG2 := Lib.hid (HG.out.below hb6)
      clear HG
      have HG := HG2
      clear HG2
      have FL2 := Lib.hid (FL.out.next hb6)
      clear FL
      have FL := FL2
      clear FL2
      clear hb6
      have FK := Lib.hid ((RI_lit1 w5 (k : Int) 3).more (B' := (w5.alloc (.cells #[.int .i64 (k : Int)] 3)).heap.size) (by simp))
      refine (k_less FL.out FK.out (ml256 (right_length HR.out)) (by decide) HG.out).mono ?_
      rintro e w7 ⟨⟨A7, c7, hc7, rfl, hr7⟩, hb7⟩
      have hBz := HB.out.size
      have HB2 := Lib.hid (HB.out.trans (hb7.mono hBz))
      clear HB hBz
      have HB := HB2
      clear HB2
      have HG2 := Lib.hid (HG.out.below hb7)
      clear HG
      have HG := HG2
      clear HG2
      have FL2 := Lib.hid (FL.out.next hb7)
      clear FL
      have FL := FL2
      clear FL2
      have FK2 := Lib.hid (FK.out.next hb7)
      clear FK
      have FK := FK2
      clear FK2
      clear hb7
      have FD := Lib.hid hr7
      have FDc := Lib.hid hc7
      clear hr7 hc7
      clear FK
      go_wp2_with fail
      refine (k_show FD.out (ml_less _ _) FDc.out HG.out rfl).mono ?_
      rintro e w8 ⟨rfl, hb8⟩
      have hBz := HB.out.size
      have HB2 := Lib.hid (HB.out.trans (hb8.mono hBz))
      clear HB hBz
      have HB := HB2
      clear HB2
      have HG2 := Lib.hid (HG.out.below hb8)
      clear HG
      have HG := HG2
      clear HG2
      have FL2 := Lib.hid (FL.out.next hb8)
      clear FL
      have FL := FL2
      clear FL2
      have FD2 := Lib.hid (FD.out.next hb8)
      clear FD
      have FD := FD2
      clear FD2
      clear hb8
      go_wp2_with fail
      refine (k_parse (shows (right_lessL _ _)).1 HG.out (shows (right_lessL _ _)).2).mono ?_
      rintro e w9 ⟨⟨A9, c9, hc9, rfl, hr9⟩, hb9⟩
      have hBz := HB.out.size
      have HB2 := Lib.hid (HB.out.trans (hb9.mono hBz))
      clear HB hBz
      have HB := HB2
      clear HB2
      have HG2 := Lib.hid (HG.out.below hb9)
      clear HG
      have HG := HG2
      clear HG2
      have FL2 := Lib.hid (FL.out.next hb9)
      clear FL
      have FL := FL2
      clear FL2
      have FD2 := Lib.hid (FD.out.next hb9)
      clear FD
      have FD := FD2
      clear FD2
      clear hb9
      have F1 := Lib.hid hr9
      have F1c := Lib.hid hc9
      clear hr9 hc9
      go_wp2_with fail
      refine (k_same F1.out FD.out (ml_less _ _) (ml_less _ _) rfl).mono ?_
      rintro e w10 ⟨rfl, hb10⟩
      have hBz := HB.out.size
      have HB2 := Lib.hid (HB.out.trans (hb10.mono hBz))
      clear HB hBz
      have HB := HB2
      clear HB2
      have HG2 := Lib.hid (HG.out.below hb10)
      clear HG
      have HG := HG2
      clear HG2
      have FL2 := Lib.hid (FL.out.next hb10)
      clear FL
      have FL := FL2
      clear FL2
      have FD2 := Lib.hid (FD.out.next hb10)
      clear FD
      have FD := FD2
      clear FD2
      have F12 := Lib.hid (F1.out.next hb10)
      clear F1
      have F1 := F12
      clear F12
      clear hb10
      clear F1
      go_wp2_with fail
      refine (k_has FD.out (ml_less _ _) (has_not HND.out)).mono ?_
      rintro e w11 ⟨rfl, hb11⟩
      have hBz := HB.out.size
      have HB2 := Lib.hid (HB.out.trans (hb11.mono hBz))
      clear HB hBz
      have HB := HB2
      clear HB2
      have HG2 := Lib.hid (HG.out.below hb11)
      clear HG
      have HG := HG2
      clear HG2
      have FL2 := Lib.hid (FL.out.next hb11)
      clear FL
      have FL := FL2
      clear FL2
      have FD2 := Lib.hid (FD.out.next hb11)
      clear FD
      have FD := FD2
      clear FD2
      clear hb11
      go_wp2_with fail
      have hb12 : Below w11.heap.size w11 (w11.alloc (.cells #[.int .i64 (k : Int)] 3)) := Below.alloc (Below.refl _ _) (Nat.le_refl _) _
      have hBz := HB.out.size
      have HB2 := Lib.hid (HB.out.trans (hb12.mono hBz))
      clear HB hBz
      have HB := HB2
      clear HB2
      have HG2 := Lib.hid (HG.out.below hb12)
      clear HG
      have HG := HG2
      clear HG2
      have FL2 := Lib.hid (FL.out.next hb12)
      clear FL
      have FL := FL2
      clear FL2
      have FD2 := Lib.hid (FD.out.next hb12)
      clear FD
      have FD := FD2
      clear FD2
      clear hb12
      have FK := Lib.hid ((RI_lit1 w11 (k : Int) 3).more (B' := (w11.alloc (.cells #[.int .i64 (k : Int)] 3)).heap.size) (by simp))
      refine (k_meet FL.out FK.out (ml256 (right_length HR.out)) (by decide) HG.out).mono ?_
      rintro e w13 ⟨⟨A13, c13, hc13, rfl, hr13⟩, hb13⟩
      have hBz := HB.out.size
      have HB2 := Lib.hid (HB.out.trans (hb13.mono hBz))
      clear HB hBz
      have HB := HB2
      clear HB2
      have HG2 := Lib.hid (HG.out.below hb13)
      clear HG
      have HG := HG2
      clear HG2
      have FL2 := Lib.hid (FL.out.next hb13)
      clear FL
      have FL := FL2
      clear FL2
      have FD2 := Lib.hid (FD.out.next hb13)
      clear FD
      have FD := FD2
      clear FD2
      have FK2 := Lib.hid (FK.out.next hb13)
      clear FK
      have FK := FK2
      clear FK2
      clear hb13
      have FM := Lib.hid hr13
      have FMc := Lib.hid hc13
      clear hr13 hc13
      clear FK
      go_wp2_with fail
      refine (k_join FD.out FM.out (ml_less _ _) (ml_meet _ _) HG.out).mono ?_
      rintro e w14 ⟨⟨A14, c14, hc14, rfl, hr14⟩, hb14⟩
      have hBz := HB.out.size
      have HB2 := Lib.hid (HB.out.trans (hb14.mono hBz))
      clear HB hBz
      have HB := HB2
      clear HB2
      have HG2 := Lib.hid (HG.out.below hb14)
      clear HG
      have HG := HG2
      clear HG2
      have FL2 := Lib.hid (FL.out.next hb14)
      clear FL
      have FL := FL2
      clear FL2
      have FD2 := Lib.hid (FD.out.next hb14)
      clear FD
      have FD := FD2
      clear FD2
      have FM2 := Lib.hid (FM.out.next hb14)
      clear FM
      have FM := FM2
      clear FM2
      clear hb14
      have FJ := Lib.hid hr14
      have FJc := Lib.hid hc14
      clear hr14 hc14
      go_wp2_with fail
      refine (k_same FJ.out FL.out (ml_join _ _) (ml256 (right_length HR.out)) (back_one HR.out HK.out)).mono ?_
      rintro e w15 ⟨rfl, hb15⟩
      have hBz := HB.out.size
      have HB2 := Lib.hid (HB.out.trans (hb15.mono hBz))
      clear HB hBz
      have HB := HB2
      clear HB2
      have HG2 := Lib.hid (HG.out.below hb15)
      clear HG
      have HG := HG2
      clear HG2
      have FL2 := Lib.hid (FL.out.next hb15)
      clear FL
      have FL := FL2
      clear FL2
      have FD2 := Lib.hid (FD.out.next hb15)
      clear FD
      have FD := FD2
      clear FD2
      have FM2 := Lib.hid (FM.out.next hb15)
      clear FM
      have FM := FM2
      clear FM2
      have FJ2 := Lib.hid (FJ.out.next hb15)
      clear FJ
      have FJ := FJ2
      clear FJ2
      clear hb15
      go_wp2
      go_ret
      exact ⟨rfl, HB.out⟩

/-- SetRuns, whatever the input. -/
theorem setRuns_walk (a b c : Int) (w : World) (ha : (Lit.int .u8 a).wf = true) (hb : (Lit.int .u8 b).wf = true) (hc : (Lit.int .u8 c).wf = true) (hg : GlobOk w) :
    Calls Tryd.prog 7 #[.int .u8 a, .int .u8 b, .int .u8 c] w fun e w' => e = .returned (.bool true) ∧ Below w.heap.size w w' := by
  have hby : ∀ x : Int, (Lit.int .u8 x).wf = true → 0 ≤ x ∧ x < 256 := fun x h => by
    have h1 : IntKind.u8.min = 0 := rfl
    have h2 : IntKind.u8.max = 255 := rfl
    simp only [Lit.wf, Bool.and_eq_true, decide_eq_true_eq] at h
    omega
  have h1 := hby a ha
  have h2 := hby b hb
  have h3 := hby c hc
  obtain ⟨a, rfl⟩ : ∃ n : Nat, a = n := ⟨a.toNat, by omega⟩
  obtain ⟨b, rfl⟩ : ∃ n : Nat, b = n := ⟨b.toNat, by omega⟩
  obtain ⟨c, rfl⟩ : ∃ n : Nat, c = n := ⟨c.toNat, by omega⟩
  exact runs_main a b c (min a b) (max a b) w (by omega) (by omega) (by omega) (by omega) (by omega) hg

end Go.Proofs.YtgifhbjcelkjkaaDoor
