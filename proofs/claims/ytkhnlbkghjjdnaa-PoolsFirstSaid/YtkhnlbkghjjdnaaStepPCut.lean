/- slices.Clone of steps, and the program's cut of layer 3 (step): what they answer. -/
import Derived.Test.YtkhnlbkghjjdnaaStepPInsert
import Derived.Test.YtkhnlbkghjjdnaaStepPLeast
import Derived.Deep.RegionHeld3
import Derived.Lib.SliceRun
namespace Go.Proofs.Ytkhnlbkghjjdnaa
open Go.RowKit

theorem RS.addr {w : World} {B n : Nat} {A : Option Addr} {p : List (Int × Int)} (h : RS w B A n p) (hA : A = none) : n = 0 := by
  rcases Nat.eq_zero_or_pos n with h0 | h0
  · exact h0
  · obtain ⟨b, off, e, _⟩ := h.2 h0
    rw [hA] at e; cases e

set_option maxRecDepth 100000 in
set_option maxHeartbeats 1000000 in
theorem clone_any (A : Option Addr) (n c : Nat) (p : List (Int × Int)) (w : World) (hr : RS w w.heap.size A n p) (hnil : A = none → c = 0) (hn : n ≤ 3000) :
    Calls Try.prog 44 #[.slice A n c] w fun e w' => ∃ v, e = .returned v ∧ SOwn w v p w' := by
  obtain ⟨i0, hi0, hz0, hz1, hz2⟩ := info_parts step_info
  have q22 : ∀ (w : World) (a : Option Addr) (n c n' c' : Nat), (binOp .eql 26 (.slice a n c) (.slice none n' c')).run Try.prog w = .ok (.bool a.isNone) w := fun w a n c n' c' => Lib.run_eql_slice_nil w _ _ a n c n' c' Try.underlying26
  cases A with
  | none =>
    have h0 : n = 0 := hr.addr rfl
    have hc := hnil rfl
    subst h0 hc
    have hp : p = [] := List.eq_nil_of_length_eq_zero hr.1
    subst hp
    clear hr hnil
    go_enter Try.func44, Try.ntmps44
    go_wp2
    go_ret
    exact ⟨_, rfl, SOwn.nil w⟩
  | some ad =>
    have HR := Lib.hid (hr.below (w' := w.alloc (.cells #[] 57)) ((Below.refl _ _).alloc (Nat.le_refl _) _))
    have HL := Lib.hid hr.1
    clear hr hnil
    go_enter Try.func44, Try.ntmps44
    go_wp2_with (at_builtin; refine wpList_append_RS _ rfl _ _ 26 rfl w.heap.size 57 i0 (.agg #[.int .i64 0, .int .i64 0]) 16 Try.underlying26 hi0 hz0 hz1 hz2 rfl (.slice (some ⟨w.heap.size, 0, none⟩) 0 0) 0 [] rfl (own_empty2 w _) w.heap.size (some ad) n c p rfl HR.out (fun h => by cases h) (by unfold maxLen; omega) (by omega) (by simp) ?_; intro v' w1 hown hgrow; refine Hid.out ?_)
    refine Lib.hid ?_
    have hown' : w1.ownsRow w.heap.size 57 2 v' p.length (sCells p) := by rw [HL.out]; simpa using hown
    have HO : Hid (SOwn w v' p w1) := Lib.hid ⟨hown', ((Below.refl _ w).alloc (Nat.le_refl _) _).grown hgrow (by simp) (by intro k hk; simp [Value.ownBlock] at hk; omega)⟩
    clear hown hgrow hown'
    go_wp2
    go_ret
    exact ⟨_, rfl, HO.out⟩

theorem bel_undrew {w w' : World} (h : Below w.drew.heap.size w.drew w') : Below w.heap.size w w' := ⟨h.os, h.tape, h.output, h.size, h.block⟩
/-- a copy of the steps, lying in new memory -/
def ClonePost (n : Nat) (p : List (Int × Int)) (w : World) (e : Ending) (w' : World) : Prop :=
  ∃ A c, e = .returned (.slice A n c) ∧ w'.ownsRow w.heap.size 57 2 (.slice A n c) n (sCells p) ∧ Below w.heap.size w w'
theorem clone_post (A : Option Addr) (n c : Nat) (p : List (Int × Int)) (w : World) (hr : RS w w.heap.size A n p) (hnil : A = none → c = 0) (hn : n ≤ 3000) :
    Calls Try.prog 44 #[.slice A n c] w (ClonePost n p w) :=
  (clone_any A n c p w hr hnil hn).mono fun e w' ⟨v, h1, h2⟩ => by
    obtain ⟨A3, c3, rfl⟩ := own_form h2.1
    have hl := hr.1
    subst hl
    exact ⟨A3, c3, h1, h2.1, h2.2⟩
theorem insert_after (base K n : Nat) (A : Option Addr) (c : Nat) (p : List (Int × Int)) (x y : Int) (w : World) (hi : K < n) (hn : n ≤ 3000) (hown : w.ownsRow base 57 2 (.slice A n c) n (sCells p)) :
    Calls Try.prog 62 #[.slice A n c, .int .i64 ((K : Int) + 1), .slice (some ⟨w.heap.size, 0, none⟩) 1 1] (w.alloc (.cells #[.int .i64 x, .int .i64 y] 57))
      (InsPost base (n + 1) (p.take (K + 1) ++ (x, y) :: p.drop (K + 1)) (w.alloc (.cells #[.int .i64 x, .int .i64 y] 57))) := by
  have h := insert_any base (K + 1) w.heap.size n A c p x y (w.alloc (.cells #[.int .i64 x, .int .i64 y] 57)) (by omega) (by omega) hn (hown.alloc _) (heap_alloc_new w _) (fun g hg => by
    subst hg
    have := (hown.lt g rfl).2
    omega)
  exact h

theorem insert_before (K n : Nat) (A : Option Addr) (c : Nat) (p : List (Int × Int)) (x y : Int) (w w3 : World) (hi : K < n) (hn : n ≤ 3000) (hown : w3.ownsRow (w.alloc (.cells #[.int .i64 x, .int .i64 y] 57)).heap.size 57 2 (.slice A n c) n (sCells p))
    (hb : Below (w.alloc (.cells #[.int .i64 x, .int .i64 y] 57)).heap.size (w.alloc (.cells #[.int .i64 x, .int .i64 y] 57)) w3) :
    Calls Try.prog 62 #[.slice A n c, .int .i64 ((K : Int) + 1), .slice (some ⟨w.heap.size, 0, none⟩) 1 1] w3 (InsPost w.heap.size (n + 1) (p.take (K + 1) ++ (x, y) :: p.drop (K + 1)) w3) := by
  have hs : (w.alloc (.cells #[.int .i64 x, .int .i64 y] 57)).heap.size = w.heap.size + 1 := by simp
  exact insert_any w.heap.size (K + 1) w.heap.size n A c p x y w3 (by omega) (by omega) hn (own_base hown (by omega)) ((hb.block w.heap.size (by omega)).trans (heap_alloc_new w _)) (fun g hg => by
    subst hg
    have := (hown.lt g rfl).1
    omega)

set_option maxRecDepth 100000 in
set_option maxHeartbeats 4000000 in
theorem cut_any (A : Option Addr) (n c : Nat) (p : List (Int × Int)) (t : Int) (w : World) (hr : RS w w.heap.size A n p) (hnil : A = none → c = 0) (hn : n ≤ 2500) (hu : Up 0 p) (hpos : 0 < pos p t) :
    Calls Try.prog 57 #[.slice A n c, .int .i64 t] w fun e w' => ∃ v, e = .returned v ∧ SOwn w v (cutL p t) w' := by
  obtain ⟨K, hK⟩ : ∃ K, pos p t = K + 1 := ⟨pos p t - 1, by omega⟩
  have hKn : K < n := by have := pos_le p t; have := hr.1; omega
  obtain ⟨b, off, rfl, hbw, hcells⟩ := hr.2 (by omega)
  have HCUT : Hid (cutL p t = p.take (K + 1) ++ (t, (p.getD K (0, 0)).2) :: p.drop (K + 1)) := Lib.hid (by unfold cutL; rw [hK]; rfl)
  have hc2 := (hcells K hKn).2
  have HR := Lib.hid hr
  have HU := Lib.hid hu
  have HK := Lib.hid hK
  have HN4 : Hid (n ≤ 4000) := Lib.hid (by omega)
  have HN3 : Hid (n ≤ 3000) := Lib.hid (by omega)
  have hKb : K < 2500 := by omega
  clear hr hnil hu hpos hK hcells
  generalize (p.getD K (0, 0)).2 = f at *
  have HC2 := Lib.hid hc2
  clear hc2
  go_enter Try.func57, Try.ntmps57
  go_wp2_with fail
  refine (stepAt_is _ _ _ K p t _ HR.out HN4.out HU.out HK.out).mono ?_
  rintro e w1 ⟨rfl, hB1⟩
  have HB1 := Lib.hid hB1
  have HR1 := Lib.hid (HR.out.next hB1)
  have hcf : w1.cell? ⟨b, off + K * 2 + 1, none⟩ = some (.int .i64 f) := (hB1.cell (p := ⟨b, off + K * 2 + 1, none⟩) hbw).trans HC2.out
  have hb1 : b < w1.heap.size := by have := hB1.size; omega
  clear hB1
  go_wp2
  have CLA := Lib.hid (clone_post _ n c p w1.drew HR1.out (fun h => by cases h) HN3.out)
  have CLB := Lib.hid (clone_post _ n c p (w1.alloc (.cells #[.int .i64 t, .int .i64 f] 57)).drew ((show RS w1.drew w1.drew.heap.size _ n p from HR1.out).next (bel_alloc (w := w1.drew) (Below.refl _ _) _)) (fun h => by cases h) HN3.out)
  have HKEEP : Hid (∀ wx, Below w1.drew.heap.size w1.drew wx → wx.cell? ⟨b, off + K * 2 + 1, none⟩ = some (.int .i64 f)) := Lib.hid (fun wx hb => (hb.cell (p := ⟨b, off + K * 2 + 1, none⟩) hb1).trans hcf)
  have hw1 : IntKind.i64.wrap ((K : Int) + 1) = (K : Int) + 1 := IntWalk.i64_in _ (by omega)
  go_region_held3 (fun w' => w'.cell? ⟨b, off + K * 2 + 1, none⟩ = some (.int .i64 f))
    (first | go_keep | exact HKEEP.out _ HB3.out | exact HKEEP.out _ HB5.out)
    (first | (go_at_call 44; (with_reducible refine (CLA.out).mono ?_); rintro e w3 ⟨A3, c3, rfl, ho3, hb3⟩; have HO3 := Lib.hid ho3; have HB3 := Lib.hid hb3; clear ho3 hb3) | (go_at_call 44; (with_reducible refine (CLB.out).mono ?_); rintro e w3 ⟨A3, c3, rfl, ho3, hb3⟩; have HO3 := Lib.hid ho3; have HBX := Lib.hid hb3; have HB3 : Hid (Below w1.drew.heap.size w1.drew w3) := Lib.hid ((bel_alloc (w := w1.drew) (Below.refl _ _) _).trans (hb3.mono (by simp))); clear ho3 hb3) | (go_at_call 62; (with_reducible refine (insert_after _ K n A3 c3 p t f w3 hKn HN3.out HO3.out).mono ?_); rintro e w5 ⟨v5, rfl, ho5, hb5⟩; have HO5 := Lib.hid ho5; have HB5 : Hid (Below w1.drew.heap.size w1.drew w5) := Lib.hid ((bel_alloc HB3.out _).trans hb5); clear ho5 hb5) | (go_at_call 62; have IB := insert_before K n A3 c3 p t f w1 w3 hKn HN3.out HO3.out (bel_undrew HBX.out); (with_reducible refine IB.mono ?_); clear IB; rintro e w5 ⟨v5, rfl, ho5, hb5⟩; have HO5 := Lib.hid ho5; have HB5 : Hid (Below w1.drew.heap.size w1.drew w5) := Lib.hid (HB3.out.trans hb5); clear ho5 hb5))
  all_goals have HF : Hid (SOwn w v5 (cutL p t) w5) := Lib.hid ⟨by
    rw [cutL_len, HR.out.1, HCUT.out]
    exact own_base HO5.out HB1.out.size, HB1.out.trans ((bel_undrew HB5.out).mono HB1.out.size)⟩
  all_goals clear hw1 hcf
  all_goals go_wp2
  all_goals go_ret
  all_goals exact ⟨_, rfl, HF.out⟩

end Go.Proofs.Ytkhnlbkghjjdnaa
