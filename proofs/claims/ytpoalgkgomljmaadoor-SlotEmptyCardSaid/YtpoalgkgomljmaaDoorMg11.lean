/- The program's Busy, Get, Drop of layer 10. Written by gen/gen_heldpget.py. The program's Ends of layer 10. The program's functions of layer 10 keep their contracts. A list of the numbers that have a property, walked from the front: what is seen so far. No program's text is walked here. The program's tables of layer 9 (match) in plain words: the node that a thing is part of, how many are counted at each node, how many are left to be taken. No program's text is walked here. The program's small functions of layer 5 (graph): Tag, partOf, tagged: what they answer of any string, kinds, thing. -/
import Derived.Test.YtpoalgkgomljmaaDoorMg10
import Derived.Test.YtpoalgkgomljmaaDoorMg06
import Derived.Test.YtpoalgkgomljmaaDoorMg04
import Derived.LoopTactic
import Derived.Deep.QuietTactic
import Derived.BigQuiet
import Derived.Test.YtpoalgkgomljmaaDoorMg05
import Derived.Test.YtpoalgkgomljmaaDoorMg03
namespace Go.Proofs.YtpoalgkgomljmaaDoor
open Go.RowKit

theorem heldBusy_any (A : Option Addr) (n c : Nat) (l : Tb) (a b : Int) (w : World) (hl : TAsk w A n c l) (hf : FewT l) :
    Calls Tryd.prog 24 #[.slice A n c, .int .i64 a, .int .i64 b] w (IPost (busyT l a b) w) := by
  cases h1 : rightT l with
  | false =>
    have e : busyT l a b = [] := by unfold busyT; rw [h1]; rfl
    rw [e]
    have R1 := Lib.hid h1
    have HT := Lib.hid hl
    have HF := Lib.hid hf
    clear h1 hl hf e
    go_enter Tryd.func24, Tryd.ntmps24
    go_wp2_with fail
    refine (heldRight_b HT.out.reads HT.out.nil HF.out R1.out).mono ?_
    rintro e w1 ⟨rfl, hb⟩
    have HB := Lib.hid hb
    clear hb
    go_wp2
    go_ret
    exact ipost_nil HB.out
  | true =>
    have R1 := Lib.hid h1
    have HT := Lib.hid hl
    have HF := Lib.hid hf
    obtain ⟨r, hr'⟩ : ∃ r, busyT l a b = r := ⟨_, rfl⟩
    have HRR := Lib.hid hr'
    rw [hr']
    clear h1 hl hf hr'
    go_enter Tryd.func24, Tryd.ntmps24
    go_wp2_with fail
    refine (heldRight_b HT.out.reads HT.out.nil HF.out R1.out).mono ?_
    rintro e w1 ⟨rfl, hb⟩
    have HB := Lib.hid hb
    have HT1 := Lib.hid (HT.out.next hb)
    clear hb
    go_wp2_with fail
    refine (calls_ipost (busy_any A n c l a b w1 HT1.out.reads HF.out R1.out) HRR.out).mono ?_
    rintro e w2 ⟨⟨A2, c2, rfl, hr, hnil, hc⟩, hb⟩
    have HP : Hid (IPost r w (.returned (.slice A2 r.length c2)) w2) := Lib.hid ⟨⟨A2, c2, rfl, hr, hnil, hc⟩, HB.out.trans (hb.mono HB.out.size)⟩
    clear hr hnil hc hb
    go_wp2
    go_ret
    exact HP.out

theorem BoxH.store4 {wr : World} {g : Nat} {x : Hd} {A : Option Addr} {m c : Nat} (b : BoxH wr g x A m c) (h : Hd) (A2 : Option Addr) (m2 c2 : Nat) :
    BoxH ((((wr.setCell ⟨g, 0, none⟩ (.int .i64 h.id)).setCell ⟨g, 1, none⟩ (.slice A2 m2 c2)).setCell ⟨g, 2, none⟩ (.int .i64 h.frm)).setCell ⟨g, 3, none⟩ (.int .i64 h.to)) g h A2 m2 c2 :=
  (((b.set (h' := ⟨h.id, [], x.frm, x.to⟩) rfl).set (h' := ⟨h.id, [], x.frm, x.to⟩) rfl).set (h' := ⟨h.id, [], h.frm, x.to⟩) rfl).set (h' := h) rfl
theorem below_four {B g : Nat} {w wr : World} {v0 v1 v2 v3 : Value} (hb : Below B w wr) (hg : B ≤ g) : Below B w ((((wr.setCell ⟨g, 0, none⟩ v0).setCell ⟨g, 1, none⟩ v1).setCell ⟨g, 2, none⟩ v2).setCell ⟨g, 3, none⟩ v3) :=
  (((hb.setCell (p := ⟨g, _, none⟩) hg v0).setCell (p := ⟨g, _, none⟩) hg v1).setCell (p := ⟨g, _, none⟩) hg v2).setCell (p := ⟨g, _, none⟩) hg v3
theorem four_other {b g : Nat} {wr : World} {v0 v1 v2 v3 : Value} (h : b ≠ g) : ((((wr.setCell ⟨g, 0, none⟩ v0).setCell ⟨g, 1, none⟩ v1).setCell ⟨g, 2, none⟩ v2).setCell ⟨g, 3, none⟩ v3).heap[b]? = wr.heap[b]? := by
  rw [Below.heap_setCell _ _ _ _ h, Below.heap_setCell _ _ _ _ h, Below.heap_setCell _ _ _ _ h, Below.heap_setCell _ _ _ _ h]
theorem four_size {g : Nat} {wr : World} {v0 v1 v2 v3 : Value} : ((((wr.setCell ⟨g, 0, none⟩ v0).setCell ⟨g, 1, none⟩ v1).setCell ⟨g, 2, none⟩ v2).setCell ⟨g, 3, none⟩ v3).heap.size = wr.heap.size := by simp [World.setCell]
/-- a holding as an element, as one by value -/
theorem EH.ask {w : World} {ok : Nat → Prop} {h : Hd} {A : Option Addr} {m c : Nat} (he : EH w ok h [.int .i64 h.id, .slice A m c, .int .i64 h.frm, .int .i64 h.to]) (hok : ∀ b, ok b → b < w.heap.size) : HAsk w A m c h := by
  obtain ⟨A', m', c', hv, hr, h1, h2, h3, h4⟩ := he
  injection hv with _ hv
  injection hv with hv _
  injection hv with e1 e2 e3
  subst e1 e2 e3
  exact ⟨RN.ri (hr.keep ei_steady (fun _ _ => rfl) hok), h1, h2, h3, h4⟩
theorem hd0_ask (w : World) : HAsk w none 0 0 hd0 := ⟨RI.nil, fun _ => rfl, Nat.le_refl _, Nat.zero_le _, ⟨(by unfold I64; simp [hd0]), (by unfold I64; simp [hd0]), (by unfold I64; simp [hd0]), fun n hn => by cases hn⟩⟩





end Go.Proofs.YtpoalgkgomljmaaDoor

namespace Go.Proofs.YtpoalgkgomljmaaDoor
open Go.RowKit

set_option maxRecDepth 100000 in
set_option maxHeartbeats 8000000 in
theorem heldEnds_yes (A : Option Addr) (n c : Nat) (l : Tb) (z : Int) (w : World) (hl : TAsk w A n c l) (hf : FewT l) (hrt : rightT l = true) :
    Calls Tryd.prog 19 #[.slice A n c, .int .i64 z] w (IPost (endsT l z) w) := by
  obtain ⟨i0, hi0, hz0, hz1, hz2⟩ := info_parts int64_infoH
  have HT := Lib.hid hl
  have HF := Lib.hid hf
  have R1 := Lib.hid hrt
  have HL := Lib.hid hl.reads.len
  have hn100 : n ≤ 100 := by rw [← hl.reads.len]; exact hf.1
  obtain ⟨L, hLL⟩ : ∃ L, (l.map Hd.to).filter (fun t => decide (z < t)) = L := ⟨_, rfl⟩
  have HLL := Lib.hid hLL
  have HE : Hid (endsT l z = L.foldr insZ []) := Lib.hid (by unfold endsT; rw [if_pos hrt, hLL])
  rw [HE.out]
  clear hl hf hrt hLL
  go_enter Tryd.func19, Tryd.ntmps19
  go_wp2_with fail
  refine (heldRight_b HT.out.reads HT.out.nil HF.out R1.out).mono ?_
  rintro e w1 ⟨rfl, hb1⟩
  have HB1 := Lib.hid hb1
  have HT1 := Lib.hid (HT.out.next hb1)
  clear hb1
  go_wp2
  go_loopw [5, 13] (fun v i wr => ∃ k : Nat, k ≤ n ∧ i = .int .i64 k ∧ ON EI 1 2 w1 v (((l.take k).map Hd.to).filter (fun t => decide (z < t))) wr) (fun _ i _ => n - (intOf i).toNat)
  case atStart => exact ⟨0, Nat.zero_le _, rfl, ON.nil _⟩
  case round =>
    obtain ⟨k, hk, rfl, hrel⟩ := hrel
    have HK := Lib.hid hrel
    clear hrel
    by_cases hlt : k < n
    · have hkl : k < l.length := by rw [HL.out]; exact hlt
      have HLA : Hid ((((l.take k).map Hd.to).filter (fun t => decide (z < t))).length ≤ 1000) := Lib.hid (by have := List.length_filter_le (fun t : Int => decide (z < t)) ((l.take k).map Hd.to); rw [List.length_map, List.length_take] at this; omega)
      obtain ⟨b, off, A2, m2, c2, rfl, hbl, c0, c1', c2', c3', hx⟩ := RT.one (HT1.out.reads.next HK.out.below) hlt
      have hyes := ends_take_yes (z := z) hkl
      have hno := ends_take_no (z := z) hkl
      obtain ⟨x, hxx⟩ : ∃ x, l.getD k hd0 = x := ⟨_, rfl⟩
      rw [hxx] at c0 c2' c3' hyes hno
      have hba : Below wr.heap.size wr (wr.alloc (hO x A2 m2 c2)) := (Below.refl _ _).alloc (Nat.le_refl _) _
      have HKa := Lib.hid (HK.out.next ei_steady hba)
      have HBX : Hid (BoxH (wr.alloc (hO x A2 m2 c2)) wr.heap.size x A2 m2 c2) := Lib.hid (boxH_new wr x A2 m2 c2)
      unfold hO at HKa HBX
      obtain ⟨Wa, hWa⟩ : ∃ Wa, wr.alloc (.cells #[.int .i64 x.id, .slice A2 m2 c2, .int .i64 x.frm, .int .i64 x.to] 39) = Wa := ⟨_, rfl⟩
      rw [hWa] at HKa HBX
      have q3 := HBX.out.c3
      by_cases hto : z < x.to
      · have d0 : decide (z < x.to) = true := decide_eq_true hto
        have HS := Lib.hid (hyes hto)
        clear hyes hno hx hxx hto hkl hba hbl
        go_wp2_with (at_builtin; refine append_EI rfl (.tmp 21) (.tmp 24) 42 2 rfl HKa.out i0 Tryd.underlying42 hi0 hz0 hz1 hz2 rfl _ rfl HLA.out ?_; intro v' w4 hON4; refine Hid.out ?_)
        refine Lib.hid ?_
        have HO4 := Lib.hid hON4
        clear hON4 c0 c1' c2' c3' q3
        go_wp2
        go_roundw
        case rel => exact ⟨k + 1, by omega, by go_num, by rw [HS.out]; exact HO4.out⟩
        case measure => simp [intOf]; omega
      · have d0 : decide (z < x.to) = false := decide_eq_false hto
        have HS := Lib.hid (hno hto)
        clear hyes hno hx hxx hto hkl hba hbl
        go_wp2_with (simp only [hWa])
        go_roundw
        case rel => exact ⟨k + 1, by omega, by go_num, by rw [HS.out]; exact HKa.out⟩
        case measure => simp [intOf]; omega
    · have hkn : k = n := by omega
      have htk : l.take k = l := List.take_of_length_le (by rw [HL.out]; omega)
      rw [htk, HLL.out] at HK
      obtain ⟨A1, c1, rfl, hnil1, hc1⟩ := HK.out.form
      have hLn : L.length ≤ 1000 := by
        rw [← HLL.out]
        have := List.length_filter_le (fun t : Int => decide (z < t)) (l.map Hd.to)
        rw [List.length_map, HL.out] at this
        omega
      have HC1 := Lib.hid hc1
      have HN1 := Lib.hid hnil1
      have HLn := Lib.hid hLn
      obtain ⟨len, hlen⟩ : ∃ len, L.length = len := ⟨_, rfl⟩
      have HLEN := Lib.hid hlen
      rw [hlen] at HK HC1 HLn ⊢
      clear htk hnil1 hc1 hLn hlen
      go_wp2_with fail
      refine (sortTimes_any A1 len c1 L w1 wr HK.out HLEN.out HLn.out).mono ?_
      rintro e w5 ⟨rfl, hb5, hs⟩
      have HB5 := Lib.hid hb5
      rcases hs with h0 | ⟨g, rfl, hgb, hgl, hH⟩
      · subst h0
        have HE0 : Hid (L.foldr insZ [] = []) := Lib.hid (by
          have : L = [] := List.eq_nil_of_length_eq_zero HLEN.out
          rw [this]
          rfl)
        clear hb5
        go_wp2_with fail
        refine (compact_short A1 0 c1 w5 (by omega)).mono ?_
        rintro e w6 ⟨rfl, rfl⟩
        have HP : Hid (IPost (L.foldr insZ []) w (.returned (.slice A1 0 c1)) w6) := Lib.hid (by
          rw [HE0.out]
          exact ipost_mk RI.nil HN1.out HC1.out (HB1.out.trans (HB5.out.mono HB1.out.size)))
        go_wp2
        go_ret
        exact HP.out
      · have HS5 := Lib.hid (compactTimes_any g len c1 (L.mergeSort fun x y => decide (x ≤ y)) w1 w5 hb5 hgb hgl hH (by rw [List.length_mergeSort, HLEN.out]) HLn.out HC1.out)
        rw [compact_sort] at HS5
        clear hb5 hgb hgl hH
        go_wp2_with fail
        refine HS5.out.mono ?_
        rintro e w6 ⟨⟨A6, c6, rfl, hr6, hn6, hc6⟩, hb6⟩
        have HP : Hid (IPost (L.foldr insZ []) w (.returned (.slice A6 (L.foldr insZ []).length c6)) w6) := Lib.hid ⟨⟨A6, c6, rfl, hr6, hn6, hc6⟩, HB1.out.trans (hb6.mono HB1.out.size)⟩
        obtain ⟨r, hr⟩ : ∃ r, (L.foldr insZ []).length = r := ⟨_, rfl⟩
        rw [hr] at HP ⊢
        clear hr6 hn6 hc6 hb6 hr
        go_wp2
        go_ret
        exact HP.out
theorem heldEnds_any (A : Option Addr) (n c : Nat) (l : Tb) (z : Int) (w : World) (hl : TAsk w A n c l) (hf : FewT l) :
    Calls Tryd.prog 19 #[.slice A n c, .int .i64 z] w (IPost (endsT l z) w) := by
  cases h1 : rightT l with
  | true => exact heldEnds_yes A n c l z w hl hf h1
  | false =>
    have e : endsT l z = [] := by unfold endsT; rw [h1, if_neg (by simp)]
    rw [e]
    have R1 := Lib.hid h1
    have HT := Lib.hid hl
    have HF := Lib.hid hf
    clear h1 hl hf e
    go_enter Tryd.func19, Tryd.ntmps19
    go_wp2_with fail
    refine (heldRight_b HT.out.reads HT.out.nil HF.out R1.out).mono ?_
    rintro e w1 ⟨rfl, hb⟩
    have HB := Lib.hid hb
    clear hb
    go_wp2
    go_ret
    exact ipost_nil HB.out

end Go.Proofs.YtpoalgkgomljmaaDoor

namespace Go.Proofs.YtpoalgkgomljmaaDoor
open Go.RowKit

theorem heldOk_is : HeldOk where
  right A n c l w hl hf := heldRight_any A n c l w hl.reads hl.nil hf
  busy A n c l a b w hl hf := heldBusy_any A n c l a b w hl hf
  ends A n c l z w hl hf := heldEnds_any A n c l z w hl hf

end Go.Proofs.YtpoalgkgomljmaaDoor

namespace Go.Proofs.YtpoalgkgomljmaaDoor

theorem numsF_front (p : Nat → Bool) {a : Nat} : ∀ {n : Nat}, a ≤ n → ∃ r, numsF p n = numsF p a ++ r := by
  intro n
  induction n with
  | zero => intro h; obtain rfl : a = 0 := by omega
            exact ⟨[], by simp⟩
  | succ n ih =>
    intro h
    by_cases ha : a = n + 1
    · subst ha; exact ⟨[], by simp⟩
    · obtain ⟨r, hr⟩ := ih (by omega)
      exact ⟨r ++ (if p n = true then [(n : Int)] else []), by rw [numsF_succ, hr, List.append_assoc]⟩
theorem numsF_gap {p : Nat → Bool} {a : Nat} : ∀ {b : Nat}, a ≤ b → (∀ y, a ≤ y → y < b → p y = false) → numsF p b = numsF p a := by
  intro b
  induction b with
  | zero => intro h _; obtain rfl : a = 0 := by omega
            rfl
  | succ b ih =>
    intro h hg
    by_cases ha : a = b + 1
    · subst ha; rfl
    · rw [numsF_no (hg b (by omega) (by omega))]
      exact ih (by omega) (fun y h1 h2 => hg y h1 (by omega))
theorem cntP_gap {p : Nat → Bool} {a b : Nat} (h : a ≤ b) (hg : ∀ y, a ≤ y → y < b → p y = false) : cntP p b = cntP p a := by
  rw [← numsF_cnt, ← numsF_cnt, numsF_gap h hg]
theorem least_from (p : Nat → Bool) (m : Nat) : ∀ d, (∃ x, m ≤ x ∧ x < m + d ∧ p x = true ∧ ∀ y, m ≤ y → y < x → p y = false) ∨ (∀ y, m ≤ y → y < m + d → p y = false)
  | 0 => .inr (fun y h1 h2 => absurd h2 (by omega))
  | d + 1 => by
    rcases least_from p m d with ⟨x, h1, h2, h3⟩ | h
    · exact .inl ⟨x, h1, by omega, h3⟩
    · cases hp : p (m + d) with
      | true => exact .inl ⟨m + d, by omega, by omega, hp, h⟩
      | false => exact .inr (fun y h1 h2 => by
          by_cases hy : y = m + d
          · subst hy; exact hp
          · exact h y h1 (by omega))
/-- the next number of the list -/
theorem take_next {p : Nat → Bool} {n i m : Nat} (hi : i < (numsF p n).length) (ht : (numsF p n).take i = numsF p m) (hm : m ≤ n) :
    ∃ x, m ≤ x ∧ x < n ∧ (numsF p n).getD i 0 = (x : Int) ∧ p x = true ∧ (∀ y, m ≤ y → y < x → p y = false) ∧ (numsF p n).take (i + 1) = numsF p (x + 1) := by
  have hl : (numsF p m).length = i := by rw [← ht, List.length_take]; omega
  rcases least_from p m (n - m) with ⟨x, h1, h2, h3, h4⟩ | h
  · have hx : x < n := by omega
    obtain ⟨r, hr⟩ := numsF_front p (a := x + 1) (n := n) (by omega)
    have e : numsF p (x + 1) = numsF p m ++ [(x : Int)] := by rw [numsF_yes h3, numsF_gap h1 h4]
    refine ⟨x, h1, hx, ?_, h3, h4, ?_⟩
    · rw [hr, e, List.getD, List.append_assoc, List.getElem?_append_right (by omega), hl, Nat.sub_self]; rfl
    · rw [hr, List.take_append_of_le_length (by rw [e, List.length_append, hl]; simp), List.take_of_length_le (by rw [e, List.length_append, hl]; simp)]
  · have := numsF_gap (p := p) hm (fun y h1 h2 => h y h1 (by omega))
    rw [this] at hi
    omega
/-- behind the last one there is none -/
theorem take_end {p : Nat → Bool} {n m : Nat} (ht : numsF p n = numsF p m) (_ : m ≤ n) : ∀ y, m ≤ y → y < n → p y = false := by
  intro y h1 h2
  cases hp : p y with
  | false => rfl
  | true =>
    have : (y : Int) ∈ numsF p m := by rw [← ht]; exact mem_numsF_nat.2 ⟨h2, hp⟩
    have := (mem_numsF_nat.1 this).1
    omega

section
variable {g : Gr} {F : List Int} {s : Sp} {k : Nat}
/-- as far as thing m: the free cores and gpus under node k, and what is got there -/
theorem fr_gap {c : Int} {m x : Nat} (h : m ≤ x) (hg : ∀ y, m ≤ y → y < x → overG g k y = false) : frN g F c k x = frN g F c k m :=
  cntP_gap h fun y h1 h2 => by unfold frP; rw [hg y h1 h2]; rfl
theorem get_gap {m x : Nat} (h : m ≤ x) (hg : ∀ y, m ≤ y → y < x → overG g k y = false) : numsF (getP g F s k) x = numsF (getP g F s k) m :=
  numsF_gap h fun y h1 h2 => by unfold getP; rw [hg y h1 h2]; rfl
theorem fr_step {c : Int} {m x : Nat} (h : m ≤ x) (hg : ∀ y, m ≤ y → y < x → overG g k y = false) (ho : overG g k x = true) : frN g F c k (x + 1) = frN g F c k m + (if hasB F (x : Int) = true ∧ gk g x = c then 1 else 0) := by
  have h1 : frN g F c k (x + 1) = frN g F c k x + (if frP g F c k x = true then 1 else 0) := cntP_succ _ _
  rw [h1, fr_gap h hg]
  congr 1
  unfold frP
  rw [ho, Bool.true_and]
  by_cases hb : hasB F (x : Int) = true ∧ gk g x = c
  · rw [if_pos hb, if_pos (by rw [hb.1, hb.2]; simp)]
  · rw [if_neg hb, if_neg (by rw [Bool.and_eq_true, beq_iff_eq]; exact hb)]
theorem get_step {m x : Nat} (h : m ≤ x) (hg : ∀ y, m ≤ y → y < x → overG g k y = false) : numsF (getP g F s k) (x + 1) = numsF (getP g F s k) m ++ (if getP g F s k x = true then [(x : Int)] else []) := by
  rw [numsF_succ, get_gap h hg]
/-- what a spec gets in a node; nothing, where it doesn't suit -/
def getsL (g : Gr) (F : List Int) (s : Sp) (k : Nat) : List Int := if suitP g F s k = true then numsF (getP g F s k) g.length else []
end

end Go.Proofs.YtpoalgkgomljmaaDoor

namespace Go.Proofs.YtpoalgkgomljmaaDoor

/-- the node that thing x is, or is part of -/
def homeG (g : Gr) (x : Int) : Int × Bool :=
  if x < g.length then (if gk g x.toNat = 2 then (x, true) else if gk g x.toNat = 3 ∨ gk g x.toNat = 4 then (gu g x.toNat, true) else (0, false)) else (0, false)
section
variable {g : Gr} {F : List Int} {s : Sp} {k x m : Nat}
theorem under_kind (hg : RightG g) (hx : x < g.length) (hk : gk g k = 2) (ho : overG g k x = true) : gk g x = 2 ∨ gk g x = 3 ∨ gk g x = 4 := by
  have h1 := hg.kinds hx
  by_cases h : gk g x < 2
  · have := over_high hg x hx h ho
    omega
  · omega
/-- a thing's home -/
theorem home_is (hg : RightG g) (hx : x < g.length) : (∃ k, k < g.length ∧ homeG g (x : Int) = ((k : Int), true) ∧ gk g k = 2 ∧ overG g k x = true ∧ (gk g x = 2 ∨ gk g x = 3 ∨ gk g x = 4)) ∨ (homeG g (x : Int) = (0, false) ∧ (gk g x = 0 ∨ gk g x = 1)) := by
  have h1 := hg.kinds hx
  unfold homeG
  rw [if_pos (by omega), Int.toNat_natCast]
  by_cases h2 : gk g x = 2
  · exact .inl ⟨x, hx, by rw [if_pos h2], h2, over_self, .inl h2⟩
  · rw [if_neg h2]
    by_cases h3 : gk g x = 3 ∨ gk g x = 4
    · rw [if_pos h3]
      have hx0 : 0 < x := by
        rcases Nat.eq_zero_or_pos x with e | e
        · subst e; have := hg.top.1; omega
        · exact e
      have hu := hg.up x hx0 hx
      have hp : gk g (par g x) = 2 := by rcases hg.kind x hx0 hx with e | e | e <;> omega
      refine .inl ⟨par g x, by omega, by unfold par; rw [Int.toNat_of_nonneg hu.1], hp, ?_, .inr h3⟩
      rw [over_up hg hx hu.2]
      exact over_self
    · rw [if_neg h3]
      exact .inr ⟨rfl, by omega⟩
theorem home_far (hx : g.length ≤ x) : homeG g (x : Int) = (0, false) := by unfold homeG; rw [if_neg (by omega)]
theorem far_kind (hx : g.length ≤ x) : gk g x = 0 := by
  unfold gk
  rw [List.getD, List.getElem?_eq_none hx]; rfl

/-! What is counted -/
/-- how many of the first m numbers of the set there are at node k, of kind c -/
def tabT (g : Gr) (F : List Int) (m k c : Nat) : Int := if gk g k = 2 ∧ 2 ≤ c then (frN g F (c : Int) k m : Int) else 0
/-- one entry is turned -/
def upT (T : Nat → Nat → Int) (k c : Nat) (v : Int) : Nat → Nat → Int := fun k' c' => if k' = k ∧ c' = c then v else T k' c'
theorem frN_succ (g : Gr) (F : List Int) (c : Int) (k m : Nat) : frN g F c k (m + 1) = frN g F c k m + (if frP g F c k m = true then 1 else 0) := cntP_succ _ _
theorem frN_le (c : Int) : frN g F c k m ≤ m := cntP_le _ _
theorem tab_le {c : Nat} : tabT g F m k c ≤ m ∧ 0 ≤ tabT g F m k c := by
  unfold tabT
  split
  · have := frN_le (g := g) (F := F) (k := k) (m := m) (c : Int); omega
  · omega
theorem tab_zero {c : Nat} : tabT g F 0 k c = 0 := by
  unfold tabT
  split
  · rfl
  · rfl
theorem frP_no {c : Int} (h : hasB F (x : Int) = false ∨ overG g k x = false ∨ ¬ gk g x = c) : frP g F c k x = false := by
  unfold frP
  rcases h with h | h | h
  · rw [h]; simp
  · rw [h]; simp
  · rw [show (gk g x == c) = false from beq_eq_false_iff_ne.2 h]; simp
/-- what isn't in the set, or has no home, is not counted -/
theorem tab_skip {c : Nat} (h : hasB F (m : Int) = false ∨ gk g m = 0 ∨ gk g m = 1) : tabT g F (m + 1) k c = tabT g F m k c := by
  unfold tabT
  split
  · rename_i h2
    rw [frN_succ, frP_no (by rcases h with h | h | h; exact .inl h; all_goals exact .inr (.inr (by omega)))]
    rfl
  · rfl
/-- what is in the set is counted at its home -/
theorem tab_step (hg : RightG g) (hm : m < g.length) {j d : Nat} (hj : gk g j = 2) (ho : overG g j m = true) (hd : gk g m = (d : Int)) (hF : hasB F (m : Int) = true) (c : Nat) (_ : k < g.length) :
    tabT g F (m + 1) k c = upT (tabT g F m) j d (tabT g F m j d + 1) k c := by
  have hdk := under_kind hg hm hj ho
  unfold upT
  by_cases h : k = j ∧ c = d
  · obtain ⟨rfl, rfl⟩ := h
    rw [if_pos ⟨rfl, rfl⟩]
    unfold tabT
    rw [if_pos ⟨hj, by omega⟩, if_pos ⟨hj, by omega⟩, frN_succ, if_pos (by unfold frP; rw [ho, hF, hd]; simp)]
    omega
  · rw [if_neg h]
    unfold tabT
    split
    · rename_i h2
      rw [frN_succ, frP_no]
      · rfl
      · by_cases hc : c = d
        · have hkj : k ≠ j := fun e => h ⟨e, hc⟩
          refine .inr (.inl ?_)
          cases ho2 : overG g k m with
          | false => rfl
          | true => exact absurd (under_one hg hm h2.1 hj ho2 ho) hkj
        · exact .inr (.inr (by rw [hd]; omega))
    · rfl
theorem fr_far {c : Nat} (hc : 2 ≤ c) (hm : g.length ≤ m) : frN g F (c : Int) k m = frN g F (c : Int) k g.length :=
  cntP_gap hm fun y h1 _ => frP_no (.inr (.inr (by rw [far_kind h1]; omega)))
theorem tab_gap {c m' : Nat} (h : m ≤ m') (hg : ∀ y, m ≤ y → y < m' → hasB F (y : Int) = false) : tabT g F m' k c = tabT g F m k c := by
  unfold tabT
  split
  · unfold frN
    rw [cntP_gap h fun y h1 h2 => frP_no (.inl (hg y h1 h2))]
  · rfl

/-! Who suits, by what is counted -/
theorem fr_self (hg : RightG g) (hk : k < g.length) (h2 : gk g k = 2) : frN g F 2 k g.length = if hasB F (k : Int) = true then 1 else 0 := by
  have hoth : ∀ y, y < g.length → y ≠ k → frP g F 2 k y = false := by
    intro y hy hne
    by_cases hky : gk g y = 2
    · refine frP_no (.inr (.inl ?_))
      cases ho : overG g k y with
      | false => rfl
      | true => exact absurd (node_node hg hy h2 hky ho).symm hne
    · exact frP_no (.inr (.inr hky))
  split
  · rename_i h
    exact cntP_one hk (by unfold frP; rw [over_self, h, h2]; rfl) hoth
  · rename_i h
    refine cntP_zero fun y hy => ?_
    by_cases hyk : y = k
    · subst hyk
      exact frP_no (.inl (by cases hb : hasB F (y : Int) with | false => rfl | true => exact absurd hb h))
    · exact hoth y hy hyk
theorem cntP_same {p q : Nat → Bool} : ∀ {n : Nat}, (∀ k, k < n → p k = true → q k = true) → cntP p n = cntP q n → ∀ k, k < n → p k = q k
  | 0, _, _, k, hk => absurd hk (by omega)
  | n + 1, h, he, k, hk => by
    have hm := cntP_mono (m := n) (fun j hj => h j (by omega))
    have hn := h n (by omega)
    rw [cntP_succ, cntP_succ] at he
    have hpq : p n = q n ∧ cntP p n = cntP q n := by
      cases hp : p n with
      | true =>
        rw [hp, hn hp, if_pos rfl] at he
        exact ⟨(hn hp).symm, by omega⟩
      | false =>
        cases hq : q n with
        | false => rw [hp, hq] at he; exact ⟨rfl, by simpa using he⟩
        | true => rw [hp, hq] at he; simp at he; omega
    by_cases hkn : k = n
    · subst hkn; exact hpq.1
    · exact cntP_same (n := n) (fun j hj => h j (by omega)) hpq.2 k (by omega)
def allT (g : Gr) : List Int := underL g 0
theorem all_is (h : rightG g = true) : underL g 0 = allN g.length := by
  have hg := rightG_is h
  rw [show (0 : Int) = ((0 : Nat) : Int) from rfl, underL_is h hg.pos]
  exact numsF_ext fun k hk => over_zero hg k hk
/-- at a node all is free that is free anywhere -/
def sameT (g : Gr) (F : List Int) (k : Nat) : Bool := decide (tabT g F 256 k 0 = tabT g (underL g 0) 256 k 0 ∧ tabT g F 256 k 1 = tabT g (underL g 0) 256 k 1 ∧ tabT g F 256 k 2 = tabT g (underL g 0) 256 k 2 ∧ tabT g F 256 k 3 = tabT g (underL g 0) 256 k 3 ∧ tabT g F 256 k 4 = tabT g (underL g 0) 256 k 4)
def tagT (g : Gr) (s : Sp) (k : Nat) : Bool := decide (s.tag.size = 0 ∨ gt g k = s.tag)
def enoughT (g : Gr) (F : List Int) (s : Sp) (k : Nat) : Bool := decide (tabT g F 256 k 2 = 1 ∧ s.cores ≤ tabT g F 256 k 3 ∧ s.gpus ≤ tabT g F 256 k 4)
theorem suit_by (h : rightG g = true) (hk : k < g.length) (h2 : gk g k = 2) : suitP g F s k = (tagT g s k && (enoughT g F s k && (!s.whole || sameT g F k))) := by
  have hg := rightG_is h
  have hT : ∀ (F : List Int) (c : Nat), 2 ≤ c → tabT g F 256 k c = frN g F (c : Int) k g.length := fun F c hc => by
    unfold tabT
    rw [if_pos ⟨h2, hc⟩, fr_far hc hg.few]
  have hlow : ∀ (F : List Int) (c : Nat), c < 2 → tabT g F 256 k c = 0 := fun F c hc => by unfold tabT; rw [if_neg (by omega)]
  have e1 : tagT g s k = decide (s.tag.size = 0 ∨ s.tag = gt g k) := decide_eq_decide.2 ⟨fun h => h.imp id Eq.symm, fun h => h.imp id Eq.symm⟩
  have e2 : enoughT g F s k = (hasB F (k : Int) && decide (s.cores ≤ frN g F 3 k g.length ∧ s.gpus ≤ frN g F 4 k g.length)) := by
    unfold enoughT
    rw [hT F 2 (by omega), hT F 3 (by omega), hT F 4 (by omega)]
    rw [show ((2 : Nat) : Int) = 2 from rfl, fr_self hg hk h2]
    by_cases hb : hasB F (k : Int) = true
    · rw [if_pos hb, hb]; simp
    · rw [if_neg hb, Bool.eq_false_iff.2 hb]; simp
  have e3 : sameT g F k = decide (∀ x, x < g.length → overG g k x = true → hasB F (x : Int) = true) := by
    unfold sameT
    have hall : ∀ x, x < g.length → hasB (underL g 0) (x : Int) = true := fun x hx => by rw [all_is h]; exact has_all hg.few hx
    rw [hlow, hlow, hlow, hlow, hT F 2 (by omega), hT F 3 (by omega), hT F 4 (by omega), hT _ 2 (by omega), hT _ 3 (by omega), hT _ 4 (by omega)]
    any_goals omega
    refine decide_eq_decide.2 ⟨?_, fun hx => ?_⟩
    · rintro ⟨_, _, a2, a3, a4⟩ x hx ho
      have key : ∀ c : Nat, (frN g F (c : Int) k g.length : Int) = frN g (underL g 0) (c : Int) k g.length → gk g x = (c : Int) → hasB F (x : Int) = true := by
        intro c he hc
        have hs := cntP_same (p := frP g F (c : Int) k) (q := frP g (underL g 0) (c : Int) k) (n := g.length) (fun y hy hp => by
          unfold frP at hp ⊢
          rw [Bool.and_eq_true, Bool.and_eq_true] at hp
          rw [hp.1, hall y hy, hp.2.2]; rfl) (by unfold frN at he; omega) x hx
        unfold frP at hs
        rw [ho, hall x hx, hc] at hs
        simpa using hs
      rcases under_kind hg hx h2 ho with e | e | e
      · exact key 2 a2 e
      · exact key 3 a3 e
      · exact key 4 a4 e
    · have key : ∀ c : Nat, frN g F (c : Int) k g.length = frN g (underL g 0) (c : Int) k g.length := fun c => cntP_congr fun y hy => by
        unfold frP
        cases ho : overG g k y with
        | false => rfl
        | true => rw [hx y hy ho, hall y hy]
      exact ⟨rfl, rfl, by rw [key 2], by rw [key 3], by rw [key 4]⟩
  rw [e1, e2, e3]
  unfold suitP
  rw [h2]
  cases hasB F (k : Int) <;> cases (decide (s.tag.size = 0 ∨ s.tag = gt g k)) <;> simp

/-! The list of those that suit -/
theorem numsF_filter (p q : Nat → Bool) : ∀ n, (numsF p n).filter (fun x => q x.toNat) = numsF (fun k => p k && q k) n
  | 0 => rfl
  | n + 1 => by
    rw [numsF_succ, List.filter_append, numsF_filter p q n, numsF_succ]
    congr 1
    cases hp : p n with
    | false => simp
    | true => cases hq : q n <;> simp [hq]
/-- the nodes that suit -/
def suitL (g : Gr) (F : List Int) (s : Sp) : List Int := if mayB g F s = true then numsF (suitP g F s) g.length else []
theorem suitL_of (h : mayB g F s = true) : suitL g F s = numsF (suitP g F s) g.length := by unfold suitL; rw [if_pos h]
theorem suitL_no (h : mayB g F s = false) : suitL g F s = [] := by unfold suitL; rw [if_neg (by rw [h]; simp)]
theorem nodes_suit (h : mayB g F s = true) : (nodesL g).filter (fun x => suitP g F s x.toNat) = suitL g F s := by
  rw [suitL_of h]
  unfold nodesL
  rw [if_pos (mayB_is h).1, numsF_filter]
  refine numsF_ext fun k _ => ?_
  cases hs : suitP g F s k with
  | false => simp
  | true => rw [suit_node hs]; rfl
theorem suitL_many : manyL g F s = (suitL g F s).length := by
  unfold manyL suitL
  split
  · rw [numsF_cnt]; rfl
  · rfl
theorem suitL_has {a : Int} : suitsL g F s a = (suitL g F s).contains a := by
  unfold suitsL suitL
  by_cases h : mayB g F s = true
  · rw [if_pos h, h, Bool.true_and, Bool.eq_iff_iff, Bool.and_eq_true, decide_eq_true_eq, List.contains_iff_mem, mem_numsF]
    constructor
    · rintro ⟨⟨h1, h2⟩, h3⟩
      exact ⟨a.toNat, by omega, h3, by omega⟩
    · rintro ⟨k, h1, h2, rfl⟩
      exact ⟨⟨by omega, by omega⟩, by rwa [Int.toNat_natCast]⟩
  · rw [if_neg h, Bool.eq_false_iff.2 h]; rfl
theorem suitL_len (h : mayB g F s = true) : (suitL g F s).length = cntS g F s g.length := by rw [suitL_of h, numsF_cnt]; rfl
theorem suitL_few : (suitL g F s).length ≤ 256 := by
  unfold suitL
  split
  · rename_i h
    exact Nat.le_trans (numsF_len _ _) (rightG_is (mayB_is h).1).few
  · exact Nat.zero_le _
theorem suitL_i64 : ∀ x ∈ suitL g F s, I64 x := by
  unfold suitL
  split
  · rename_i h
    exact numsF_i64 (by have := (rightG_is (mayB_is h).1).few; omega)
  · intro x hx; cases hx
/-- the first c of them -/
theorem numsF_take (p : Nat → Bool) (c : Nat) : ∀ n, (numsF p n).take c = numsF (fun k => p k && decide (cntP p k < c)) n
  | 0 => by simp [numsF]
  | n + 1 => by
    rw [numsF_succ, numsF_succ, ← numsF_take p c n, List.take_append]
    congr 1
    rw [numsF_cnt]
    cases hp : p n with
    | false => simp
    | true =>
      by_cases h : cntP p n < c
      · rw [show c - cntP p n = (c - cntP p n - 1) + 1 by omega]; simp [h]
      · rw [show c - cntP p n = 0 by omega]; simp [h]
theorem sel_take (h : mayB g F s = true) (h0 : 0 ≤ s.nodes) : (suitL g F s).take s.nodes.toNat = numsF (selP g F s) g.length := by
  rw [suitL_of h, numsF_take]
  refine numsF_ext fun k _ => ?_
  unfold selP cntS
  congr 1
  exact decide_eq_decide.2 (by omega)

/-! What is left to be taken -/
def mostS (s : Sp) (c : Nat) : Int := if s.whole = true then (if c = 2 then 1 else if c = 3 ∨ c = 4 then 256 else 0) else (if c = 3 then s.cores else if c = 4 then s.gpus else 0)
/-- as the first m numbers are looked at: the nodes' part -/
def firstT (g : Gr) (F : List Int) (s : Sp) (m k c : Nat) : Int := if k < m ∧ selP g F s k = true then mostS s c else 0
def leftT (g : Gr) (F : List Int) (s : Sp) (m k c : Nat) : Int := if selP g F s k = true then max 0 (mostS s c - (if 2 ≤ c then (frN g F (c : Int) k m : Int) else 0)) else 0
theorem most_range (hs : rightS s = true) (c : Nat) : 0 ≤ mostS s c ∧ mostS s c ≤ 256 := by
  obtain ⟨_, _, q2, q3, _⟩ := rightS_is hs
  unfold mostS
  split
  · split
    · omega
    · split <;> omega
  · split
    · omega
    · split <;> omega
theorem left_range (hs : rightS s = true) (c : Nat) : 0 ≤ leftT g F s m k c ∧ leftT g F s m k c ≤ 256 := by
  have := most_range hs c
  unfold leftT
  split
  · omega
  · omega
theorem left_start (hs : rightS s = true) (c : Nat) (hk : k < g.length) : firstT g F s g.length k c = leftT g F s 0 k c := by
  have := most_range hs c
  unfold firstT leftT
  by_cases h : selP g F s k = true
  · rw [if_pos ⟨hk, h⟩, if_pos h]
    have e : frN g F (c : Int) k 0 = 0 := rfl
    rw [e]
    split <;> omega
  · rw [if_neg (fun e => h e.2), if_neg h]
theorem first_zero (c : Nat) : firstT g F s 0 k c = 0 := by unfold firstT; rw [if_neg (by omega)]
theorem first_step (c : Nat) {x : Nat} (hx : selP g F s x = true) {m : Nat} (hm : m ≤ x) (hgap : ∀ y, m ≤ y → y < x → selP g F s y = false) : firstT g F s (x + 1) k c = if k = x then mostS s c else firstT g F s m k c := by
  unfold firstT
  by_cases h : k = x
  · subst h
    rw [if_pos rfl, if_pos ⟨by omega, hx⟩]
  · rw [if_neg h]
    by_cases h2 : k < m
    · by_cases h3 : selP g F s k = true
      · rw [if_pos ⟨by omega, h3⟩, if_pos ⟨h2, h3⟩]
      · rw [if_neg (fun e => h3 e.2), if_neg (fun e => h3 e.2)]
    · rw [if_neg (c := k < m ∧ _) (fun e => h2 e.1)]
      by_cases h3 : k < x + 1
      · exact if_neg (fun e => by have := hgap k (by omega) (by omega); rw [this] at e; cases e.2)
      · exact if_neg (fun e => h3 e.1)
theorem first_end (c : Nat) {m : Nat} (_ : m ≤ g.length) (hgap : ∀ y, m ≤ y → y < g.length → selP g F s y = false) (hk : k < g.length) : firstT g F s m k c = firstT g F s g.length k c := by
  unfold firstT
  by_cases h2 : k < m
  · by_cases h3 : selP g F s k = true
    · rw [if_pos ⟨h2, h3⟩, if_pos ⟨by omega, h3⟩]
    · rw [if_neg (fun e => h3 e.2), if_neg (fun e => h3 e.2)]
  · rw [if_neg (fun e => h2 e.1), if_neg (fun e => by have := hgap k (by omega) hk; rw [this] at e; cases e.2)]
theorem left_gap {c m' : Nat} (h : m ≤ m') (hg : ∀ y, m ≤ y → y < m' → hasB F (y : Int) = false) : leftT g F s m' k c = leftT g F s m k c := by
  unfold leftT frN
  split
  · split
    · rw [cntP_gap h fun y h1 h2 => frP_no (.inl (hg y h1 h2))]
    · rfl
  · rfl
theorem left_skip {c : Nat} (h : gk g m = 0 ∨ gk g m = 1) : leftT g F s (m + 1) k c = leftT g F s m k c := by
  unfold leftT
  split
  · split
    · rw [frN_succ, frP_no (.inr (.inr (by omega)))]; rfl
    · rfl
  · rfl
/-- is a thing got: by what is left at its home -/
theorem left_find (hg' : rightG g = true) (_ : rightS s = true) (hx : x < g.length) {j d : Nat} (hj : gk g j = 2) (ho : overG g j x = true) (hd : gk g x = (d : Int)) (hF : hasB F (x : Int) = true) :
    findP g F s x = decide (0 < leftT g F s x j d) := by
  have hg := rightG_is hg'
  have hdk := under_kind hg hx hj ho
  rw [find_under hg hj hx ho]
  unfold leftT
  cases hsel : selP g F s j with
  | false => rw [if_neg (by simp)]; simp
  | true =>
    rw [if_pos rfl, Bool.true_and, if_pos (by omega)]
    have hn := frN_le (g := g) (F := F) (k := j) (m := x) (d : Int)
    have hfew := hg.few
    unfold getP
    rw [ho, hF, Bool.true_and, Bool.true_and]
    cases hw : s.whole with
    | true =>
      have hm : (frN g F (d : Int) j x : Int) < mostS s d := by
        unfold mostS
        rw [if_pos hw]
        rcases hdk with e | e | e
        · rw [if_pos (by omega)]
          have hxj : x = j := (node_node hg hx hj e ho).symm
          have h0 : frN g F (d : Int) j x = 0 := by
            refine cntP_zero fun y hy => ?_
            by_cases hoy : overG g j y = true
            · have := over_le hoy; omega
            · exact frP_no (.inr (.inl (by cases hb : overG g j y with | false => rfl | true => exact absurd hb hoy)))
          rw [h0]; omega
        · rw [if_neg (by omega), if_pos (by omega)]; omega
        · rw [if_neg (by omega), if_pos (by omega)]; omega
      rw [Bool.true_or]
      exact (decide_eq_true (by omega)).symm
    | false =>
      rw [Bool.false_or]
      have hp : frP g F (d : Int) j x = true := by unfold frP; rw [ho, hF, hd]; simp
      have hn1 := frN_succ g F (d : Int) j x
      rw [if_pos hp] at hn1
      unfold mostS
      rw [if_neg (by rw [hw]; simp)]
      rcases hdk with e | e | e
      · obtain rfl : d = 2 := by omega
        rw [e, if_neg (by omega), if_neg (by omega)]
        rw [show ((2 : Int) == 3) = false from rfl, show ((2 : Int) == 4) = false from rfl]
        simp; omega
      · obtain rfl : d = 3 := by omega
        rw [e, if_pos rfl]
        rw [show ((3 : Int) == 3) = true from rfl, show ((3 : Int) == 4) = false from rfl, Bool.true_and, Bool.false_and, Bool.or_false]
        exact decide_eq_decide.2 (by rw [show ((3 : Nat) : Int) = 3 from rfl] at hn1 ⊢; omega)
      · obtain rfl : d = 4 := by omega
        rw [e, if_neg (by omega), if_pos rfl]
        rw [show ((4 : Int) == 3) = false from rfl, show ((4 : Int) == 4) = true from rfl, Bool.false_and, Bool.true_and, Bool.false_or]
        exact decide_eq_decide.2 (by rw [show ((4 : Nat) : Int) = 4 from rfl] at hn1 ⊢; omega)
theorem left_else (hg : RightG g) (hx : x < g.length) {j d k c : Nat} (hj : gk g j = 2) (ho : overG g j x = true) (hd : gk g x = (d : Int)) (h : ¬ (k = j ∧ c = d)) : leftT g F s (x + 1) k c = leftT g F s x k c := by
  unfold leftT
  cases hsel : selP g F s k with
  | false => rfl
  | true =>
    rw [if_pos rfl, if_pos rfl]
    split
    · rw [frN_succ, frP_no]
      · rfl
      · by_cases hc : c = d
        · have hkj : k ≠ j := fun e => h ⟨e, hc⟩
          refine .inr (.inl ?_)
          cases ho2 : overG g k x with
          | false => rfl
          | true => exact absurd (under_one hg hx (suit_node (sel_suit hsel)) hj ho2 ho) hkj
        · exact .inr (.inr (by rw [hd]; omega))
    · rfl
/-- it is taken -/
theorem left_take (hg' : rightG g = true) (hx : x < g.length) {j d : Nat} (hj : gk g j = 2) (ho : overG g j x = true) (hd : gk g x = (d : Int)) (hF : hasB F (x : Int) = true) (hl : 0 < leftT g F s x j d) (c : Nat) :
    leftT g F s (x + 1) k c = upT (leftT g F s x) j d (leftT g F s x j d - 1) k c := by
  have hg := rightG_is hg'
  have hdk := under_kind hg hx hj ho
  have hp : frP g F (d : Int) j x = true := by unfold frP; rw [ho, hF, hd]; simp
  have hn1 := frN_succ g F (d : Int) j x
  rw [if_pos hp] at hn1
  unfold upT
  by_cases h : k = j ∧ c = d
  · obtain ⟨rfl, rfl⟩ := h
    rw [if_pos ⟨rfl, rfl⟩]
    unfold leftT at hl ⊢
    cases hsel : selP g F s k with
    | false => rw [hsel, if_neg (by simp)] at hl; omega
    | true =>
      rw [hsel, if_pos rfl, if_pos (by omega)] at hl
      rw [if_pos rfl, if_pos rfl, if_pos (by omega), if_pos (by omega), hn1]
      omega
  · rw [if_neg h]
    exact left_else hg hx hj ho hd h
/-- nothing is left: it isn't taken -/
theorem left_none (hg' : rightG g = true) (hx : x < g.length) {j d : Nat} (hj : gk g j = 2) (ho : overG g j x = true) (hd : gk g x = (d : Int)) (hl : ¬ 0 < leftT g F s x j d) (c : Nat) : leftT g F s (x + 1) k c = leftT g F s x k c := by
  have hg := rightG_is hg'
  have hdk := under_kind hg hx hj ho
  by_cases h : k = j ∧ c = d
  · obtain ⟨rfl, rfl⟩ := h
    have hn1 := frN_succ g F (c : Int) k x
    unfold leftT at hl ⊢
    cases hsel : selP g F s k with
    | false => rfl
    | true =>
      rw [hsel, if_pos rfl, if_pos (by omega)] at hl
      rw [if_pos rfl, if_pos rfl, if_pos (by omega), if_pos (by omega), hn1]
      split <;> omega
  · exact left_else hg hx hj ho hd h
/-- what has no home is not got -/
theorem find_homeless (hg' : rightG g = true) (hx : x < g.length) (h : gk g x = 0 ∨ gk g x = 1) : findP g F s x = false := by
  cases hf : findP g F s x with
  | false => rfl
  | true =>
    obtain ⟨j, hj, h1, h2⟩ := findP_is.1 hf
    have h3 := (get_free (sel_suit h1) hx h2).1
    have := under_kind (rightG_is hg') hx (suit_node (sel_suit h1)) h3
    omega
theorem find_unfree (hx : x < g.length) (h : hasB F (x : Int) = false) : findP g F s x = false := by
  cases hf : findP g F s x with
  | false => rfl
  | true =>
    obtain ⟨j, hj, h1, h2⟩ := findP_is.1 hf
    have h3 := (get_free (sel_suit h1) hx h2).2
    rw [h] at h3; cases h3
end

end Go.Proofs.YtpoalgkgomljmaaDoor

namespace Go.Proofs.YtpoalgkgomljmaaDoor
open Go.RowKit

/-- may a thing of the one kind be part of one of the other -/
def partK (k u : Int) : Bool := decide ((k = 1 ∧ u = 0) ∨ (k = 2 ∧ (u = 0 ∨ u = 1)) ∨ ((k = 3 ∨ k = 4) ∧ u = 2))
set_option maxRecDepth 100000 in
set_option maxHeartbeats 1000000 in
theorem partOf_any (k u : Int) (w : World) : Calls Tryd.prog 71 #[.int .i64 k, .int .i64 u] w fun e w' => e = .returned (.bool (partK k u)) ∧ w = w' := by
  have kd : ∀ (x q : Int), x = q ∨ ((x == q) = false ∧ x ≠ q) := fun x q => by
    by_cases h : x = q
    · exact .inl h
    · exact .inr ⟨by simpa using h, h⟩
  have KD := Lib.hid kd
  clear kd
  rcases KD.out k 1 with rfl | ⟨k1, n1⟩
  · rcases KD.out u 0 with rfl | ⟨u0, m0⟩
    · have e1 : Hid (partK 1 0 = true) := Lib.hid (by decide)
      go_enter Tryd.func71, Tryd.ntmps71
      go_wp2
      go_ret
      exact ⟨ret_bool e1.out, rfl⟩
    · have e1 : Hid (partK 1 u = false) := Lib.hid (by unfold partK; rw [decide_eq_false_iff_not]; omega)
      clear m0
      go_enter Tryd.func71, Tryd.ntmps71
      go_wp2
      go_ret
      exact ⟨ret_bool e1.out, rfl⟩
  · rcases KD.out k 2 with rfl | ⟨k2, n2⟩
    · clear k1 n1
      rcases KD.out u 0 with rfl | ⟨u0, m0⟩
      · have e1 : Hid (partK 2 0 = true) := Lib.hid (by decide)
        go_enter Tryd.func71, Tryd.ntmps71
        go_wp2
        go_ret
        exact ⟨ret_bool e1.out, rfl⟩
      · rcases KD.out u 1 with rfl | ⟨u1, m1⟩
        · have e1 : Hid (partK 2 1 = true) := Lib.hid (by decide)
          clear u0 m0
          go_enter Tryd.func71, Tryd.ntmps71
          go_wp2
          go_ret
          exact ⟨ret_bool e1.out, rfl⟩
        · have e1 : Hid (partK 2 u = false) := Lib.hid (by unfold partK; rw [decide_eq_false_iff_not]; omega)
          clear m0 m1
          go_enter Tryd.func71, Tryd.ntmps71
          go_wp2
          go_ret
          exact ⟨ret_bool e1.out, rfl⟩
    · rcases KD.out k 3 with rfl | ⟨k3, n3⟩
      · clear k1 n1 k2 n2
        rcases KD.out u 2 with rfl | ⟨u2, m2⟩
        · have e1 : Hid (partK 3 2 = true) := Lib.hid (by decide)
          go_enter Tryd.func71, Tryd.ntmps71
          go_wp2
          go_ret
          exact ⟨ret_bool e1.out, rfl⟩
        · have e1 : Hid (partK 3 u = false) := Lib.hid (by unfold partK; rw [decide_eq_false_iff_not]; omega)
          clear m2
          go_enter Tryd.func71, Tryd.ntmps71
          go_wp2
          go_ret
          exact ⟨ret_bool e1.out, rfl⟩
      · rcases KD.out k 4 with rfl | ⟨k4, n4⟩
        · clear k1 n1 k2 n2 k3 n3
          rcases KD.out u 2 with rfl | ⟨u2, m2⟩
          · have e1 : Hid (partK 4 2 = true) := Lib.hid (by decide)
            go_enter Tryd.func71, Tryd.ntmps71
            go_wp2
            go_ret
            exact ⟨ret_bool e1.out, rfl⟩
          · have e1 : Hid (partK 4 u = false) := Lib.hid (by unfold partK; rw [decide_eq_false_iff_not]; omega)
            clear m2
            go_enter Tryd.func71, Tryd.ntmps71
            go_wp2
            go_ret
            exact ⟨ret_bool e1.out, rfl⟩
        · have e1 : Hid (partK k u = false) := Lib.hid (by unfold partK; rw [decide_eq_false_iff_not]; omega)
          clear n1 n2 n3 n4
          go_enter Tryd.func71, Tryd.ntmps71
          go_wp2
          go_ret
          exact ⟨ret_bool e1.out, rfl⟩
theorem partOf_b {k u : Int} {w : World} {b : Bool} (h : partK k u = b) : Calls Tryd.prog 71 #[.int .i64 k, .int .i64 u] w fun e w' => e = .returned (.bool b) ∧ w = w' := by
  subst h; exact partOf_any k u w

/-- a byte that is a letter or a digit: what the two tests say -/
theorem tagC_parts (c : UInt8) : (tagC c = true ∧ ((decide (97 ≤ (c.toNat : Int)) = true ∧ decide ((c.toNat : Int) ≤ 122) = true ∧ decide (48 ≤ (c.toNat : Int)) = true ∧ decide ((c.toNat : Int) ≤ 57) = false) ∨
    (decide (97 ≤ (c.toNat : Int)) = false ∧ decide ((c.toNat : Int) ≤ 122) = true ∧ decide (48 ≤ (c.toNat : Int)) = true ∧ decide ((c.toNat : Int) ≤ 57) = true))) ∨
  (tagC c = false ∧ ((decide (97 ≤ (c.toNat : Int)) = false ∧ decide ((c.toNat : Int) ≤ 122) = true ∧ decide (48 ≤ (c.toNat : Int)) = false ∧ decide ((c.toNat : Int) ≤ 57) = true) ∨
    (decide (97 ≤ (c.toNat : Int)) = false ∧ decide ((c.toNat : Int) ≤ 122) = true ∧ decide (48 ≤ (c.toNat : Int)) = true ∧ decide ((c.toNat : Int) ≤ 57) = false) ∨
    (decide (97 ≤ (c.toNat : Int)) = true ∧ decide ((c.toNat : Int) ≤ 122) = false ∧ decide (48 ≤ (c.toNat : Int)) = true ∧ decide ((c.toNat : Int) ≤ 57) = false))) := by
  unfold tagC
  simp only [Bool.or_eq_true, Bool.and_eq_true, decide_eq_true_eq, decide_eq_false_iff_not, Bool.or_eq_false_iff, Bool.and_eq_false_iff]
  omega

def TagPost (s : ByteArray) (w : World) (e : Ending) (w' : World) : Prop := e = .returned (.bool (tagB s)) ∧ ∃ q, w' = w.drewN q
set_option maxRecDepth 100000 in
set_option maxHeartbeats 2000000 in
theorem tag_any (s : ByteArray) (w : World) (hs : s.size ≤ maxLen) :
    Calls Tryd.prog 44 #[.string s] w (TagPost s w) := by
  unfold maxLen at hs
  by_cases h16 : 16 < s.size
  · have e1 : Hid (tagB s = false) := Lib.hid (by unfold tagB; rw [decide_eq_false (by omega), Bool.and_false])
    go_enter Tryd.func44, Tryd.ntmps44
    go_wp2
    go_ret
    exact ⟨ret_bool e1.out, 0, rfl⟩
  · have h16d : decide ((16 : Int) < s.size) = false := by simp; omega
    go_enter Tryd.func44, Tryd.ntmps44
    go_wp2
    go_loopw [11] (fun i wr => ∃ k : Nat, k ≤ s.size ∧ i = .int .i64 k ∧ (s.data.toList.take k).all tagC = true ∧ ∃ q, wr = w.drewN q) (fun i _ => s.size - (intOf i).toNat)
    case atStart => exact ⟨0, Nat.zero_le _, rfl, rfl, 0, rfl⟩
    case round =>
      obtain ⟨k, hk, rfl, hpre, q, rfl⟩ := hrel
      have HP := Lib.hid hpre
      clear hpre
      by_cases hlt : k < s.size
      · have hs1 := Lib.hid (bytes_snoc s k hlt)
        rcases tagC_parts s[k] with ⟨hc, h⟩ | ⟨hc, h⟩
        · have e1 : Hid ((s.data.toList.take (k + 1)).all tagC = true) := Lib.hid (by rw [hs1.out, List.all_append, HP.out]; simp [hc])
          clear hc hs1
          rcases h with ⟨d0, d1, d2, d3⟩ | ⟨d0, d1, d2, d3⟩
          all_goals
            go_wp2
            go_quiet (fail)
            go_wp2
            go_roundw
            case rel => exact ⟨k + 1, by omega, by go_num, e1.out, q + _, rfl⟩
            case measure => simp [intOf]; omega
        · have e1 : Hid (tagB s = false) := Lib.hid (by
            unfold tagB
            have : s.data.toList.all tagC = false := by
              rw [List.all_eq_false]
              exact ⟨s[k], Array.getElem_mem_toList _, by rw [hc]; simp⟩
            rw [this]; rfl)
          clear hc hs1
          rcases h with ⟨d0, d1, d2, d3⟩ | ⟨d0, d1, d2, d3⟩ | ⟨d0, d1, d2, d3⟩
          all_goals
            go_wp2
            go_quiet (fail)
            go_wp2
            go_ret
            exact ⟨ret_bool e1.out, q + _, rfl⟩
      · have hkn : k = s.size := by omega
        have e1 : Hid (tagB s = true) := Lib.hid (by
          have := HP.out
          rw [List.take_of_length_le (by simp; omega)] at this
          unfold tagB
          rw [this, decide_eq_true (by omega)]; rfl)
        clear hkn
        go_wp2
        go_ret
        exact ⟨ret_bool e1.out, q, rfl⟩

end Go.Proofs.YtpoalgkgomljmaaDoor
