/- The program's Bonus. Written by gen/gen_sharep.py. -/
import Derived.Test.YtaehhafdodoljaaSharePA
import Derived.Test.YtaehhafdodoljaaShareRefB
namespace Go.Proofs.Ytaehhafdodoljaa
open Go.RowKit

/-- is it this Who's? -/
theorem bonus1_any (u : Us) (bw : Nat) (who : Int) (w : World) (hw : CellK w ⟨bw, 0, none⟩ (.int .i64 who)) : Calls Try.prog 35 #[.agg #[.int .i64 u.who, .float .f64 u.had, .float .f64 u.weight], .pointer (some ⟨bw, 0, none⟩)] w fun e w' => e = .returned (.bool (u.who == who)) ∧ Below w.heap.size w w' := by
  have hb0 : Below w.heap.size w (w.alloc (.cells #[.int .i64 u.who, .float .f64 u.had, .float .f64 u.weight] 25)) := (Below.refl _ _).alloc (Nat.le_refl _) _
  have BU : Hid (BoxU (w.alloc (.cells #[.int .i64 u.who, .float .f64 u.had, .float .f64 u.weight] 25)) w.heap.size u) := Lib.hid (boxU_new w u)
  have HB := Lib.hid hb0
  have q0 := BU.out.c0
  have q1 := (hw.next hb0).at'
  clear hb0 hw
  go_enter Try.func35, Try.ntmps35
  go_wp2
  go_ret
  exact ⟨rfl, HB.out⟩
theorem first_who (l : List Us) (who : Int) : ∀ n, (∀ i, i < n → (l.getD i us0).who ≠ who) ∨ ∃ k, k < n ∧ (l.getD k us0).who = who ∧ ∀ i, i < k → (l.getD i us0).who ≠ who
  | 0 => Or.inl fun i hi => absurd hi (by omega)
  | n + 1 => by
    rcases first_who l who n with h | ⟨k, h1, h2, h3⟩
    · by_cases e : (l.getD n us0).who = who
      · exact Or.inr ⟨n, by omega, e, h⟩
      · refine Or.inl fun i hi => ?_
        by_cases ei : i = n
        · subst ei; exact e
        · exact h i (by omega)
    · exact Or.inr ⟨k, by omega, h2, h3⟩
/-- the first place of this Who, or -1 -/
def IdxU (l : List Us) (n : Nat) (who r : Int) : Prop := (r = -1 ∧ ∀ i, i < n → (l.getD i us0).who ≠ who) ∨ ∃ k, k < n ∧ r = k ∧ (l.getD k us0).who = who ∧ ∀ i, i < k → (l.getD i us0).who ≠ who
set_option maxRecDepth 100000 in
set_option maxHeartbeats 8000000 in
theorem index_any (A : Option Addr) (n c : Nat) (l : List Us) (bw : Nat) (who r : Int) (w : World) (hl : UAsk w A n c l) (hw : CellK w ⟨bw, 0, none⟩ (.int .i64 who)) (hr : IdxU l n who r) :
    Calls Try.prog 34 #[.slice A n c, .func (.func 35) #[] #[.pointer (some ⟨bw, 0, none⟩)]] w fun e w' => e = .returned (.int .i64 r) ∧ Below w.heap.size w w' := by
  have UA := Lib.hid hl
  have CW := Lib.hid hw
  have HR := Lib.hid hr
  have HMX := hl.few
  unfold maxLen at HMX
  clear hl hw hr
  go_enter Try.func34, Try.ntmps34
  go_wp2
  go_loopw [8] (fun iv wr => ∃ (k : Nat), k ≤ n ∧ iv = .int .i64 k ∧ (∀ i, i < k → (l.getD i us0).who ≠ who) ∧ Below w.heap.size w wr) (fun iv _ => n - (intOf iv).toNat)
  case atStart => exact ⟨0, Nat.zero_le _, rfl, fun i hi => absurd hi (by omega), Below.refl _ _⟩
  case round =>
    obtain ⟨k, hk, rfl, hno, hbw⟩ := hrel
    have HNO := Lib.hid hno
    have UB := Lib.hid (UA.out.next hbw)
    have CB := Lib.hid (CW.out.next hbw)
    have HB := Lib.hid hbw
    clear hno hbw
    by_cases hlt : k < n
    · obtain ⟨b, off, hA, hbl, ⟨e0, e1, e2⟩, hu⟩ := UB.out.one hlt
      subst hA
      obtain ⟨u, eu⟩ : ∃ u, l.getD k us0 = u := ⟨_, rfl⟩
      rw [eu] at hu e0 e1 e2
      have HEU := Lib.hid eu
      have HC := Lib.hid (bonus1_any u bw who wr CB.out)
      clear hu eu
      by_cases hwk : u.who = who
      · rw [show (u.who == who) = true from beq_iff_eq.2 hwk] at HC
        have HK : Hid ((k : Int) = r) := Lib.hid (by
          rcases HR.out with ⟨_, h2⟩ | ⟨k', h1, h2, h3, h4⟩
          · exact absurd (by rw [HEU.out]; exact hwk) (h2 k hlt)
          · have : k = k' := by
              rcases Nat.lt_trichotomy k k' with h | h | h
              · exact absurd (by rw [HEU.out]; exact hwk) (h4 k h)
              · exact h
              · exact absurd h3 (HNO.out k' h)
            rw [h2, this])
        clear hwk
        go_wp2_with fail
        refine HC.out.mono ?_
        rintro e w2 ⟨rfl, hb⟩
        have HBq := Lib.hid (HB.out.trans (hb.mono HB.out.size))
        clear HB
        have HB := HBq
        clear HBq
        clear hb e0 e1 e2
        go_wp2
        go_ret
        exact ⟨by rw [← HK.out]; rfl, HB.out⟩
      · rw [show (u.who == who) = false from beq_eq_false_iff_ne.2 hwk] at HC
        have HN : Hid (∀ i, i < k + 1 → (l.getD i us0).who ≠ who) := Lib.hid (fun i hi => by
          by_cases e : i = k
          · subst e; rw [HEU.out]; exact hwk
          · exact HNO.out i (by omega))
        clear hwk
        go_wp2_with fail
        refine HC.out.mono ?_
        rintro e w2 ⟨rfl, hb⟩
        have HBq := Lib.hid (HB.out.trans (hb.mono HB.out.size))
        clear HB
        have HB := HBq
        clear HBq
        clear hb e0 e1 e2
        go_wp2
        go_roundw
        case rel => exact ⟨k + 1, by omega, by go_num, HN.out, HB.out⟩
        case measure => simp [intOf] <;> omega
    · have HK : Hid (-1 = r) := Lib.hid (by
        rcases HR.out with ⟨h1, _⟩ | ⟨k', h1, h2, h3, h4⟩
        · exact h1.symm
        · exact absurd h3 (HNO.out k' (by omega)))
      go_wp2
      go_ret
      exact ⟨by rw [← HK.out]; rfl, HB.out⟩
set_option maxRecDepth 100000 in
set_option maxHeartbeats 8000000 in
theorem bonus_any (A : Option Addr) (n c : Nat) (l : List Us) (who : Int) (w : World) (hl : UAsk w A n c l) (hn : n ≤ 1000) : Calls Try.prog 21 #[.slice A n c, .int .i64 who] w fun e w' => e = .returned (.int .i64 (bonusU l who)) ∧ Below w.heap.size w w' := by
  have hb0 : Below w.heap.size w (w.alloc (.cells #[.int .i64 who] 3)) := (Below.refl _ _).alloc (Nat.le_refl _) _
  have CW : Hid (CellK (w.alloc (.cells #[.int .i64 who] 3)) ⟨w.heap.size, 0, none⟩ (.int .i64 who)) := Lib.hid ⟨by simp, (cell_of_row _ _ 0 _ _ (0, 0) (heap_alloc_new w _)).trans rfl⟩
  have UA := Lib.hid (hl.next hb0)
  have HLN := Lib.hid hl.len
  have HB := Lib.hid hb0
  obtain ⟨z, hz⟩ : ∃ z, bonusU l who = z := ⟨_, rfl⟩
  have HZ := Lib.hid hz
  rw [hz]
  have hcase : (∀ i, i < n → (l.getD i us0).who ≠ who) ∨ ∃ k, k < n ∧ (l.getD k us0).who = who ∧ ∀ i, i < k → (l.getD i us0).who ≠ who := by
    exact first_who l who n
  clear hl hz hb0
  rcases hcase with hno | ⟨k, hkn, hwk, hno⟩
  · have HIX := Lib.hid (index_any A n c l w.heap.size who (-1) (w.alloc (.cells #[.int .i64 who] 3)) UA.out CW.out (Or.inl ⟨rfl, hno⟩))
    have HK : Hid (z = 0) := Lib.hid (by rw [← HZ.out]; unfold bonusU; rw [find_none (by rw [HLN.out]; exact hno)])
    clear hno
    go_enter Try.func21, Try.ntmps21
    go_wp2_with fail
    refine HIX.out.mono ?_
    rintro e w1 ⟨rfl, hb⟩
    have HBq := Lib.hid (HB.out.trans (hb.mono HB.out.size))
    clear HB
    have HB := HBq
    clear HBq
    clear hb
    go_wp2
    go_ret
    exact ⟨by rw [HK.out]; rfl, HB.out⟩
  · have HIX := Lib.hid (index_any A n c l w.heap.size who k (w.alloc (.cells #[.int .i64 who] 3)) UA.out CW.out (Or.inr ⟨k, hkn, rfl, hwk, hno⟩))
    have HFI : Hid (l.find? (fun v => decide (v.who = who)) = some (l.getD k us0)) := Lib.hid (find_step hno (by rw [HLN.out]; exact hkn) hwk)
    clear hno hwk
    obtain ⟨u, eu⟩ : ∃ u, l.getD k us0 = u := ⟨_, rfl⟩
    have HEU := Lib.hid eu
    rw [eu] at HFI
    have HO : Hid ((othersU l who (shareU u) : Int) = z) := Lib.hid (by rw [← HZ.out]; unfold bonusU; rw [HFI.out])
    have HSU := Lib.hid (shareU_le u)
    clear eu
    go_enter Try.func21, Try.ntmps21
    go_wp2_with fail
    refine HIX.out.mono ?_
    rintro e w1 ⟨rfl, hb⟩
    have UB := Lib.hid (UA.out.next hb)
    have CB := Lib.hid (CW.out.next hb)
    have HBq := Lib.hid (HB.out.trans (hb.mono HB.out.size))
    clear HB
    have HB := HBq
    clear HBq
    clear hb
    obtain ⟨b, off, hA, hbl, ⟨e0, e1, e2⟩, hu⟩ := UB.out.one hkn
    subst hA
    rw [HEU.out] at hu e0 e1 e2
    have HSH := Lib.hid (share_any u w1 hu)
    have d0 : decide ((k : Int) < 0) = false := decide_eq_false (by omega)
    clear hu
    go_wp2_with fail
    refine HSH.out.mono ?_
    rintro e w2 ⟨rfl, hb⟩
    have UD := Lib.hid (UB.out.next hb)
    have CD := Lib.hid (CB.out.next hb)
    have HBq := Lib.hid (HB.out.trans (hb.mono HB.out.size))
    clear HB
    have HB := HBq
    clear HBq
    clear hb e0 e1 e2 d0 UB CB HSH
    go_wp2
    go_loopw [7, 22] (fun cv jv wr => ∃ (j m : Nat), j ≤ n ∧ m ≤ j ∧ jv = .int .i64 j ∧ cv = .int .i64 m ∧ othersU (l.take j) who (shareU u) = m ∧ UAsk wr (some ⟨b, off, none⟩) n c l ∧ CellK wr ⟨w.heap.size, 0, none⟩ (.int .i64 who) ∧ Below w.heap.size w wr) (fun _ jv _ => n - (intOf jv).toNat)
    case atStart => exact ⟨0, 0, Nat.zero_le _, Nat.le_refl _, rfl, rfl, rfl, UD.out, CD.out, HB.out⟩
    case round =>
      obtain ⟨j, m, hj, hmj, rfl, rfl, hoth, huc, hcw, hb⟩ := hrel
      have HBZ := Lib.hid hb
      clear HB
      have HOT := Lib.hid hoth
      by_cases hjn : j < n
      · have HST := Lib.hid (others_step (l := l) (who := who) (s := shareU u) (j := j) (by rw [HLN.out]; exact hjn))
        obtain ⟨b2, off2, he2, hbl2, ⟨e0, e1, e2⟩, hv⟩ := huc.one hjn
        injection he2 with he2
        injection he2 with x1 x2 x3
        subst x1 x2
        clear x3
        obtain ⟨v, ev⟩ : ∃ v, l.getD j us0 = v := ⟨_, rfl⟩
        rw [ev] at hv e0 e1 e2 HST
        have hb1 : Below wr.heap.size wr (wr.alloc (.cells #[.int .i64 v.who, .float .f64 v.had, .float .f64 v.weight] 25)) := (Below.refl _ _).alloc (Nat.le_refl _) _
        have BU : Hid (BoxU (wr.alloc (.cells #[.int .i64 v.who, .float .f64 v.had, .float .f64 v.weight] 25)) wr.heap.size v) := Lib.hid (boxU_new wr v)
        have UC := Lib.hid (huc.next hb1)
        have CC := Lib.hid (hcw.next hb1)
        have HB := Lib.hid (hb.trans (hb1.mono hb.size))
        have HSV := Lib.hid (share_any v (wr.alloc (.cells #[.int .i64 v.who, .float .f64 v.had, .float .f64 v.weight] 25)) hv)
        have hgv := fgr (shareU_le v) HSU.out
        have q0 := BU.out.c0
        have q1 := BU.out.c1
        have q2 := BU.out.c2
        have q3 := CC.out.at'
        clear hv ev hb hb1 huc hcw hoth
        by_cases hwv : v.who = who
        · have dv : (v.who != who) = false := by rw [hwv]; exact bne_self_eq_false _
          have HD : Hid (othersU (l.take (j + 1)) who (shareU u) = m) := Lib.hid (by rw [HST.out, HOT.out, decide_eq_false (not_not_intro hwv)]; rfl)
          clear hwv hgv
          go_wp2
          go_roundw
          case rel => exact ⟨j + 1, m, by omega, by omega, by go_num, rfl, HD.out, UC.out, CC.out, HB.out⟩
          case measure => simp [intOf] <;> omega
        · have dv : (v.who != who) = true := bne_iff_ne.2 hwv
          by_cases hgt : shareU u < shareU v
          · rw [decide_eq_true hgt] at hgv
            have HD : Hid (othersU (l.take (j + 1)) who (shareU u) = m + 1) := Lib.hid (by rw [HST.out, HOT.out, decide_eq_true hwv, decide_eq_true hgt]; rfl)
            clear hwv hgt
            go_wp2_with fail
            refine HSV.out.mono ?_
            rintro e w5 ⟨rfl, hb⟩
            have UE := Lib.hid (UC.out.next hb)
            have CE := Lib.hid (CC.out.next hb)
            have HBq := Lib.hid (HB.out.trans (hb.mono HB.out.size))
            clear HB
            have HB := HBq
            clear HBq
            clear hb q0 q1 q2 q3 e0 e1 e2
            go_wp2
            go_roundw
            case rel => exact ⟨j + 1, m + 1, by omega, by omega, by go_num, by go_num, HD.out, UE.out, CE.out, HB.out⟩
            case measure => simp [intOf] <;> omega
          · rw [decide_eq_false hgt] at hgv
            have HD : Hid (othersU (l.take (j + 1)) who (shareU u) = m) := Lib.hid (by rw [HST.out, HOT.out, decide_eq_true hwv, decide_eq_false hgt]; rfl)
            clear hwv hgt
            go_wp2_with fail
            refine HSV.out.mono ?_
            rintro e w5 ⟨rfl, hb⟩
            have UE := Lib.hid (UC.out.next hb)
            have CE := Lib.hid (CC.out.next hb)
            have HBq := Lib.hid (HB.out.trans (hb.mono HB.out.size))
            clear HB
            have HB := HBq
            clear HBq
            clear hb q0 q1 q2 q3 e0 e1 e2
            go_wp2
            go_roundw
            case rel => exact ⟨j + 1, m, by omega, by omega, by go_num, rfl, HD.out, UE.out, CE.out, HB.out⟩
            case measure => simp [intOf] <;> omega
      · have HM : Hid ((m : Int) = z) := Lib.hid (by
          rw [← HO.out, ← HOT.out, List.take_of_length_le (by rw [HLN.out]; omega)])
        clear huc hcw hoth hb
        go_wp2
        go_ret
        exact ⟨by rw [← HM.out]; rfl, HBZ.out⟩

end Go.Proofs.Ytaehhafdodoljaa
