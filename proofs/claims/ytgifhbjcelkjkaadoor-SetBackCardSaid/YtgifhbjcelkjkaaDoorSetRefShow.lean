/- What the reference's Show answers: a set's text, or none. -/
import Derived.Test.YtgifhbjcelkjkaaDoorSetRun
namespace Go.Proofs.YtgifhbjcelkjkaaDoor
open Go.RowKit

/-- the text of the runs that begin below k -/
def TxtB (xs : List Int) (k : Nat) : ByteArray := ⟨(joinC ((runsBelow xs k).map item)).toArray⟩
/-- a list's text; empty, if it is no set -/
def ShowB (xs : List Int) : ByteArray := if rightB xs then ⟨(showL xs).toArray⟩ else ⟨#[]⟩

theorem item_len {l : List Int} (h : rightB l = true) {r : Int × Int} (hr : r ∈ runsOf l) : (item r).length ≤ 7 := by
  obtain ⟨g1, g2, -, -⟩ := (runs_ok l h).2.1 r hr
  have h1 := right_mem h r.1 (g2 r.1 (Int.le_refl _) g1)
  have h2 := right_mem h r.2 (g2 r.2 g1 (Int.le_refl _))
  have e : r = (((r.1.toNat : Nat) : Int), ((r.2.toNat : Nat) : Int)) := by
    have e1 : ((r.1.toNat : Nat) : Int) = r.1 := by omega
    have e2 : ((r.2.toNat : Nat) : Int) = r.2 := by omega
    rw [e1, e2]
  rw [e, item_nat]
  have ha := dec_length (show r.1.toNat < 256 by omega)
  have hb := dec_length (show r.2.toNat < 256 by omega)
  split
  · simp; omega
  · omega
theorem joinC_len : ∀ ds : List (List UInt8), (∀ x ∈ ds, x.length ≤ 7) → (joinC ds).length ≤ 8 * ds.length
  | [], _ => by simp [joinC]
  | [x], h => by have := h x (by simp); simp [joinC]; omega
  | x :: y :: t, h => by
    have ih := joinC_len (y :: t) fun z hz => h z (List.mem_cons_of_mem _ hz)
    have := h x (by simp)
    show (x ++ 44 :: joinC (y :: t)).length ≤ _
    rw [List.length_append, List.length_cons, List.length_cons]
    omega
theorem TxtB_size {xs : List Int} (h : rightB xs = true) (k : Nat) : (TxtB xs k).size ≤ 2048 := by
  have h1 : (joinC ((runsBelow xs k).map item)).length ≤ 8 * ((runsBelow xs k).map item).length := joinC_len _ fun x hx => by
    obtain ⟨r, hr, rfl⟩ := List.mem_map.1 hx
    exact item_len h (List.mem_filter.1 hr).1
  have h2 : ((runsBelow xs k).map item).length ≤ (runsOf xs).length := by
    rw [List.length_map]; exact List.length_filter_le _ _
  have h3 := runs_length xs
  have h4 := right_length h
  have e : (TxtB xs k).size = (joinC ((runsBelow xs k).map item)).length := rfl
  omega
theorem TxtB_zero {xs : List Int} (h : rightB xs = true) : TxtB xs 0 = ⟨#[]⟩ := by
  unfold TxtB
  rw [show (((0 : Nat) : Int)) = 0 from rfl, runsBelow_zero h]; rfl
theorem TxtB_all {xs : List Int} (h : rightB xs = true) : TxtB xs 256 = ShowB xs := by
  unfold TxtB ShowB showL
  rw [show (((256 : Nat) : Int)) = 256 from rfl, runsBelow_all h, if_pos h]
theorem TxtB_skip {xs : List Int} (h : rightB xs = true) {k : Nat} (hn : inB xs k = false ∨ inB xs ((k : Int) - 1) = true) : TxtB xs (k + 1) = TxtB xs k := by
  unfold TxtB
  rw [show (((k + 1 : Nat) : Int)) = (k : Int) + 1 from by omega, runsBelow_skip h]
  rcases hn with hn | hn
  · left; intro hm; rw [inB, List.contains_iff_mem.2 hm] at hn; cases hn
  · right; exact List.contains_iff_mem.1 hn
/-- one run more: behind none, or behind others -/
theorem TxtB_take {xs : List Int} (h : rightB xs = true) {k z : Nat} (hkz : k ≤ z) (hz : ∀ m : Nat, k ≤ m → m ≤ z → inB xs (m : Int) = true) (hk : inB xs ((k : Int) - 1) = false) (hz1 : inB xs ((z : Int) + 1) = false) :
    (runsBelow xs k = [] ∧ TxtB xs k = ⟨#[]⟩ ∧ TxtB xs (k + 1) = if k < z then DecS k ++ (⟨#[45]⟩ ++ DecS z) else DecS k) ∨
    (TxtB xs k ≠ ⟨#[]⟩ ∧ TxtB xs (k + 1) = if k < z then TxtB xs k ++ ⟨#[44]⟩ ++ DecS k ++ (⟨#[45]⟩ ++ DecS z) else TxtB xs k ++ ⟨#[44]⟩ ++ DecS k) := by
  have hmem : ∀ m : Int, (k : Int) ≤ m → m ≤ z → m ∈ xs := fun m m1 m2 => by
    have := hz m.toNat (by omega) (by omega)
    have e : ((m.toNat : Nat) : Int) = m := by omega
    rw [e] at this
    exact List.contains_iff_mem.1 this
  have hnot : ∀ n : Int, inB xs n = false → n ∉ xs := fun n hn hm => by rw [inB, List.contains_iff_mem.2 hm] at hn; cases hn
  have e := runsBelow_take h (hmem k (Int.le_refl _) (by omega)) (hnot _ hk) (show (k : Int) ≤ z by omega) hmem (hnot _ hz1)
  have e1 : (((k + 1 : Nat) : Int)) = (k : Int) + 1 := by omega
  have hi := item_nat k z
  by_cases hb : runsBelow xs k = []
  · left
    refine ⟨hb, by unfold TxtB; rw [hb]; rfl, ?_⟩
    unfold TxtB
    rw [e1, e, hb]
    show (⟨(item ((k : Int), (z : Int))).toArray⟩ : ByteArray) = _
    rw [hi]
    unfold DecS
    split
    · apply ByteArray.ext; simp
    · rfl
  · right
    have hne : (runsBelow xs k).map item ≠ [] := fun e => hb (List.map_eq_nil_iff.1 e)
    have hj : joinC ((runsBelow xs k).map item) ≠ [] := joinC_ne hne fun x hx => by
      obtain ⟨r, _, rfl⟩ := List.mem_map.1 hx
      exact item_ne r
    refine ⟨fun e' => hj ?_, ?_⟩
    · unfold TxtB at e'
      have := congrArg (fun b : ByteArray => b.data.toList) e'
      simpa using this
    · unfold TxtB
      rw [e1, e, List.map_append, List.map_cons, List.map_nil, joinC_snoc _ _ hne, hi]
      unfold DecS
      split
      · apply ByteArray.ext; simp
      · apply ByteArray.ext; simp

theorem ne_facts {s : ByteArray} (h : s ≠ ⟨#[]⟩) : (¬ s.toList = []) ∧ s.toList.isEmpty = false ∧ (s.toList == []) = false ∧ (s.toList != []) = true := by
  have h1 : ¬ s.toList = [] := fun e => h (by
    apply ByteArray.ext
    rw [ByteArray.toList_eq] at e
    exact Array.toList_inj.1 (by rw [e]))
  refine ⟨h1, ?_, ?_, ?_⟩
  · rw [← Bool.not_eq_true, List.isEmpty_iff]; exact h1
  · rw [← Bool.not_eq_true, beq_iff_eq]; exact h1
  · rw [bne_iff_ne]; exact h1
theorem DecS_sz {v : Nat} (hv : v < 256) : (DecS v).size ≤ 3 := dec_length hv
theorem not_in {xs : List Int} (h : rightB xs = true) {v : Int} (hv : v < 0 ∨ 255 < v) : inB xs v = false := by
  rw [← Bool.not_eq_true]
  intro hm
  have := right_mem h _ (List.contains_iff_mem.1 hm)
  omega
theorem all_next {xs : List Int} {k z : Nat} (h : ∀ m : Nat, k ≤ m → m ≤ z → inB xs (m : Int) = true) (hy : inB xs ((z : Int) + 1) = true) : ∀ m : Nat, k ≤ m → m ≤ z + 1 → inB xs (m : Int) = true := by
  intro m h1 h2
  rcases Nat.lt_or_ge m (z + 1) with g | g
  · exact h m h1 (by omega)
  · have e : (m : Int) = (z : Int) + 1 := by omega
    rw [e]; exact hy

set_option maxHeartbeats 8000000 in
theorem refShow_any (A : Option Addr) (n c : Nat) (xs : List Int) (w : World) (B : Nat) (hr : RI w B A n xs) (hn : n ≤ maxLen) :
    Calls Tryd.prog 24 #[.slice A n c] w fun e w' => e = .returned (.string (ShowB xs)) ∧ ∃ k, w' = w.drewN k := by
  cases hx : rightB xs with
  | false =>
    have HX := Lib.hid hx
    have HL : Hid (ShowB xs = ⟨#[]⟩) := Lib.hid (by unfold ShowB; rw [hx]; rfl)
    clear hx
    go_enter Tryd.func24, Tryd.ntmps24
    go_wp2_with fail
    refine (refRight_any _ _ _ xs _ _ hr hn).mono ?_
    rintro e w1 ⟨rfl, k, rfl⟩
    rw [HX.out]
    go_wp2
    go_ret
    exact ⟨by rw [HL.out]; rfl, k, rfl⟩
  | true =>
    have HX := Lib.hid hx
    clear hx
    go_enter Tryd.func24, Tryd.ntmps24
    go_wp2_with fail
    refine (refRight_any _ _ _ xs _ _ hr hn).mono ?_
    rintro e w1 ⟨rfl, q, rfl⟩
    rw [HX.out]
    go_wp2
    go_loop [3, 4] (fun s i => ∃ k : Nat, k ≤ 256 ∧ i = .int .i64 k ∧ s = .string (TxtB xs k)) (fun _ i => 256 - (intOf i).toNat)
    case atStart => exact ⟨0, by omega, rfl, by rw [TxtB_zero HX.out]⟩
    case round =>
      obtain ⟨k, hk, rfl, rfl⟩ := hrel
      by_cases hlt : k < 256
      · have hd : decide ((k : Int) < 256) = true := by simp; omega
        have hr1 := Lib.hid (hr.drewN q)
        clear hr
        go_wp2_with fail
        refine (in_any _ _ _ xs _ _ _ hr1.out hn).mono ?_
        rintro e w1 ⟨rfl, rfl⟩
        cases hx : inB xs k with
        | false =>
          have HS := Lib.hid (TxtB_skip HX.out (k := k) (.inl hx))
          clear hx
          go_wp2
          go_round
          case rel => exact ⟨k + 1, by omega, by go_num, by rw [HS.out]⟩
          case measure => simp [intOf]; omega
        | true =>
          have HK := Lib.hid hx
          clear hx
          have hcase : (0 < k ∧ inB xs ((k : Int) - 1) = true) ∨ (0 < k ∧ inB xs ((k : Int) - 1) = false) ∨ (k = 0 ∧ inB xs ((k : Int) - 1) = false) := by
            rcases Nat.eq_zero_or_pos k with h | h
            · exact .inr (.inr ⟨h, not_in HX.out (by omega)⟩)
            · cases hb : inB xs ((k : Int) - 1) with
              | true => exact .inl ⟨h, rfl⟩
              | false => exact .inr (.inl ⟨h, rfl⟩)
          rcases hcase with ⟨hk0, hp⟩ | hcase
          · have HS := Lib.hid (TxtB_skip HX.out (k := k) (.inr hp))
            have HP := Lib.hid hp
            clear hp
            have hd0 : decide ((0 : Int) < (k : Int)) = true := by simp; omega
            go_wp2_with fail
            refine (in_any _ _ _ xs _ _ _ hr1.out hn).mono ?_
            rintro e w1 ⟨rfl, rfl⟩
            rw [HP.out]
            go_wp2
            go_round
            case rel => exact ⟨k + 1, by omega, by go_num, by rw [HS.out]⟩
            case measure => simp [intOf]; omega
          · have HP : Hid (inB xs ((k : Int) - 1) = false) := Lib.hid (hcase.elim (fun h => h.2) (fun h => h.2))
            rcases hcase with ⟨hk0, -⟩ | ⟨hk0, -⟩
            · have hd0 : decide ((0 : Int) < (k : Int)) = true := by simp; omega
              go_wp2_with fail
              refine (in_any _ _ _ xs _ _ _ hr1.out hn).mono ?_
              rintro e w1 ⟨rfl, rfl⟩
              rw [HP.out]
              go_wp2
              go_loop [5] (fun l => ∃ z : Nat, k ≤ z ∧ z ≤ 255 ∧ l = .int .i64 z ∧ (∀ m : Nat, k ≤ m → m ≤ z → inB xs (m : Int) = true)) (fun l => 255 - (intOf l).toNat)
              case atStart => exact ⟨k, Nat.le_refl _, by omega, rfl, fun m h1 h2 => by rw [show m = k by omega]; exact HK.out⟩
              case round =>
                obtain ⟨z, hkz, hz, rfl, hall⟩ := hrel
                have HALL := Lib.hid hall
                clear hall
                by_cases hz255 : z < 255
                · have hd1 : decide ((z : Int) < 255) = true := by simp; omega
                  go_wp2_with fail
                  refine (in_any _ _ _ xs _ _ _ hr1.out hn).mono ?_
                  rintro e w1 ⟨rfl, rfl⟩
                  cases hy : inB xs ((z : Int) + 1) with
                  | true =>
                    have HY := Lib.hid hy
                    clear hy
                    go_wp2
                    go_round
                    case rel => exact ⟨z + 1, by omega, by omega, by go_num, all_next HALL.out HY.out⟩
                    case measure => simp [intOf]; omega
                  | false =>
                    have HT := Lib.hid (TxtB_take HX.out hkz HALL.out HP.out hy)
                    clear hy
                    have hsz := TxtB_size HX.out k
                    generalize TxtB xs k = s at *
                    rcases HT.out with ⟨-, hs, he⟩ | ⟨hs, he⟩
                    · subst hs
                      have HE := Lib.hid he
                      clear he HT
                      by_cases hgt : k < z
                      · have HV : Hid (TxtB xs (k + 1) = (⟨#[]⟩ : ByteArray) ++ DecS k ++ (⟨#[45]⟩ ++ DecS z)) := Lib.hid (by rw [HE.out, if_pos hgt]; apply ByteArray.ext; simp)
                        have z1 := DecS_sz (show k < 256 by omega)
                        have z2 := DecS_sz (show z < 256 by omega)
                        go_wp2_with fail
                        refine (num_any k (by omega) _).mono ?_
                        rintro e w1 ⟨rfl, rfl⟩
                        go_wp2_with fail
                        refine (num_any z (by omega) _).mono ?_
                        rintro e w1 ⟨rfl, rfl⟩
                        go_wp2
                        go_round
                        case rel => exact ⟨k + 1, by omega, by go_num, by rw [HV.out]⟩
                        case measure => simp [intOf]; omega
                      · have HV : Hid (TxtB xs (k + 1) = (⟨#[]⟩ : ByteArray) ++ DecS k) := Lib.hid (by rw [HE.out, if_neg hgt]; apply ByteArray.ext; simp)
                        have hkz2 : z ≤ k := by omega
                        have z1 := DecS_sz (show k < 256 by omega)
                        go_wp2_with fail
                        refine (num_any k (by omega) _).mono ?_
                        rintro e w1 ⟨rfl, rfl⟩
                        go_wp2
                        go_round
                        case rel => exact ⟨k + 1, by omega, by go_num, by rw [HV.out]⟩
                        case measure => simp [intOf]; omega
                    · have HE := Lib.hid he
                      obtain ⟨hs1, hs2, hs3, hs4⟩ := ne_facts hs
                      clear he hs HT
                      by_cases hgt : k < z
                      · have HV : Hid (TxtB xs (k + 1) = s ++ ⟨#[44]⟩ ++ DecS k ++ (⟨#[45]⟩ ++ DecS z)) := Lib.hid (by rw [HE.out, if_pos hgt])
                        have z1 := DecS_sz (show k < 256 by omega)
                        have z2 := DecS_sz (show z < 256 by omega)
                        go_wp2_with fail
                        refine (num_any k (by omega) _).mono ?_
                        rintro e w1 ⟨rfl, rfl⟩
                        go_wp2_with fail
                        refine (num_any z (by omega) _).mono ?_
                        rintro e w1 ⟨rfl, rfl⟩
                        go_wp2
                        go_round
                        case rel => exact ⟨k + 1, by omega, by go_num, by rw [HV.out]⟩
                        case measure => simp [intOf]; omega
                      · have HV : Hid (TxtB xs (k + 1) = s ++ ⟨#[44]⟩ ++ DecS k) := Lib.hid (by rw [HE.out, if_neg hgt])
                        have hkz2 : z ≤ k := by omega
                        have z1 := DecS_sz (show k < 256 by omega)
                        go_wp2_with fail
                        refine (num_any k (by omega) _).mono ?_
                        rintro e w1 ⟨rfl, rfl⟩
                        go_wp2
                        go_round
                        case rel => exact ⟨k + 1, by omega, by go_num, by rw [HV.out]⟩
                        case measure => simp [intOf]; omega
                · have hd1 : decide ((z : Int) < 255) = false := by simp; omega
                  have hy : inB xs ((z : Int) + 1) = false := not_in HX.out (by omega)
                  have HT := Lib.hid (TxtB_take HX.out hkz HALL.out HP.out hy)
                  clear hy
                  have hsz := TxtB_size HX.out k
                  generalize TxtB xs k = s at *
                  rcases HT.out with ⟨-, hs, he⟩ | ⟨hs, he⟩
                  · subst hs
                    have HE := Lib.hid he
                    clear he HT
                    by_cases hgt : k < z
                    · have HV : Hid (TxtB xs (k + 1) = (⟨#[]⟩ : ByteArray) ++ DecS k ++ (⟨#[45]⟩ ++ DecS z)) := Lib.hid (by rw [HE.out, if_pos hgt]; apply ByteArray.ext; simp)
                      have z1 := DecS_sz (show k < 256 by omega)
                      have z2 := DecS_sz (show z < 256 by omega)
                      go_wp2_with fail
                      refine (num_any k (by omega) _).mono ?_
                      rintro e w1 ⟨rfl, rfl⟩
                      go_wp2_with fail
                      refine (num_any z (by omega) _).mono ?_
                      rintro e w1 ⟨rfl, rfl⟩
                      go_wp2
                      go_round
                      case rel => exact ⟨k + 1, by omega, by go_num, by rw [HV.out]⟩
                      case measure => simp [intOf]; omega
                    · have HV : Hid (TxtB xs (k + 1) = (⟨#[]⟩ : ByteArray) ++ DecS k) := Lib.hid (by rw [HE.out, if_neg hgt]; apply ByteArray.ext; simp)
                      have hkz2 : z ≤ k := by omega
                      have z1 := DecS_sz (show k < 256 by omega)
                      go_wp2_with fail
                      refine (num_any k (by omega) _).mono ?_
                      rintro e w1 ⟨rfl, rfl⟩
                      go_wp2
                      go_round
                      case rel => exact ⟨k + 1, by omega, by go_num, by rw [HV.out]⟩
                      case measure => simp [intOf]; omega
                  · have HE := Lib.hid he
                    obtain ⟨hs1, hs2, hs3, hs4⟩ := ne_facts hs
                    clear he hs HT
                    by_cases hgt : k < z
                    · have HV : Hid (TxtB xs (k + 1) = s ++ ⟨#[44]⟩ ++ DecS k ++ (⟨#[45]⟩ ++ DecS z)) := Lib.hid (by rw [HE.out, if_pos hgt])
                      have z1 := DecS_sz (show k < 256 by omega)
                      have z2 := DecS_sz (show z < 256 by omega)
                      go_wp2_with fail
                      refine (num_any k (by omega) _).mono ?_
                      rintro e w1 ⟨rfl, rfl⟩
                      go_wp2_with fail
                      refine (num_any z (by omega) _).mono ?_
                      rintro e w1 ⟨rfl, rfl⟩
                      go_wp2
                      go_round
                      case rel => exact ⟨k + 1, by omega, by go_num, by rw [HV.out]⟩
                      case measure => simp [intOf]; omega
                    · have HV : Hid (TxtB xs (k + 1) = s ++ ⟨#[44]⟩ ++ DecS k) := Lib.hid (by rw [HE.out, if_neg hgt])
                      have hkz2 : z ≤ k := by omega
                      have z1 := DecS_sz (show k < 256 by omega)
                      go_wp2_with fail
                      refine (num_any k (by omega) _).mono ?_
                      rintro e w1 ⟨rfl, rfl⟩
                      go_wp2
                      go_round
                      case rel => exact ⟨k + 1, by omega, by go_num, by rw [HV.out]⟩
                      case measure => simp [intOf]; omega
            · have hd0 : decide (0 < k) = false := by simp; omega
              have HK0 := Lib.hid hk0
              clear hk0
              go_wp2
              go_loop [5] (fun l => ∃ z : Nat, k ≤ z ∧ z ≤ 255 ∧ l = .int .i64 z ∧ (∀ m : Nat, k ≤ m → m ≤ z → inB xs (m : Int) = true)) (fun l => 255 - (intOf l).toNat)
              case atStart => exact ⟨k, Nat.le_refl _, by omega, rfl, fun m h1 h2 => by rw [show m = k by omega]; exact HK.out⟩
              case round =>
                obtain ⟨z, hkz, hz, rfl, hall⟩ := hrel
                have HALL := Lib.hid hall
                clear hall
                by_cases hz255 : z < 255
                · have hd1 : decide ((z : Int) < 255) = true := by simp; omega
                  go_wp2_with fail
                  refine (in_any _ _ _ xs _ _ _ hr1.out hn).mono ?_
                  rintro e w1 ⟨rfl, rfl⟩
                  cases hy : inB xs ((z : Int) + 1) with
                  | true =>
                    have HY := Lib.hid hy
                    clear hy
                    go_wp2
                    go_round
                    case rel => exact ⟨z + 1, by omega, by omega, by go_num, all_next HALL.out HY.out⟩
                    case measure => simp [intOf]; omega
                  | false =>
                    have HT := Lib.hid (TxtB_take HX.out hkz HALL.out HP.out hy)
                    clear hy
                    have hsz := TxtB_size HX.out k
                    generalize TxtB xs k = s at *
                    rcases HT.out with ⟨-, hs, he⟩ | ⟨hs, he⟩
                    · subst hs
                      have HE := Lib.hid he
                      clear he HT
                      by_cases hgt : k < z
                      · have HV : Hid (TxtB xs (k + 1) = (⟨#[]⟩ : ByteArray) ++ DecS k ++ (⟨#[45]⟩ ++ DecS z)) := Lib.hid (by rw [HE.out, if_pos hgt]; apply ByteArray.ext; simp)
                        have z1 := DecS_sz (show k < 256 by omega)
                        have z2 := DecS_sz (show z < 256 by omega)
                        go_wp2_with fail
                        refine (num_any k (by omega) _).mono ?_
                        rintro e w1 ⟨rfl, rfl⟩
                        go_wp2_with fail
                        refine (num_any z (by omega) _).mono ?_
                        rintro e w1 ⟨rfl, rfl⟩
                        go_wp2
                        go_round
                        case rel => exact ⟨k + 1, by omega, by go_num, by rw [HV.out]⟩
                        case measure => simp [intOf]; omega
                      · have HV : Hid (TxtB xs (k + 1) = (⟨#[]⟩ : ByteArray) ++ DecS k) := Lib.hid (by rw [HE.out, if_neg hgt]; apply ByteArray.ext; simp)
                        have hkz2 : z ≤ k := by omega
                        have z1 := DecS_sz (show k < 256 by omega)
                        go_wp2_with fail
                        refine (num_any k (by omega) _).mono ?_
                        rintro e w1 ⟨rfl, rfl⟩
                        go_wp2
                        go_round
                        case rel => exact ⟨k + 1, by omega, by go_num, by rw [HV.out]⟩
                        case measure => simp [intOf]; omega
                    · have HE := Lib.hid he
                      obtain ⟨hs1, hs2, hs3, hs4⟩ := ne_facts hs
                      clear he hs HT
                      by_cases hgt : k < z
                      · have HV : Hid (TxtB xs (k + 1) = s ++ ⟨#[44]⟩ ++ DecS k ++ (⟨#[45]⟩ ++ DecS z)) := Lib.hid (by rw [HE.out, if_pos hgt])
                        have z1 := DecS_sz (show k < 256 by omega)
                        have z2 := DecS_sz (show z < 256 by omega)
                        go_wp2_with fail
                        refine (num_any k (by omega) _).mono ?_
                        rintro e w1 ⟨rfl, rfl⟩
                        go_wp2_with fail
                        refine (num_any z (by omega) _).mono ?_
                        rintro e w1 ⟨rfl, rfl⟩
                        go_wp2
                        go_round
                        case rel => exact ⟨k + 1, by omega, by go_num, by rw [HV.out]⟩
                        case measure => simp [intOf]; omega
                      · have HV : Hid (TxtB xs (k + 1) = s ++ ⟨#[44]⟩ ++ DecS k) := Lib.hid (by rw [HE.out, if_neg hgt])
                        have hkz2 : z ≤ k := by omega
                        have z1 := DecS_sz (show k < 256 by omega)
                        go_wp2_with fail
                        refine (num_any k (by omega) _).mono ?_
                        rintro e w1 ⟨rfl, rfl⟩
                        go_wp2
                        go_round
                        case rel => exact ⟨k + 1, by omega, by go_num, by rw [HV.out]⟩
                        case measure => simp [intOf]; omega
                · have hd1 : decide ((z : Int) < 255) = false := by simp; omega
                  have hy : inB xs ((z : Int) + 1) = false := not_in HX.out (by omega)
                  have HT := Lib.hid (TxtB_take HX.out hkz HALL.out HP.out hy)
                  clear hy
                  have hsz := TxtB_size HX.out k
                  generalize TxtB xs k = s at *
                  rcases HT.out with ⟨-, hs, he⟩ | ⟨hs, he⟩
                  · subst hs
                    have HE := Lib.hid he
                    clear he HT
                    by_cases hgt : k < z
                    · have HV : Hid (TxtB xs (k + 1) = (⟨#[]⟩ : ByteArray) ++ DecS k ++ (⟨#[45]⟩ ++ DecS z)) := Lib.hid (by rw [HE.out, if_pos hgt]; apply ByteArray.ext; simp)
                      have z1 := DecS_sz (show k < 256 by omega)
                      have z2 := DecS_sz (show z < 256 by omega)
                      go_wp2_with fail
                      refine (num_any k (by omega) _).mono ?_
                      rintro e w1 ⟨rfl, rfl⟩
                      go_wp2_with fail
                      refine (num_any z (by omega) _).mono ?_
                      rintro e w1 ⟨rfl, rfl⟩
                      go_wp2
                      go_round
                      case rel => exact ⟨k + 1, by omega, by go_num, by rw [HV.out]⟩
                      case measure => simp [intOf]; omega
                    · have HV : Hid (TxtB xs (k + 1) = (⟨#[]⟩ : ByteArray) ++ DecS k) := Lib.hid (by rw [HE.out, if_neg hgt]; apply ByteArray.ext; simp)
                      have hkz2 : z ≤ k := by omega
                      have z1 := DecS_sz (show k < 256 by omega)
                      go_wp2_with fail
                      refine (num_any k (by omega) _).mono ?_
                      rintro e w1 ⟨rfl, rfl⟩
                      go_wp2
                      go_round
                      case rel => exact ⟨k + 1, by omega, by go_num, by rw [HV.out]⟩
                      case measure => simp [intOf]; omega
                  · have HE := Lib.hid he
                    obtain ⟨hs1, hs2, hs3, hs4⟩ := ne_facts hs
                    clear he hs HT
                    by_cases hgt : k < z
                    · have HV : Hid (TxtB xs (k + 1) = s ++ ⟨#[44]⟩ ++ DecS k ++ (⟨#[45]⟩ ++ DecS z)) := Lib.hid (by rw [HE.out, if_pos hgt])
                      have z1 := DecS_sz (show k < 256 by omega)
                      have z2 := DecS_sz (show z < 256 by omega)
                      go_wp2_with fail
                      refine (num_any k (by omega) _).mono ?_
                      rintro e w1 ⟨rfl, rfl⟩
                      go_wp2_with fail
                      refine (num_any z (by omega) _).mono ?_
                      rintro e w1 ⟨rfl, rfl⟩
                      go_wp2
                      go_round
                      case rel => exact ⟨k + 1, by omega, by go_num, by rw [HV.out]⟩
                      case measure => simp [intOf]; omega
                    · have HV : Hid (TxtB xs (k + 1) = s ++ ⟨#[44]⟩ ++ DecS k) := Lib.hid (by rw [HE.out, if_neg hgt])
                      have hkz2 : z ≤ k := by omega
                      have z1 := DecS_sz (show k < 256 by omega)
                      go_wp2_with fail
                      refine (num_any k (by omega) _).mono ?_
                      rintro e w1 ⟨rfl, rfl⟩
                      go_wp2
                      go_round
                      case rel => exact ⟨k + 1, by omega, by go_num, by rw [HV.out]⟩
                      case measure => simp [intOf]; omega
      · have hk : k = 256 := by omega
        subst hk
        go_wp2
        go_ret
        exact ⟨by rw [← TxtB_all HX.out]; rfl, q, rfl⟩

end Go.Proofs.YtgifhbjcelkjkaaDoor
