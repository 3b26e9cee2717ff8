/- What the reference's number answers: a numeral from a place on, and the place behind it. -/
import Derived.Test.YtgifhbjcelkjkaaDoorSetReadRun
namespace Go.Proofs.YtgifhbjcelkjkaaDoor
open Go.RowKit

/-- 'a number, and the place behind it, or none', kept from the walk -/
def NumIs (rest : List UInt8) (len : Nat) (V N : Int) : Prop :=
  match numD rest with
  | none => V = 0 ∧ N = -1
  | some (v, r) => V = v ∧ N = (len : Int) - (r.length : Int)

theorem take_snoc_at (s : ByteArray) (a k : Nat) (h : a + k < s.size) : (s.data.toList.drop a).take (k + 1) = (s.data.toList.drop a).take k ++ [s[a + k]] := by
  have hl : k < (s.data.toList.drop a).length := by
    rw [List.length_drop]
    have : s.data.toList.length = s.size := rfl
    omega
  rw [List.take_succ_eq_append_getElem hl]
  congr 1
  rw [List.getElem_drop]; rfl
/-- where the digits end -/
theorem dig_end {rest : List UInt8} {j : Nat} (hd : (rest.take j).all isDig = true) (he : rest.drop j = [] ∨ ∃ c t, rest.drop j = c :: t ∧ isDig c = false) : rest.takeWhile isDig = rest.take j ∧ rest.dropWhile isDig = rest.drop j := by
  have h := take_drop_dig (rest.take j) (rest.drop j) he
  rw [List.take_append_drop] at h
  rcases dig_split (rest.take j) with ⟨_, h2, h3⟩ | ⟨c, x, _, _, _, h4⟩
  · rw [h2, h3] at h
    exact ⟨h.1, by rw [h.2]; rfl⟩
  · rw [hd] at h4; cases h4
theorem dig_more {rest : List UInt8} {j : Nat} (hd : (rest.take j).all isDig = true) : ∃ x, rest.takeWhile isDig = rest.take j ++ x := by
  induction j generalizing rest with
  | zero => exact ⟨_, rfl⟩
  | succ j ih =>
    cases rest with
    | nil => exact ⟨[], rfl⟩
    | cons c t =>
      simp only [List.take_succ_cons, List.all_cons, Bool.and_eq_true] at hd
      obtain ⟨x, hx⟩ := ih hd.2
      exact ⟨x, by rw [List.takeWhile_cons, hd.1, if_pos rfl, hx]; rfl⟩
theorem num_none {rest : List UInt8} {len : Nat} (h : rn (rest.takeWhile isDig) = none) : NumIs rest len 0 (-1) := by
  unfold NumIs numD; rw [h]; exact ⟨rfl, rfl⟩
/-- why the loop ended -/
def Stop (rest : List UInt8) (j : Nat) : Prop := j = 4 ∨ rest.drop j = [] ∨ ∃ c t, rest.drop j = c :: t ∧ isDig c = false
theorem num_zero {rest : List UInt8} {len : Nat} (h : Stop rest 0) : NumIs rest len 0 (-1) := by
  refine num_none ?_
  rcases h with h | h
  · omega
  · rw [(dig_end (j := 0) rfl h).1]; rfl
theorem num_big {rest : List UInt8} {j len : Nat} (hd : (rest.take j).all isDig = true) (h : 256 ≤ numFrom 0 (rest.take j)) : NumIs rest len 0 (-1) := by
  refine num_none ?_
  obtain ⟨x, hx⟩ := dig_more hd
  rw [hx]
  unfold rn
  split
  · rfl
  · split
    · rfl
    · rw [if_neg]
      rintro ⟨_, h2⟩
      rw [numFrom_append] at h2
      have := numFrom_ge (numFrom 0 (rest.take j)) x
      omega
theorem num_nought {rest t : List UInt8} {j len : Nat} (hd : (rest.take j).all isDig = true) (h : rest.take j = 48 :: t) (hj : t ≠ []) : NumIs rest len 0 (-1) := by
  refine num_none ?_
  obtain ⟨x, hx⟩ := dig_more hd
  rw [hx, h]
  unfold rn
  rw [if_neg (by simp), if_pos]
  refine ⟨rfl, ?_⟩
  have := List.length_pos_iff.2 hj
  simp; omega
theorem num_good {rest t : List UInt8} {c : UInt8} {j len : Nat} (hd : (rest.take j).all isDig = true) (h : rest.take j = c :: t) (hj : j = t.length + 1) (hc : c = 48 → t = []) (hv : numFrom 0 (rest.take j) < 256) (hs : Stop rest j) :
    NumIs rest len (numFrom 0 (rest.take j) : Nat) ((len : Int) - ((rest.length - j : Nat) : Int)) := by
  have hj4 : j ≠ 4 := fun e => by
    have ht : t.length = 3 := by omega
    have hc0 : c ≠ 48 := fun e' => by have := hc e'; subst this; simp at ht
    rw [h] at hd hv
    have hdc : isDig c = true := by simp at hd; exact hd.1
    have h1 : 1 ≤ stepN 0 c := by
      unfold stepN
      have : c.toNat ≠ 48 := fun e' => hc0 (UInt8.toNat_inj.1 e')
      simp [isDig] at hdc
      omega
    rw [numFrom_cons] at hv
    have h2 := numFrom_pow (stepN 0 c) t
    rw [ht] at h2
    have h3 : 1 * 10 ^ 3 ≤ stepN 0 c * 10 ^ 3 := Nat.mul_le_mul_right _ h1
    omega
  have he : rest.drop j = [] ∨ ∃ c t, rest.drop j = c :: t ∧ isDig c = false := by
    rcases hs with h | h
    · exact absurd h hj4
    · exact h
  obtain ⟨e1, e2⟩ := dig_end hd he
  have hrn : rn (rest.take j) = some (numFrom 0 (rest.take j)) := by
    unfold rn
    rw [if_neg (by rw [h]; simp), if_neg, if_pos ⟨hd, hv⟩]
    rintro ⟨g1, g2⟩
    rw [h] at g1 g2
    have g3 : c = 48 := by simpa using g1
    rw [hc g3] at g2
    simp at g2
  unfold NumIs numD
  rw [e1, hrn, e2]
  refine ⟨rfl, ?_⟩
  rw [List.length_drop]

def NumPost (rest : List UInt8) (len : Nat) (w : World) (e : Ending) (w' : World) : Prop :=
  (∃ V N, NumIs rest len V N ∧ e = .returned (.tuple #[.int .i64 V, .int .i64 N])) ∧ w = w'

theorem take_head (s : ByteArray) (a j : Nat) (ha : a < s.size) (hj : 0 < j) (hs : a + j ≤ s.size) : ∃ t, (s.data.toList.drop a).take j = s[a] :: t ∧ j = t.length + 1 := by
  have hl : s.data.toList.length = s.size := rfl
  have e : s.data.toList.drop a = s[a] :: s.data.toList.drop (a + 1) := by
    rw [List.drop_eq_getElem_cons (by omega)]; rfl
  obtain ⟨j, rfl⟩ : ∃ i, j = i + 1 := ⟨j - 1, by omega⟩
  refine ⟨(s.data.toList.drop (a + 1)).take j, by rw [e, List.take_succ_cons], ?_⟩
  rw [List.length_take, List.length_drop]; omega
theorem stop_char {s : ByteArray} {a k : Nat} (h : a + k < s.size) (hb : s[a + k].toNat < 48 ∨ 57 < s[a + k].toNat) : Stop (s.data.toList.drop a) k := by
  right; right
  have hl : s.data.toList.length = s.size := rfl
  refine ⟨s[a + k], s.data.toList.drop (a + k + 1), ?_, ?_⟩
  · rw [List.drop_drop, List.drop_eq_getElem_cons (by omega)]; rfl
  · simp [isDig]; omega
theorem stop_end {s : ByteArray} {a k : Nat} (h : s.size ≤ a + k) : Stop (s.data.toList.drop a) k := by
  right; left
  have hl : s.data.toList.length = s.size := rfl
  rw [List.drop_drop]
  exact List.drop_eq_nil_of_le (by omega)

set_option maxHeartbeats 8000000 in
theorem number_any (s : ByteArray) (a : Nat) (w : World) (hs : s.size ≤ 8192) (ha : a ≤ s.size) :
    Calls Tryd.prog 35 #[.string s, .int .i64 (a : Int)] w (NumPost (s.data.toList.drop a) s.size w) := by
  go_enter Tryd.func35, Tryd.ntmps35
  go_wp2
  go_loop [6, 7] (fun n i => ∃ j : Nat, j ≤ 4 ∧ a + j ≤ s.size ∧ i = .int .i64 ((a + j : Nat) : Int) ∧ n = .int .i64 (numFrom 0 ((s.data.toList.drop a).take j) : Nat) ∧ ((s.data.toList.drop a).take j).all isDig = true ∧ numFrom 0 ((s.data.toList.drop a).take j) < 10 ^ j) (fun _ i => a + 4 - (intOf i).toNat)
  case atStart => exact ⟨0, by omega, ha, rfl, rfl, rfl, by rw [List.take_zero, numFrom_nil]; omega⟩
  case round =>
    obtain ⟨j, hj4, hjs, rfl, rfl, hdig, hval⟩ := hrel
    have HDIG := Lib.hid hdig
    clear hdig
    have hp : 10 ^ j ≤ 10 ^ 4 := Nat.pow_le_pow_right (by omega) hj4
    have hv4 : numFrom 0 ((s.data.toList.drop a).take j) < 10000 := by omega
    have HVAL := Lib.hid hval
    clear hval hp
    by_cases hlt : a + j < s.size
    · have hb := s[a + j].toNat_lt
      by_cases hb1 : s[a + j].toNat < 48
      · have HSTOP := Lib.hid (stop_char hlt (.inl hb1))
        by_cases hj0 : j = 0
        · have HN : Hid (NumIs (s.data.toList.drop a) s.size 0 (-1)) := Lib.hid (num_zero (by have := HSTOP.out; rwa [hj0] at this))
          have hd9 : (((a : Int) + (j : Int)) == (a : Int)) = true := by rw [beq_iff_eq]; omega
          clear hj0
          go_wp2
          go_ret2
          exact ⟨⟨_, _, HN.out, rfl⟩, rfl⟩
        · have hja : a < a + j := by omega
          have hd9 : (((a : Int) + (j : Int)) == (a : Int)) = false := by rw [← Bool.not_eq_true, beq_iff_eq]; omega
          have ha0 : a < s.size := by omega
          by_cases hbig : 255 < numFrom 0 ((s.data.toList.drop a).take j)
          · have HN : Hid (NumIs (s.data.toList.drop a) s.size 0 (-1)) := Lib.hid (num_big HDIG.out (by omega))
            generalize numFrom 0 ((s.data.toList.drop a).take j) = v at *
            go_wp2
            go_ret2
            exact ⟨⟨_, _, HN.out, rfl⟩, rfl⟩
          · obtain ⟨t, ht, hjt⟩ := take_head s a j ha0 (by omega) hjs
            have hsm : numFrom 0 ((s.data.toList.drop a).take j) ≤ 255 := by omega
            by_cases hz : s[a] = 48
            · have hz1 : ((s[a].toNat : Int) == 48) = true := by rw [hz]; rfl
              by_cases hj1 : 1 < j
              · have HN : Hid (NumIs (s.data.toList.drop a) s.size 0 (-1)) := Lib.hid (num_nought HDIG.out (by rw [ht, hz]) (fun e => by subst e; simp at hjt; omega))
                have hja1 : a + 1 < a + j := by omega
                clear ht hjt hz
                generalize numFrom 0 ((s.data.toList.drop a).take j) = v at *
                go_wp2
                go_ret2
                exact ⟨⟨_, _, HN.out, rfl⟩, rfl⟩
              · have HN := Lib.hid (num_good (len := s.size) HDIG.out ht hjt (fun _ => List.eq_nil_of_length_eq_zero (by omega)) (by omega) HSTOP.out)
                have HR : Hid ((s.size : Int) - (((s.data.toList.drop a).length - j : Nat) : Int) = ((a + j : Nat) : Int)) := Lib.hid (by
                  rw [List.length_drop]
                  have : s.data.toList.length = s.size := rfl
                  omega)
                have hja1 : a + j ≤ a + 1 := by omega
                clear ht hjt hz
                first
                | (exfalso; omega)
                | (generalize numFrom 0 ((s.data.toList.drop a).take j) = v at *
                   go_wp2
                   go_ret2
                   have h := HN.out
                   rw [HR.out] at h
                   exact ⟨⟨_, _, h, rfl⟩, rfl⟩)
            · have hz1 : ((s[a].toNat : Int) == 48) = false := by
                rw [← Bool.not_eq_true, beq_iff_eq]
                intro e
                exact hz (UInt8.toNat_inj.1 (by have : (48 : UInt8).toNat = 48 := rfl; omega))
              have HN := Lib.hid (num_good (len := s.size) HDIG.out ht hjt (fun e => absurd e hz) (by omega) HSTOP.out)
              have HR : Hid ((s.size : Int) - (((s.data.toList.drop a).length - j : Nat) : Int) = ((a + j : Nat) : Int)) := Lib.hid (by
                rw [List.length_drop]
                have : s.data.toList.length = s.size := rfl
                omega)
              clear ht hjt hz
              generalize numFrom 0 ((s.data.toList.drop a).take j) = v at *
              go_wp2
              go_ret2
              have h := HN.out
              rw [HR.out] at h
              exact ⟨⟨_, _, h, rfl⟩, rfl⟩
      · have hb1' : 48 ≤ s[a + j].toNat := by omega
        by_cases hb2 : 57 < s[a + j].toNat
        · have HSTOP := Lib.hid (stop_char hlt (.inr hb2))
          by_cases hj0 : j = 0
          · have HN : Hid (NumIs (s.data.toList.drop a) s.size 0 (-1)) := Lib.hid (num_zero (by have := HSTOP.out; rwa [hj0] at this))
            have hd9 : (((a : Int) + (j : Int)) == (a : Int)) = true := by rw [beq_iff_eq]; omega
            clear hj0
            go_wp2
            go_ret2
            exact ⟨⟨_, _, HN.out, rfl⟩, rfl⟩
          · have hja : a < a + j := by omega
            have hd9 : (((a : Int) + (j : Int)) == (a : Int)) = false := by rw [← Bool.not_eq_true, beq_iff_eq]; omega
            have ha0 : a < s.size := by omega
            by_cases hbig : 255 < numFrom 0 ((s.data.toList.drop a).take j)
            · have HN : Hid (NumIs (s.data.toList.drop a) s.size 0 (-1)) := Lib.hid (num_big HDIG.out (by omega))
              generalize numFrom 0 ((s.data.toList.drop a).take j) = v at *
              go_wp2
              go_ret2
              exact ⟨⟨_, _, HN.out, rfl⟩, rfl⟩
            · obtain ⟨t, ht, hjt⟩ := take_head s a j ha0 (by omega) hjs
              have hsm : numFrom 0 ((s.data.toList.drop a).take j) ≤ 255 := by omega
              by_cases hz : s[a] = 48
              · have hz1 : ((s[a].toNat : Int) == 48) = true := by rw [hz]; rfl
                by_cases hj1 : 1 < j
                · have HN : Hid (NumIs (s.data.toList.drop a) s.size 0 (-1)) := Lib.hid (num_nought HDIG.out (by rw [ht, hz]) (fun e => by subst e; simp at hjt; omega))
                  have hja1 : a + 1 < a + j := by omega
                  clear ht hjt hz
                  generalize numFrom 0 ((s.data.toList.drop a).take j) = v at *
                  go_wp2
                  go_ret2
                  exact ⟨⟨_, _, HN.out, rfl⟩, rfl⟩
                · have HN := Lib.hid (num_good (len := s.size) HDIG.out ht hjt (fun _ => List.eq_nil_of_length_eq_zero (by omega)) (by omega) HSTOP.out)
                  have HR : Hid ((s.size : Int) - (((s.data.toList.drop a).length - j : Nat) : Int) = ((a + j : Nat) : Int)) := Lib.hid (by
                    rw [List.length_drop]
                    have : s.data.toList.length = s.size := rfl
                    omega)
                  have hja1 : a + j ≤ a + 1 := by omega
                  clear ht hjt hz
                  first
                  | (exfalso; omega)
                  | (generalize numFrom 0 ((s.data.toList.drop a).take j) = v at *
                     go_wp2
                     go_ret2
                     have h := HN.out
                     rw [HR.out] at h
                     exact ⟨⟨_, _, h, rfl⟩, rfl⟩)
              · have hz1 : ((s[a].toNat : Int) == 48) = false := by
                  rw [← Bool.not_eq_true, beq_iff_eq]
                  intro e
                  exact hz (UInt8.toNat_inj.1 (by have : (48 : UInt8).toNat = 48 := rfl; omega))
                have HN := Lib.hid (num_good (len := s.size) HDIG.out ht hjt (fun e => absurd e hz) (by omega) HSTOP.out)
                have HR : Hid ((s.size : Int) - (((s.data.toList.drop a).length - j : Nat) : Int) = ((a + j : Nat) : Int)) := Lib.hid (by
                  rw [List.length_drop]
                  have : s.data.toList.length = s.size := rfl
                  omega)
                clear ht hjt hz
                generalize numFrom 0 ((s.data.toList.drop a).take j) = v at *
                go_wp2
                go_ret2
                have h := HN.out
                rw [HR.out] at h
                exact ⟨⟨_, _, h, rfl⟩, rfl⟩
        · have hb2' : s[a + j].toNat ≤ 57 := by omega
          by_cases hj : j < 4
          · have hj' : a + j < a + 4 := by omega
            have htk := take_snoc_at s a j hlt
            have HD1 : Hid (((s.data.toList.drop a).take (j + 1)).all isDig = true) := Lib.hid (by
              rw [htk, List.all_append, HDIG.out]
              simp [isDig, hb1', hb2'])
            have HV1 : Hid (numFrom 0 ((s.data.toList.drop a).take (j + 1)) = numFrom 0 ((s.data.toList.drop a).take j) * 10 + (s[a + j].toNat - 48)) := Lib.hid (by
              rw [htk, numFrom_append]; rfl)
            have HV2 : Hid (numFrom 0 ((s.data.toList.drop a).take j) * 10 + (s[a + j].toNat - 48) < 10 ^ (j + 1)) := Lib.hid (by
              have := HVAL.out
              rw [Nat.pow_succ]
              omega)
            clear htk
            generalize numFrom 0 ((s.data.toList.drop a).take j) = v at *
            go_wp2
            go_round
            case rel => exact ⟨j + 1, by omega, by omega, by go_num, by rw [HV1.out]; go_num, HD1.out, by rw [HV1.out]; exact HV2.out⟩
            case measure => simp [intOf]; omega
          · have HSTOP : Hid (Stop (s.data.toList.drop a) j) := Lib.hid (.inl (by omega))
            have hj' : a + 4 ≤ a + j := by omega
            by_cases hj0 : j = 0
            · have HN : Hid (NumIs (s.data.toList.drop a) s.size 0 (-1)) := Lib.hid (num_zero (by have := HSTOP.out; rwa [hj0] at this))
              have hd9 : (((a : Int) + (j : Int)) == (a : Int)) = true := by rw [beq_iff_eq]; omega
              clear hj0
              go_wp2
              go_ret2
              exact ⟨⟨_, _, HN.out, rfl⟩, rfl⟩
            · have hja : a < a + j := by omega
              have hd9 : (((a : Int) + (j : Int)) == (a : Int)) = false := by rw [← Bool.not_eq_true, beq_iff_eq]; omega
              have ha0 : a < s.size := by omega
              by_cases hbig : 255 < numFrom 0 ((s.data.toList.drop a).take j)
              · have HN : Hid (NumIs (s.data.toList.drop a) s.size 0 (-1)) := Lib.hid (num_big HDIG.out (by omega))
                generalize numFrom 0 ((s.data.toList.drop a).take j) = v at *
                go_wp2
                go_ret2
                exact ⟨⟨_, _, HN.out, rfl⟩, rfl⟩
              · obtain ⟨t, ht, hjt⟩ := take_head s a j ha0 (by omega) hjs
                have hsm : numFrom 0 ((s.data.toList.drop a).take j) ≤ 255 := by omega
                by_cases hz : s[a] = 48
                · have hz1 : ((s[a].toNat : Int) == 48) = true := by rw [hz]; rfl
                  by_cases hj1 : 1 < j
                  · have HN : Hid (NumIs (s.data.toList.drop a) s.size 0 (-1)) := Lib.hid (num_nought HDIG.out (by rw [ht, hz]) (fun e => by subst e; simp at hjt; omega))
                    have hja1 : a + 1 < a + j := by omega
                    clear ht hjt hz
                    generalize numFrom 0 ((s.data.toList.drop a).take j) = v at *
                    go_wp2
                    go_ret2
                    exact ⟨⟨_, _, HN.out, rfl⟩, rfl⟩
                  · have HN := Lib.hid (num_good (len := s.size) HDIG.out ht hjt (fun _ => List.eq_nil_of_length_eq_zero (by omega)) (by omega) HSTOP.out)
                    have HR : Hid ((s.size : Int) - (((s.data.toList.drop a).length - j : Nat) : Int) = ((a + j : Nat) : Int)) := Lib.hid (by
                      rw [List.length_drop]
                      have : s.data.toList.length = s.size := rfl
                      omega)
                    have hja1 : a + j ≤ a + 1 := by omega
                    clear ht hjt hz
                    first
                    | (exfalso; omega)
                    | (generalize numFrom 0 ((s.data.toList.drop a).take j) = v at *
                       go_wp2
                       go_ret2
                       have h := HN.out
                       rw [HR.out] at h
                       exact ⟨⟨_, _, h, rfl⟩, rfl⟩)
                · have hz1 : ((s[a].toNat : Int) == 48) = false := by
                    rw [← Bool.not_eq_true, beq_iff_eq]
                    intro e
                    exact hz (UInt8.toNat_inj.1 (by have : (48 : UInt8).toNat = 48 := rfl; omega))
                  have HN := Lib.hid (num_good (len := s.size) HDIG.out ht hjt (fun e => absurd e hz) (by omega) HSTOP.out)
                  have HR : Hid ((s.size : Int) - (((s.data.toList.drop a).length - j : Nat) : Int) = ((a + j : Nat) : Int)) := Lib.hid (by
                    rw [List.length_drop]
                    have : s.data.toList.length = s.size := rfl
                    omega)
                  clear ht hjt hz
                  generalize numFrom 0 ((s.data.toList.drop a).take j) = v at *
                  go_wp2
                  go_ret2
                  have h := HN.out
                  rw [HR.out] at h
                  exact ⟨⟨_, _, h, rfl⟩, rfl⟩
    · have HSTOP := Lib.hid (stop_end (a := a) (k := j) (show s.size ≤ a + j by omega))
      by_cases hj0 : j = 0
      · have HN : Hid (NumIs (s.data.toList.drop a) s.size 0 (-1)) := Lib.hid (num_zero (by have := HSTOP.out; rwa [hj0] at this))
        have hd9 : (((a : Int) + (j : Int)) == (a : Int)) = true := by rw [beq_iff_eq]; omega
        clear hj0
        go_wp2
        go_ret2
        exact ⟨⟨_, _, HN.out, rfl⟩, rfl⟩
      · have hja : a < a + j := by omega
        have hd9 : (((a : Int) + (j : Int)) == (a : Int)) = false := by rw [← Bool.not_eq_true, beq_iff_eq]; omega
        have ha0 : a < s.size := by omega
        by_cases hbig : 255 < numFrom 0 ((s.data.toList.drop a).take j)
        · have HN : Hid (NumIs (s.data.toList.drop a) s.size 0 (-1)) := Lib.hid (num_big HDIG.out (by omega))
          generalize numFrom 0 ((s.data.toList.drop a).take j) = v at *
          go_wp2
          go_ret2
          exact ⟨⟨_, _, HN.out, rfl⟩, rfl⟩
        · obtain ⟨t, ht, hjt⟩ := take_head s a j ha0 (by omega) hjs
          have hsm : numFrom 0 ((s.data.toList.drop a).take j) ≤ 255 := by omega
          by_cases hz : s[a] = 48
          · have hz1 : ((s[a].toNat : Int) == 48) = true := by rw [hz]; rfl
            by_cases hj1 : 1 < j
            · have HN : Hid (NumIs (s.data.toList.drop a) s.size 0 (-1)) := Lib.hid (num_nought HDIG.out (by rw [ht, hz]) (fun e => by subst e; simp at hjt; omega))
              have hja1 : a + 1 < a + j := by omega
              clear ht hjt hz
              generalize numFrom 0 ((s.data.toList.drop a).take j) = v at *
              go_wp2
              go_ret2
              exact ⟨⟨_, _, HN.out, rfl⟩, rfl⟩
            · have HN := Lib.hid (num_good (len := s.size) HDIG.out ht hjt (fun _ => List.eq_nil_of_length_eq_zero (by omega)) (by omega) HSTOP.out)
              have HR : Hid ((s.size : Int) - (((s.data.toList.drop a).length - j : Nat) : Int) = ((a + j : Nat) : Int)) := Lib.hid (by
                rw [List.length_drop]
                have : s.data.toList.length = s.size := rfl
                omega)
              have hja1 : a + j ≤ a + 1 := by omega
              clear ht hjt hz
              first
              | (exfalso; omega)
              | (generalize numFrom 0 ((s.data.toList.drop a).take j) = v at *
                 go_wp2
                 go_ret2
                 have h := HN.out
                 rw [HR.out] at h
                 exact ⟨⟨_, _, h, rfl⟩, rfl⟩)
          · have hz1 : ((s[a].toNat : Int) == 48) = false := by
              rw [← Bool.not_eq_true, beq_iff_eq]
              intro e
              exact hz (UInt8.toNat_inj.1 (by have : (48 : UInt8).toNat = 48 := rfl; omega))
            have HN := Lib.hid (num_good (len := s.size) HDIG.out ht hjt (fun e => absurd e hz) (by omega) HSTOP.out)
            have HR : Hid ((s.size : Int) - (((s.data.toList.drop a).length - j : Nat) : Int) = ((a + j : Nat) : Int)) := Lib.hid (by
              rw [List.length_drop]
              have : s.data.toList.length = s.size := rfl
              omega)
            clear ht hjt hz
            generalize numFrom 0 ((s.data.toList.drop a).take j) = v at *
            go_wp2
            go_ret2
            have h := HN.out
            rw [HR.out] at h
            exact ⟨⟨_, _, h, rfl⟩, rfl⟩

end Go.Proofs.YtgifhbjcelkjkaaDoor
