/- The reference's got of layer 8 (bailiwickref08): a number read from bytes: what it answers. -/
import Derived.IntWalk
import Derived.Test.YtlpogkcfjbabaaaMg19
namespace Go.Proofs.Ytlpogkcfjbabaaa
open Go.RowKit

def GOk (x : Nat) (t : Bs) (B : Nat) (w : World) (e : Ending) (w' : World) : Prop :=
  (∃ A c, e = .returned (.tuple #[.int .u64 (x : Int), .slice A t.length c, .int .i64 0]) ∧ BAsk w' B A t.length c t) ∧ Below w.heap.size w w'
def GErr (er : Nat) (w : World) (e : Ending) (w' : World) : Prop := e = .returned (.tuple #[.int .u64 0, .slice none 0 0, .int .i64 (er : Int)]) ∧ Below w.heap.size w w'
def GPost (r : Except Nat (Nat × Bs)) (B : Nat) (w : World) (e : Ending) (w' : World) : Prop := match r with
  | .ok (x, t) => GOk x t B w e w'
  | .error er => GErr er w e w'
theorem gotR_nil (i acc : Nat) : gotR i acc [] = .error 2 := by rw [gotR]
theorem gotR_cons (i acc : Nat) (c : UInt8) (t : Bs) : gotR i acc (c :: t) = if 8 < i ∨ (0 < i ∧ c = 0) then .error 3 else
      if c.toNat < 128 then (if 4611686018427387904 < acc + c.toNat * 128 ^ i then .error 3 else .ok (acc + c.toNat * 128 ^ i, t))
      else gotR (i + 1) (acc + c.toNat % 128 * 128 ^ i) t := by rw [gotR]
theorem pow_le8 {k : Nat} (h : k ≤ 8) : 128 ^ k ≤ 72057594037927936 := by
  have h1 : 128 ^ k ≤ 128 ^ 8 := Nat.pow_le_pow_right (by omega) h
  have h2 : (128 : Nat) ^ 8 = 72057594037927936 := by decide
  omega
theorem gerr_mk {er B : Nat} {w w' : World} {r : Except Nat (Nat × Bs)} (h : r = .error er) (hb : Below w.heap.size w w') : GPost r B w (.returned (.tuple #[.int .u64 0, .slice none 0 0, .int .i64 (er : Int)])) w' := by
  rw [h]; exact ⟨rfl, hb⟩

theorem gok_mk {r : Except Nat (Nat × Bs)} {x B : Nat} {xi : Int} {t : Bs} {A : Option Addr} {m c : Nat} {w w' : World} (h : r = .ok (x, t)) (hx : xi = (x : Int)) (hb : BAsk w' B A m c t) (hbel : Below w.heap.size w w') :
    GPost r B w (.returned (.tuple #[.int .u64 xi, .slice A m c, .int .i64 0])) w' := by
  rw [h]
  subst hx
  have := hb.reads.len
  subst this
  exact ⟨⟨A, c, rfl, hb⟩, hbel⟩
set_option maxRecDepth 100000 in
set_option maxHeartbeats 4000000 in
theorem refGot_any (A : Option Addr) (n c : Nat) (bs : Bs) (B : Nat) (w : World) (h : BAsk w B A n c bs) :
    Calls Try.prog 63 #[.slice A n c] w (GPost (numR bs) B w) := by
  have H := Lib.hid h
  have HL := Lib.hid h.reads.len
  have hn := h.few
  unfold maxLen at hn
  clear h
  obtain ⟨R, hR⟩ : ∃ R, numR bs = R := ⟨_, rfl⟩
  have HR : Hid (gotR 0 0 (bs.drop 0) = R) := Lib.hid hR
  rw [hR]
  clear hR
  go_enter Try.func63, Try.ntmps63
  go_wp2
  go_loop [6, 5] (fun i v => ∃ (k acc : Nat), k ≤ 9 ∧ k ≤ n ∧ i = .int .i64 k ∧ v = .int .u64 acc ∧ acc < 128 ^ k ∧ gotR k acc (bs.drop k) = R) (fun i _ => 9 - (intOf i).toNat)
  case atStart => exact ⟨0, 0, by omega, by omega, rfl, rfl, by simp, HR.out⟩
  case round =>
    obtain ⟨k, acc, hk9, hkn, rfl, rfl, hacc, hg⟩ := hrel
    have HA := Lib.hid hacc
    have HG := Lib.hid hg
    clear hacc hg
    by_cases hlt : k < n
    · obtain ⟨b, off, rfl, hb, hc⟩ := H.out.reads.one hlt
      have hdrop : Hid (bs.drop k = bs.getD k 0 :: bs.drop (k + 1)) := Lib.hid (by
        have hl : k < bs.length := by rw [HL.out]; exact hlt
        rw [List.drop_eq_getElem_cons hl, List.getD, List.getElem?_eq_getElem hl]; rfl)
      obtain ⟨x, hx⟩ : ∃ x, bs.getD k 0 = x := ⟨_, rfl⟩
      rw [hx] at hdrop hc
      have HG2 : Hid (gotR k acc (x :: bs.drop (k + 1)) = R) := Lib.hid (by have := HG.out; rwa [hdrop.out] at this)
      clear hx hdrop HG
      obtain ⟨y, hy⟩ : ∃ y, x.toNat = y := ⟨_, rfl⟩
      have hy256 : y < 256 := by rw [← hy]; exact c8_lt x
      have HY := Lib.hid hy
      rw [hy] at hc
      clear hy
      by_cases h8 : 8 < k
      · have e0 : Hid (R = .error 3) := Lib.hid (by rw [← HG2.out, gotR_cons, if_pos (.inl h8)])
        have h8d : decide ((8 : Int) < (k : Int)) = true := by simp; omega
        go_wp2
        go_ret3
        exact gerr_mk e0.out (Below.refl _ _)
      · have h8d : decide ((8 : Int) < (k : Int)) = false := by simp; omega
        by_cases h0 : 0 < k ∧ y = 0
        · have e0 : Hid (R = .error 3) := Lib.hid (by rw [← HG2.out, gotR_cons, if_pos (.inr ⟨h0.1, by have := HY.out; rw [← toNat_ofNat8 x, this, h0.2]; rfl⟩)])
          obtain ⟨h01, rfl⟩ := h0
          go_wp2
          go_ret3
          exact gerr_mk e0.out (Below.refl _ _)
        · have hk8 : k ≤ 8 := by omega
          obtain ⟨p, hp⟩ : ∃ p, y % 128 = p := ⟨_, rfl⟩
          have hpi : (y : Int) % 128 = (p : Int) := by omega
          have hp127 : p ≤ 127 := by omega
          have HP := Lib.hid hp
          obtain ⟨P, hP⟩ : ∃ P, 128 ^ k = P := ⟨_, rfl⟩
          have hP8 : P ≤ 72057594037927936 := by rw [← hP]; exact pow_le8 hk8
          have HPK := Lib.hid hP
          have hacc2 : acc < P := by rw [← hP]; exact HA.out
          have HNO : Hid (¬ (8 < k ∨ (0 < k ∧ x = 0))) := Lib.hid (by
            rintro (h | ⟨h, hx⟩)
            · omega
            · exact h0 ⟨h, by rw [← HY.out, hx]; rfl⟩)
          have hguard : decide (0 < k) = false ∨ (decide (0 < k) = true ∧ ((y : Int) == 0) = false) := by
            rcases Nat.eq_zero_or_pos k with hk0 | hk0
            · left; simp; omega
            · right; exact ⟨by simp; omega, by simp; omega⟩
          clear hp hP h0 h8
          rcases hguard with hg1 | ⟨hg1, hg2⟩
          all_goals
            go_wp2
            clear hg1
            go_loop [8, 7] (fun j v => ∃ (J V : Nat), J ≤ k ∧ j = .int .i64 J ∧ v = .int .u64 V ∧ V = p * 128 ^ J) (fun j _ => k - (intOf j).toNat)
            case atStart => exact ⟨0, p, by omega, rfl, rfl, by simp⟩
            case round =>
              obtain ⟨J, V, hJ, rfl, rfl, hV⟩ := hrel
              have HV := Lib.hid hV
              by_cases hJk : J < k
              · have hV2 : V ≤ 71494644084506624 := by
                  rw [hV]
                  have h1 : 128 ^ J ≤ 128 ^ 7 := Nat.pow_le_pow_right (by omega) (by omega)
                  have h2 : (128 : Nat) ^ 7 = 562949953421312 := by decide
                  have h3 : p * 128 ^ J ≤ 127 * 562949953421312 := Nat.mul_le_mul hp127 (by omega)
                  omega
                clear hV
                go_wp2
                go_round
                case rel => exact ⟨J + 1, V * 128, by omega, by go_num, by go_num, by rw [HV.out, Nat.pow_succ, Nat.mul_assoc]⟩
                case measure => simp [intOf]; omega
              · have hJe : J = k := by omega
                have HVP : Hid (V = p * P) := Lib.hid (by rw [HV.out, hJe, HPK.out])
                have hV3 : V ≤ 9151314442816847872 := by
                  rw [HVP.out]
                  have := Nat.mul_le_mul hp127 hP8
                  omega
                have HVK : Hid (V = y % 128 * 128 ^ k) := Lib.hid (by rw [HVP.out, HP.out, HPK.out])
                have hJd : decide (J < k) = false := by simp; omega
                clear hV hJk
                by_cases hy128 : y < 128
                · have HVY : Hid (V = x.toNat * 128 ^ k) := Lib.hid (by rw [HVK.out, HY.out, Nat.mod_eq_of_lt hy128])
                  have HR1 : Hid ((if 4611686018427387904 < acc + V then Except.error 3 else Except.ok (acc + V, bs.drop (k + 1))) = R) := Lib.hid (by
                    have := HG2.out
                    rw [gotR_cons, if_neg HNO.out, if_pos (by rw [HY.out]; exact hy128), ← HVY.out] at this
                    exact this)
                  have hyd : decide ((y : Int) < 128) = true := by simp; omega
                  clear hy128 hJe
                  by_cases hbig : 4611686018427387904 < acc + V
                  · have e0 : Hid (R = .error 3) := Lib.hid (by rw [← HR1.out, if_pos hbig])
                    have hbd : decide ((4611686018427387904 : Int) < (acc : Int) + (V : Int)) = true := by simp; omega
                    clear hbig
                    go_wp2
                    go_ret3
                    exact gerr_mk e0.out (Below.refl _ _)
                  · have e0 : Hid (R = .ok (acc + V, bs.drop (k + 1))) := Lib.hid (by rw [← HR1.out, if_neg hbig])
                    have hbd : decide ((4611686018427387904 : Int) < (acc : Int) + (V : Int)) = false := by simp; omega
                    have HCA : Hid (c = k + 1 → BAsk w B (some ⟨b, off, none⟩) (n - (k + 1)) 0 (bs.drop (k + 1))) := Lib.hid (fun h => by
                      have := H.out.cut1 (k := k + 1) (by omega)
                      rwa [if_pos h, show c - (k + 1) = 0 by omega] at this)
                    have HCB : Hid (c ≠ k + 1 → BAsk w B (some ⟨b, off + (k + 1), none⟩) (n - (k + 1)) (c - (k + 1)) (bs.drop (k + 1))) := Lib.hid (fun h => by
                      have := H.out.cut1 (k := k + 1) (by omega)
                      rwa [if_neg h] at this)
                    have hcap := H.out.cap
                    have hk1 : (k : Int) + 1 ≤ (n : Int) := by omega
                    have hv1 : IntKind.i64.wrap ((k : Int) + 1) = (k : Int) + 1 := IntWalk.i64_in _ (by omega)
                    have hv2 : ((k : Int) + 1).toNat = k + 1 := by omega
                    have hv3 : (0 : Int) ≤ (k : Int) + 1 := by omega
                    clear hbig
                    go_wp2
                    go_quiet (fail)
                    clear hv1 hv2 hv3
                    go_wp2
                    all_goals
                      go_ret3
                      first
                        | exact gok_mk e0.out (by omega) ((HCA.out (by omega)).below (bel_more (Below.refl _ _) _)) (bel_drew _ _)
                        | exact gok_mk e0.out (by omega) ((HCB.out (by omega)).below (bel_more (Below.refl _ _) _)) (bel_drew _ _)
                · have HR1 : Hid (gotR (k + 1) (acc + V) (bs.drop (k + 1)) = R) := Lib.hid (by
                    have := HG2.out
                    rw [gotR_cons, if_neg HNO.out, if_neg (by rw [HY.out]; exact hy128), HY.out, ← HVK.out] at this
                    exact this)
                  have HAC : Hid (acc + V < 128 ^ (k + 1)) := Lib.hid (by
                    rw [Nat.pow_succ, HPK.out, HVP.out]
                    have := Nat.mul_le_mul_right P hp127
                    omega)
                  have hyd : decide ((y : Int) < 128) = false := by simp; omega
                  clear hy128 hJe
                  go_wp2
                  go_round
                  case rel => exact ⟨k + 1, acc + V, by omega, by omega, by go_num, by go_num, HAC.out, HR1.out⟩
                  case measure => simp [intOf]; omega
    · have e0 : Hid (R = .error 2) := Lib.hid (by rw [← HG.out, List.drop_of_length_le (by have := HL.out; omega), gotR_nil])
      have hkd : decide (n ≤ k) = true := by simp; omega
      go_wp2
      go_ret3
      exact gerr_mk e0.out (Below.refl _ _)
theorem refGot_ok {A : Option Addr} {n c B x : Nat} {bs t : Bs} {w : World} (h : BAsk w B A n c bs) (hr : numR bs = .ok (x, t)) :
    Calls Try.prog 63 #[.slice A n c] w (GOk x t B w) := by
  have := refGot_any A n c bs B w h
  rw [hr] at this
  exact this
theorem refGot_err {A : Option Addr} {n c B er : Nat} {bs : Bs} {w : World} (h : BAsk w B A n c bs) (hr : numR bs = .error er) :
    Calls Try.prog 63 #[.slice A n c] w (GErr er w) := by
  have := refGot_any A n c bs B w h
  rw [hr] at this
  exact this

end Go.Proofs.Ytlpogkcfjbabaaa
