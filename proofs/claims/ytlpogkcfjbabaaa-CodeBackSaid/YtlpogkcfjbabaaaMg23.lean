/- The reference's Set of layer 8 (bailiwickref08): what it puts of any list of numbers. -/
import Derived.Test.YtlpogkcfjbabaaaMg22
import Derived.Test.YtlpogkcfjbabaaaMg06
namespace Go.Proofs.Ytlpogkcfjbabaaa
open Go.RowKit

def endR (last : Nat) : List (Nat × Nat) → Nat
  | [] => last
  | (f, m) :: r => endR (f + m) r
theorem runsB_snoc : ∀ (d : List (Nat × Nat)) (last f m : Nat), runsB last (d ++ [(f, m)]) = runsB last d ++ (numB (f - endR last d) ++ numB m) := by
  intro d
  induction d with
  | nil => intro last f m; show numB (f - last) ++ (numB m ++ []) = [] ++ (numB (f - last) ++ numB m); simp
  | cons x r ih =>
    intro last f m
    obtain ⟨g, k⟩ := x
    show numB (g - last) ++ (numB k ++ runsB (g + k) (r ++ [(f, m)])) = (numB (g - last) ++ (numB k ++ runsB (g + k) r)) ++ (numB (f - endR (g + k) r) ++ numB m)
    rw [ih]; simp
theorem endR_snoc : ∀ (d : List (Nat × Nat)) (last f m : Nat), endR last (d ++ [(f, m)]) = f + m := by
  intro d
  induction d with
  | nil => intro last f m; rfl
  | cons x r ih => intro last f m; obtain ⟨g, k⟩ := x; exact ih (g + k) f m
theorem okRuns_mem : ∀ (rs : List (Nat × Nat)) (first : Bool) (last : Nat), okRuns first last rs → ∀ r ∈ rs, last ≤ r.1 ∧ (first = false → last + 2 ≤ r.1) ∧ r.1 + r.2 ≤ 255 := by
  intro rs
  induction rs with
  | nil => intro _ _ _ r hr; cases hr
  | cons x t ih =>
    intro first last h r hr
    obtain ⟨f, m⟩ := x
    obtain ⟨h1, h2, h3, h4⟩ := h
    rcases List.mem_cons.1 hr with rfl | hr
    · exact ⟨h1, (fun hf => h3.elim (fun h3 => absurd (hf.symm.trans h3) (by decide)) id), h2⟩
    · have := ih false (f + m) h4 r hr
      have h5 := this.2.1 rfl
      exact ⟨by omega, fun _ => by omega, this.2.2⟩
theorem okRuns_split : ∀ (a : List (Nat × Nat)) (first : Bool) (last f m : Nat) (b : List (Nat × Nat)), okRuns first last (a ++ (f, m) :: b) → (∀ r ∈ a, r.1 + r.2 + 2 ≤ f) ∧ (∀ r ∈ b, f + m + 2 ≤ r.1) ∧ f + m ≤ 255 ∧ endR last a ≤ f := by
  intro a
  induction a with
  | nil =>
    intro first last f m b h
    obtain ⟨h1, h2, h3, h4⟩ := h
    exact ⟨(fun r hr => by cases hr), fun r hr => (okRuns_mem b false (f + m) h4 r hr).2.1 rfl, h2, h1⟩
  | cons x t ih =>
    intro first last f m b h
    obtain ⟨g, k⟩ := x
    obtain ⟨h1, h2, h3, h4⟩ := h
    obtain ⟨q1, q2, q3, q4⟩ := ih false (g + k) f m b h4
    refine ⟨fun r hr => ?_, q2, q3, q4⟩
    rcases List.mem_cons.1 hr with rfl | hr
    · exact (okRuns_mem _ false (g + k) h4 (f, m) (by simp)).2.1 rfl
    · exact q1 r hr
theorem mem_runs {l : List Int} (h : rightB l = true) (x : Nat) : hasB l (x : Int) = true ↔ ∃ r ∈ runsL l, r.1 ≤ x ∧ x ≤ r.1 + r.2 := by
  have hf := runs_flat l fun y hy => (right_mem h y hy).1
  unfold hasB
  rw [h, Bool.true_and, List.contains_iff_mem]
  constructor
  · intro hx
    rw [← hf] at hx
    unfold flatR at hx
    obtain ⟨r, hr, hxr⟩ := List.mem_flatMap.1 hx
    unfold runN at hxr
    obtain ⟨k, hk, e⟩ := List.mem_map.1 hxr
    have := List.mem_range.1 hk
    exact ⟨r, hr, by omega, by omega⟩
  · rintro ⟨r, hr, h1, h2⟩
    rw [← hf]
    unfold flatR
    refine List.mem_flatMap.2 ⟨r, hr, ?_⟩
    unfold runN
    exact List.mem_map.2 ⟨x - r.1, List.mem_range.2 (by omega), by omega⟩
/-- the runs as they are found, number by number -/
structure Scan (l : List Int) (n : Nat) (d r : List (Nat × Nat)) : Prop where
  all : runsL l = d ++ r
  low : ∀ x ∈ d, x.1 < n
  high : ∀ x ∈ r, n ≤ x.1
section
variable {l : List Int} {n : Nat} {d r : List (Nat × Nat)}
theorem Scan.start (l : List Int) : Scan l 0 [] (runsL l) := ⟨rfl, (fun x hx => by cases hx), fun x _ => Nat.zero_le _⟩
/-- no run begins here -/
theorem Scan.skip (h : rightB l = true) (hs : Scan l n d r) (hn : ∀ x ∈ r, x.1 ≠ n) : Scan l (n + 1) d r ∧ (hasB l (n : Int) = false ∨ (0 < n ∧ hasB l ((n : Int) - 1) = true)) := by
  refine ⟨⟨hs.all, fun x hx => by have := hs.low x hx; omega, fun x hx => by have := hs.high x hx; have := hn x hx; omega⟩, ?_⟩
  cases hp : hasB l (n : Int) with
  | false => exact .inl rfl
  | true =>
    right
    obtain ⟨x, hx, h1, h2⟩ := (mem_runs h n).1 hp
    have hxd : x.1 < n := by
      rw [hs.all] at hx
      rcases List.mem_append.1 hx with hx | hx
      · exact hs.low x hx
      · have := hs.high x hx; have := hn x hx; omega
    refine ⟨by omega, ?_⟩
    have := (mem_runs h (n - 1)).2 ⟨x, hx, by omega, by omega⟩
    rwa [show ((n - 1 : Nat) : Int) = (n : Int) - 1 by omega] at this
/-- a run begins here -/
theorem Scan.take (h : rightB l = true) {m : Nat} (hs : Scan l n d ((n, m) :: r)) : Scan l (n + 1) (d ++ [(n, m)]) r ∧ hasB l (n : Int) = true ∧ (0 < n → hasB l ((n : Int) - 1) = false) ∧ n + m ≤ 255 ∧
    (∀ j, j < m → hasB l ((n : Int) + (j : Int) + 1) = true) ∧ hasB l ((n : Int) + (m : Int) + 1) = false ∧ endR 0 d ≤ n := by
  have ho := runs_ok l h
  rw [hs.all] at ho
  obtain ⟨q1, q2, q3, q4⟩ := okRuns_split d true 0 n m r ho
  have hin : (n, m) ∈ runsL l := by rw [hs.all]; simp
  have none : ∀ x : Nat, (∀ y ∈ runsL l, ¬ (y.1 ≤ x ∧ x ≤ y.1 + y.2)) → hasB l (x : Int) = false := fun x hx => by
    cases hp : hasB l (x : Int) with
    | false => rfl
    | true => obtain ⟨y, hy, h1, h2⟩ := (mem_runs h x).1 hp; exact absurd ⟨h1, h2⟩ (hx y hy)
  have cases3 : ∀ y ∈ runsL l, y.1 + y.2 + 2 ≤ n ∨ y = (n, m) ∨ n + m + 2 ≤ y.1 := fun y hy => by
    rw [hs.all] at hy
    rcases List.mem_append.1 hy with hy | hy
    · exact .inl (q1 y hy)
    · rcases List.mem_cons.1 hy with hy | hy
      · exact .inr (.inl hy)
      · exact .inr (.inr (q2 y hy))
  refine ⟨⟨by rw [hs.all]; simp, fun x hx => ?_, fun x hx => by have := q2 x hx; omega⟩, (mem_runs h n).2 ⟨_, hin, Nat.le_refl _, Nat.le_add_right _ _⟩, fun hn => ?_, q3, fun j hj => ?_, ?_, q4⟩
  · rcases List.mem_append.1 hx with hx | hx
    · have := hs.low x hx; omega
    · simp at hx; subst hx; simp
  · have := none (n - 1) (fun y hy => by
      rcases cases3 y hy with h1 | rfl | h1
      · omega
      · simp; omega
      · omega)
    rwa [show ((n - 1 : Nat) : Int) = (n : Int) - 1 by omega] at this
  · have := (mem_runs h (n + j + 1)).2 ⟨_, hin, by simp; omega, by simp; omega⟩
    rwa [show ((n + j + 1 : Nat) : Int) = (n : Int) + (j : Int) + 1 by omega] at this
  · have := none (n + m + 1) (fun y hy => by
      rcases cases3 y hy with h1 | rfl | h1
      · omega
      · simp
      · omega)
    rwa [show ((n + m + 1 : Nat) : Int) = (n : Int) + (m : Int) + 1 by omega] at this
theorem Scan.cases (h : rightB l = true) (hs : Scan l n d r) : (∃ m r', r = (n, m) :: r') ∨ ∀ x ∈ r, x.1 ≠ n := by
  cases r with
  | nil => exact .inr (fun x hx => by cases hx)
  | cons y r' =>
    obtain ⟨f, m⟩ := y
    have hf := hs.high (f, m) (by simp)
    by_cases hfn : f = n
    · exact .inl ⟨m, r', by rw [hfn]⟩
    · have ho := runs_ok l h
      rw [hs.all] at ho
      have hq := (okRuns_split d true 0 f m r' ho).2.1
      refine .inr fun x hx => ?_
      rcases List.mem_cons.1 hx with rfl | hx
      · exact hfn
      · have := hq x hx
        have hf' : n ≤ f := hf
        omega
theorem Scan.ends (h : rightB l = true) (hs : Scan l 256 d r) : runsL l = d := by
  cases r with
  | nil => rw [hs.all, List.append_nil]
  | cons x r =>
    have h1 := hs.high x (by simp)
    have h2 := (okRuns_mem _ true 0 (runs_ok l h) x (by rw [hs.all]; simp)).2.2
    omega
end

theorem refRight1_b {A : Option Addr} {n c : Nat} {l : List Int} {w : World} {b : Bool} (hr : RI w w.heap.size A n l) (hn : n ≤ maxLen) (h : rightB l = b) :
    Calls Try.prog 26 #[.slice A n c] w fun e w' => e = .returned (.bool b) ∧ Below w.heap.size w w' :=
  (refRight_any A n c l w _ hr hn).mono fun _ _ ⟨h1, k, h2⟩ => ⟨by rw [h1, h], by rw [h2]; exact bel_drew w k⟩
set_option maxRecDepth 100000 in
set_option maxHeartbeats 8000000 in
theorem refPutSet_any (A : Option Addr) (n c : Nat) (l : List Int) (w : World) (hi : RI w w.heap.size A n l) (hn : n ≤ maxLen) :
    Calls Try.prog 12 #[.slice A n c] w (BPost (ptSet l).1 (ptSet l).2 w) := by
  obtain ⟨i0, hi0, hz0, hz1, hz2⟩ := info_parts byte_info
  have HI := Lib.hid hi
  have HN := Lib.hid hn
  clear hi hn
  cases hr : rightB l with
  | false =>
    have e0 : ptSet l = ([], 1) := by unfold ptSet; rw [if_neg (by rw [hr]; simp)]
    rw [e0]
    have HR := Lib.hid hr
    clear hr e0
    go_enter Try.func12, Try.ntmps12
    go_wp2_with fail
    refine (refRight1_b HI.out HN.out HR.out).mono ?_
    rintro e w1 ⟨rfl, hb1⟩
    have HB1 := Lib.hid hb1
    clear hb1
    go_wp2
    go_ret2
    exact bpost_nil HB1.out
  | true =>
    have e0 : ptSet l = (setB l, 0) := by unfold ptSet; rw [if_pos hr]
    rw [e0]
    have HR := Lib.hid hr
    have HK : Hid ((runsL l).length ≤ 256) := Lib.hid (Nat.le_trans (runsL_len l) (right_few hr))
    clear hr e0
    go_enter Try.func12, Try.ntmps12
    go_wp2_with fail
    refine (refRight1_b HI.out HN.out HR.out).mono ?_
    rintro e w1 ⟨rfl, hb1⟩
    have HB1 := Lib.hid hb1
    have HI1 := Lib.hid (HI.out.next hb1)
    clear hb1
    go_wp2
    go_loopw [4, 5, 6, 7] (fun so sm sl si wr => ∃ (v0 : Value) (k lst : Nat) (d r : List (Nat × Nat)), v0 = so ∧ k ≤ 256 ∧ si = .int .i64 k ∧ sl = .int .i64 lst ∧ sm = .int .u64 (d.length : Nat) ∧ lst = endR 0 d ∧ Scan l k d r ∧ ON EB 1 5 w1 v0 (runsB 0 d) wr ∧ (runsB 0 d).length ≤ 18 * k) (fun _ _ _ i _ => 256 - (intOf i).toNat)
    case atStart => exact ⟨_, 0, 0, [], runsL l, rfl, by omega, rfl, rfl, rfl, rfl, Scan.start l, ON.nil _, by simp [runsB]⟩
    case round =>
      obtain ⟨v0, k, lst, d, r, rfl, hk, rfl, rfl, rfl, hlst, hsc, ho, hlen⟩ := hrel
      have hdl256 : d.length ≤ 256 := by
        have h := HK.out
        rw [hsc.all, List.length_append] at h
        omega
      have HO := Lib.hid ho
      have HLS := Lib.hid hlst
      have HSC := Lib.hid hsc
      have HLE := Lib.hid hlen
      have HIr := Lib.hid (HI1.out.next ho.below)
      clear ho hlst hsc hlen
      by_cases hlt : k < 256
      · rcases Scan.cases HR.out HSC.out with ⟨m, r', hrm⟩ | hno
        · subst hrm
          obtain ⟨q1, q2, q3, q4, q5, q6, q7⟩ := HSC.out.take HR.out
          have HS2 := Lib.hid q1
          have F1 := Lib.hid q2
          have F2 := Lib.hid q3
          have F3 := Lib.hid q5
          have F4 := Lib.hid q6
          have hkm : k + m ≤ 255 := q4
          obtain ⟨w0, hw0⟩ : ∃ w0, k - lst = w0 := ⟨_, rfl⟩
          have hlk : lst ≤ k := by rw [HLS.out]; exact q7
          have iq : (k : Int) - (lst : Int) = (w0 : Int) := by omega
          have HW0 : Hid (runsB 0 (d ++ [(k, m)]) = (runsB 0 d ++ numB w0) ++ numB m) := Lib.hid (by rw [runsB_snoc, ← HLS.out, hw0, List.append_assoc])
          have HEN : Hid (endR 0 (d ++ [(k, m)]) = k + m) := Lib.hid (endR_snoc d 0 k m)
          have hw0b : w0 ≤ 256 := by omega
          have HLN : Hid ((numB w0).length ≤ 9 ∧ (numB m).length ≤ 9) := Lib.hid ⟨numB_len (by omega), numB_len (by omega)⟩
          clear q1 q2 q3 q4 q5 q6 q7 hw0
          have hguard : decide (0 < k) = false ∨ (decide (0 < k) = true ∧ 0 < k) := by
            rcases Nat.eq_zero_or_pos k with hk0 | hk0
            · left; simp; omega
            · right; exact ⟨by simp; omega, hk0⟩
          rcases hguard with hg1 | ⟨hg1, hg2⟩
          · clear F2
            go_wp2_with fail
            refine (ri_has (x := (k : Int)) HIr.out HN.out F1.out).mono ?_
            rintro e z1 ⟨rfl, hb⟩
            have HO1 := Lib.hid (HO.out.next eb_steady hb)
            have HJ1 := Lib.hid (HIr.out.next hb)
            clear hb
            go_wp2
            go_loopw [8] (fun sj w' => ∃ j : Nat, j ≤ m ∧ sj = .int .i64 j ∧ ON EB 1 5 w1 v0 (runsB 0 d) w') (fun j _ => m - (intOf j).toNat)
            case atStart => exact ⟨0, by omega, rfl, HO1.out⟩
            case round =>
              obtain ⟨j, hj, rfl, ho5⟩ := hrel
              have HO5 := Lib.hid ho5
              have HI5 := Lib.hid (HI1.out.next ho5.below)
              clear ho5
              by_cases hjm : j < m
              · have F5 := Lib.hid (F3.out j hjm)
                have dj : decide ((k : Int) + (j : Int) < 255) = true := by simp; omega
                go_wp2_with fail
                refine (ri_has (x := (k : Int) + (j : Int) + 1) HI5.out HN.out F5.out).mono ?_
                rintro e z6 ⟨rfl, hb⟩
                have HO6 := Lib.hid (HO5.out.next eb_steady hb)
                have HJ6 := Lib.hid (HI5.out.next hb)
                clear hb
                go_wp2
                go_roundw
                case rel => exact ⟨j + 1, by omega, by go_num, HO6.out⟩
                case measure => simp [intOf]; omega
              · obtain rfl : j = m := by omega
                by_cases h255 : k + j < 255
                · have dj : decide ((k : Int) + (j : Int) < 255) = true := by simp; omega
                  go_wp2_with fail
                  refine (ri_has (x := (k : Int) + (j : Int) + 1) HI5.out HN.out F4.out).mono ?_
                  rintro e z6 ⟨rfl, hb⟩
                  have HO6 := Lib.hid (HO5.out.next eb_steady hb)
                  have HJ6 := Lib.hid (HI5.out.next hb)
                  clear hb
                  go_wp2_with fail
                  refine (refNum_any w0 _ (by omega)).mono ?_
                  rintro e u7 ⟨v7, rfl, hv⟩
                  obtain ⟨A7, a7, rfl, hnil7, hcap7⟩ := hv.form
                  have HV7 := Lib.hid (hv.reads eb_steady (by omega) rfl)
                  have HP7 := Lib.hid (HO6.out.next eb_steady hv.below)
                  clear hv
                  go_wp2_with (at_builtin; refine wpList_append_RB rfl (.tmp 44) (.tmp 49) 28 5 rfl HP7.out i0 Try.underlying28 hi0 hz0 hz1 hz2 rfl _ A7 _ a7 rfl HV7.out hnil7 (by have := HLE.out; have := HLN.out; omega) ?_; intro o8 y8 hON; refine Hid.out ?_)
                  refine Lib.hid ?_
                  have HO8 := Lib.hid hON
                  clear hON
                  go_wp2_with fail
                  refine (refNum_any j _ (by omega)).mono ?_
                  rintro e u8 ⟨v8, rfl, hv⟩
                  obtain ⟨A8, a8, rfl, hnil8, hcap8⟩ := hv.form
                  have HV8 := Lib.hid (hv.reads eb_steady (by omega) rfl)
                  have HP8 := Lib.hid (HO8.out.next eb_steady hv.below)
                  clear hv
                  go_wp2_with (at_builtin; refine wpList_append_RB rfl (.tmp 50) (.tmp 53) 28 5 rfl HP8.out i0 Try.underlying28 hi0 hz0 hz1 hz2 rfl _ A8 _ a8 rfl HV8.out hnil8 (by have := HLE.out; have := HLN.out; rw [List.length_append]; omega) ?_; intro o9 y9 hON; refine Hid.out ?_)
                  refine Lib.hid ?_
                  have HO9 := Lib.hid hON
                  clear hON
                  go_wp2
                  go_roundw
                  case rel => exact ⟨_, k + 1, k + j, d ++ [(k, j)], r', rfl, by omega, by go_num, by go_num, by rw [List.length_append]; go_num, HEN.out.symm, HS2.out, by rw [HW0.out]; exact HO9.out, by rw [HW0.out, List.length_append, List.length_append]; have := HLE.out; have := HLN.out; omega⟩
                  case measure => simp [intOf]; omega
                · have dj : decide ((k : Int) + (j : Int) < 255) = false := by simp; omega
                  go_wp2_with fail
                  refine (refNum_any w0 _ (by omega)).mono ?_
                  rintro e u7 ⟨v7, rfl, hv⟩
                  obtain ⟨A7, a7, rfl, hnil7, hcap7⟩ := hv.form
                  have HV7 := Lib.hid (hv.reads eb_steady (by omega) rfl)
                  have HP7 := Lib.hid (HO5.out.next eb_steady hv.below)
                  clear hv
                  go_wp2_with (at_builtin; refine wpList_append_RB rfl (.tmp 44) (.tmp 49) 28 5 rfl HP7.out i0 Try.underlying28 hi0 hz0 hz1 hz2 rfl _ A7 _ a7 rfl HV7.out hnil7 (by have := HLE.out; have := HLN.out; omega) ?_; intro o8 y8 hON; refine Hid.out ?_)
                  refine Lib.hid ?_
                  have HO8 := Lib.hid hON
                  clear hON
                  go_wp2_with fail
                  refine (refNum_any j _ (by omega)).mono ?_
                  rintro e u8 ⟨v8, rfl, hv⟩
                  obtain ⟨A8, a8, rfl, hnil8, hcap8⟩ := hv.form
                  have HV8 := Lib.hid (hv.reads eb_steady (by omega) rfl)
                  have HP8 := Lib.hid (HO8.out.next eb_steady hv.below)
                  clear hv
                  go_wp2_with (at_builtin; refine wpList_append_RB rfl (.tmp 50) (.tmp 53) 28 5 rfl HP8.out i0 Try.underlying28 hi0 hz0 hz1 hz2 rfl _ A8 _ a8 rfl HV8.out hnil8 (by have := HLE.out; have := HLN.out; rw [List.length_append]; omega) ?_; intro o9 y9 hON; refine Hid.out ?_)
                  refine Lib.hid ?_
                  have HO9 := Lib.hid hON
                  clear hON
                  go_wp2
                  go_roundw
                  case rel => exact ⟨_, k + 1, k + j, d ++ [(k, j)], r', rfl, by omega, by go_num, by go_num, by rw [List.length_append]; go_num, HEN.out.symm, HS2.out, by rw [HW0.out]; exact HO9.out, by rw [HW0.out, List.length_append, List.length_append]; have := HLE.out; have := HLN.out; omega⟩
                  case measure => simp [intOf]; omega
          · have F2' := Lib.hid (F2.out hg2)
            go_wp2_with fail
            refine (ri_has (x := (k : Int)) HIr.out HN.out F1.out).mono ?_
            rintro e z1 ⟨rfl, hb⟩
            have HO1 := Lib.hid (HO.out.next eb_steady hb)
            have HJ1 := Lib.hid (HIr.out.next hb)
            clear hb
            go_wp2_with fail
            refine (ri_has (x := (k : Int) - 1) HJ1.out HN.out F2'.out).mono ?_
            rintro e z2 ⟨rfl, hb⟩
            have HO2 := Lib.hid (HO1.out.next eb_steady hb)
            have HJ2 := Lib.hid (HJ1.out.next hb)
            clear hb
            go_wp2
            go_loopw [8] (fun sj w' => ∃ j : Nat, j ≤ m ∧ sj = .int .i64 j ∧ ON EB 1 5 w1 v0 (runsB 0 d) w') (fun j _ => m - (intOf j).toNat)
            case atStart => exact ⟨0, by omega, rfl, HO2.out⟩
            case round =>
              obtain ⟨j, hj, rfl, ho5⟩ := hrel
              have HO5 := Lib.hid ho5
              have HI5 := Lib.hid (HI1.out.next ho5.below)
              clear ho5
              by_cases hjm : j < m
              · have F5 := Lib.hid (F3.out j hjm)
                have dj : decide ((k : Int) + (j : Int) < 255) = true := by simp; omega
                go_wp2_with fail
                refine (ri_has (x := (k : Int) + (j : Int) + 1) HI5.out HN.out F5.out).mono ?_
                rintro e z6 ⟨rfl, hb⟩
                have HO6 := Lib.hid (HO5.out.next eb_steady hb)
                have HJ6 := Lib.hid (HI5.out.next hb)
                clear hb
                go_wp2
                go_roundw
                case rel => exact ⟨j + 1, by omega, by go_num, HO6.out⟩
                case measure => simp [intOf]; omega
              · obtain rfl : j = m := by omega
                by_cases h255 : k + j < 255
                · have dj : decide ((k : Int) + (j : Int) < 255) = true := by simp; omega
                  go_wp2_with fail
                  refine (ri_has (x := (k : Int) + (j : Int) + 1) HI5.out HN.out F4.out).mono ?_
                  rintro e z6 ⟨rfl, hb⟩
                  have HO6 := Lib.hid (HO5.out.next eb_steady hb)
                  have HJ6 := Lib.hid (HI5.out.next hb)
                  clear hb
                  go_wp2_with fail
                  refine (refNum_any w0 _ (by omega)).mono ?_
                  rintro e u7 ⟨v7, rfl, hv⟩
                  obtain ⟨A7, a7, rfl, hnil7, hcap7⟩ := hv.form
                  have HV7 := Lib.hid (hv.reads eb_steady (by omega) rfl)
                  have HP7 := Lib.hid (HO6.out.next eb_steady hv.below)
                  clear hv
                  go_wp2_with (at_builtin; refine wpList_append_RB rfl (.tmp 44) (.tmp 49) 28 5 rfl HP7.out i0 Try.underlying28 hi0 hz0 hz1 hz2 rfl _ A7 _ a7 rfl HV7.out hnil7 (by have := HLE.out; have := HLN.out; omega) ?_; intro o8 y8 hON; refine Hid.out ?_)
                  refine Lib.hid ?_
                  have HO8 := Lib.hid hON
                  clear hON
                  go_wp2_with fail
                  refine (refNum_any j _ (by omega)).mono ?_
                  rintro e u8 ⟨v8, rfl, hv⟩
                  obtain ⟨A8, a8, rfl, hnil8, hcap8⟩ := hv.form
                  have HV8 := Lib.hid (hv.reads eb_steady (by omega) rfl)
                  have HP8 := Lib.hid (HO8.out.next eb_steady hv.below)
                  clear hv
                  go_wp2_with (at_builtin; refine wpList_append_RB rfl (.tmp 50) (.tmp 53) 28 5 rfl HP8.out i0 Try.underlying28 hi0 hz0 hz1 hz2 rfl _ A8 _ a8 rfl HV8.out hnil8 (by have := HLE.out; have := HLN.out; rw [List.length_append]; omega) ?_; intro o9 y9 hON; refine Hid.out ?_)
                  refine Lib.hid ?_
                  have HO9 := Lib.hid hON
                  clear hON
                  go_wp2
                  go_roundw
                  case rel => exact ⟨_, k + 1, k + j, d ++ [(k, j)], r', rfl, by omega, by go_num, by go_num, by rw [List.length_append]; go_num, HEN.out.symm, HS2.out, by rw [HW0.out]; exact HO9.out, by rw [HW0.out, List.length_append, List.length_append]; have := HLE.out; have := HLN.out; omega⟩
                  case measure => simp [intOf]; omega
                · have dj : decide ((k : Int) + (j : Int) < 255) = false := by simp; omega
                  go_wp2_with fail
                  refine (refNum_any w0 _ (by omega)).mono ?_
                  rintro e u7 ⟨v7, rfl, hv⟩
                  obtain ⟨A7, a7, rfl, hnil7, hcap7⟩ := hv.form
                  have HV7 := Lib.hid (hv.reads eb_steady (by omega) rfl)
                  have HP7 := Lib.hid (HO5.out.next eb_steady hv.below)
                  clear hv
                  go_wp2_with (at_builtin; refine wpList_append_RB rfl (.tmp 44) (.tmp 49) 28 5 rfl HP7.out i0 Try.underlying28 hi0 hz0 hz1 hz2 rfl _ A7 _ a7 rfl HV7.out hnil7 (by have := HLE.out; have := HLN.out; omega) ?_; intro o8 y8 hON; refine Hid.out ?_)
                  refine Lib.hid ?_
                  have HO8 := Lib.hid hON
                  clear hON
                  go_wp2_with fail
                  refine (refNum_any j _ (by omega)).mono ?_
                  rintro e u8 ⟨v8, rfl, hv⟩
                  obtain ⟨A8, a8, rfl, hnil8, hcap8⟩ := hv.form
                  have HV8 := Lib.hid (hv.reads eb_steady (by omega) rfl)
                  have HP8 := Lib.hid (HO8.out.next eb_steady hv.below)
                  clear hv
                  go_wp2_with (at_builtin; refine wpList_append_RB rfl (.tmp 50) (.tmp 53) 28 5 rfl HP8.out i0 Try.underlying28 hi0 hz0 hz1 hz2 rfl _ A8 _ a8 rfl HV8.out hnil8 (by have := HLE.out; have := HLN.out; rw [List.length_append]; omega) ?_; intro o9 y9 hON; refine Hid.out ?_)
                  refine Lib.hid ?_
                  have HO9 := Lib.hid hON
                  clear hON
                  go_wp2
                  go_roundw
                  case rel => exact ⟨_, k + 1, k + j, d ++ [(k, j)], r', rfl, by omega, by go_num, by go_num, by rw [List.length_append]; go_num, HEN.out.symm, HS2.out, by rw [HW0.out]; exact HO9.out, by rw [HW0.out, List.length_append, List.length_append]; have := HLE.out; have := HLN.out; omega⟩
                  case measure => simp [intOf]; omega
        · obtain ⟨h2, hsk⟩ := HSC.out.skip HR.out hno
          have HS2 := Lib.hid h2
          clear h2 hno
          rcases hsk with hsk | ⟨hk0, hsk⟩
          · have F1 := Lib.hid hsk
            clear hsk
            go_wp2_with fail
            refine (ri_has (x := (k : Int)) HIr.out HN.out F1.out).mono ?_
            rintro e z1 ⟨rfl, hb⟩
            have HO1 := Lib.hid (HO.out.next eb_steady hb)
            have HJ1 := Lib.hid (HIr.out.next hb)
            clear hb
            go_wp2
            go_roundw
            case rel => exact ⟨_, k + 1, lst, d, r, rfl, by omega, by go_num, rfl, rfl, HLS.out, HS2.out, HO1.out, by have := HLE.out; omega⟩
            case measure => simp [intOf]; omega
          · have F1 := Lib.hid hsk
            have hg1 : decide (0 < k) = true := by simp; omega
            cases hhk : hasB l (k : Int) with
            | false =>
              have F0 := Lib.hid hhk
              clear hhk hsk
              go_wp2_with fail
              refine (ri_has (x := (k : Int)) HIr.out HN.out F0.out).mono ?_
              rintro e z1 ⟨rfl, hb⟩
              have HO1 := Lib.hid (HO.out.next eb_steady hb)
              have HJ1 := Lib.hid (HIr.out.next hb)
              clear hb
              go_wp2
              go_roundw
              case rel => exact ⟨_, k + 1, lst, d, r, rfl, by omega, by go_num, rfl, rfl, HLS.out, HS2.out, HO1.out, by have := HLE.out; omega⟩
              case measure => simp [intOf]; omega
            | true =>
              have F0 := Lib.hid hhk
              clear hhk hsk
              go_wp2_with fail
              refine (ri_has (x := (k : Int)) HIr.out HN.out F0.out).mono ?_
              rintro e z1 ⟨rfl, hb⟩
              have HO1 := Lib.hid (HO.out.next eb_steady hb)
              have HJ1 := Lib.hid (HIr.out.next hb)
              clear hb
              go_wp2_with fail
              refine (ri_has (x := (k : Int) - 1) HJ1.out HN.out F1.out).mono ?_
              rintro e z2 ⟨rfl, hb⟩
              have HO2 := Lib.hid (HO1.out.next eb_steady hb)
              have HJ2 := Lib.hid (HJ1.out.next hb)
              clear hb
              go_wp2
              go_roundw
              case rel => exact ⟨_, k + 1, lst, d, r, rfl, by omega, by go_num, rfl, rfl, HLS.out, HS2.out, HO2.out, by have := HLE.out; omega⟩
              case measure => simp [intOf]; omega
      · obtain rfl : k = 256 := by omega
        have hsd := HSC.out.ends HR.out
        have HF : Hid (setB l = ([2] ++ numB d.length) ++ runsB 0 d) := Lib.hid (by unfold setB; rw [hsd]; simp)
        have hd256 : d.length ≤ 256 := by rw [← hsd]; exact HK.out
        have HLN : Hid ((numB d.length).length ≤ 9) := Lib.hid (numB_len (by omega))
        have HBR : Hid (Below w.heap.size w wr) := Lib.hid (HB1.out.trans (HO.out.below.mono HB1.out.size))
        obtain ⟨Ab, ab, rfl, hnilb, hcapb⟩ := HO.out.form
        have HRB : Hid (RB wr wr.heap.size Ab (runsB 0 d).length (runsB 0 d)) := Lib.hid (HO.out.reads eb_steady (by omega) rfl)
        have HX := Lib.hid (onb_one (t := 5) wr 2 (by omega))
        generalize hdl : d.length = dl at *
        clear hsd hdl
        go_wp2_with fail
        refine (refNum_any dl _ (by omega)).mono ?_
        rintro e u7 ⟨v7, rfl, hv⟩
        obtain ⟨A7, a7, rfl, hnil7, hcap7⟩ := hv.form
        have HV7 := Lib.hid (hv.reads eb_steady (by omega) rfl)
        have HP7 := Lib.hid (HX.out.next eb_steady hv.below)
        clear hv
        go_wp2_with (at_builtin; refine wpList_append_RB rfl (.tmp 60) (.tmp 62) 28 5 rfl HP7.out i0 Try.underlying28 hi0 hz0 hz1 hz2 rfl _ A7 _ a7 rfl HV7.out hnil7 (by have := HLN.out; simp only [List.length_cons, List.length_nil]; omega) ?_; intro o8 y8 hON; refine Hid.out ?_)
        refine Lib.hid ?_
        have HO8 := Lib.hid hON
        have HRB8 := Lib.hid (HRB.out.below hON.below)
        clear hON
        go_wp2_with (at_builtin; refine wpList_append_RB rfl (.tmp 63) (.tmp 64) 28 5 rfl HO8.out i0 Try.underlying28 hi0 hz0 hz1 hz2 rfl _ Ab _ ab rfl HRB8.out hnilb (by have := HLN.out; have := HLE.out; simp only [List.length_append, List.length_cons, List.length_nil]; omega) ?_; intro o9 y9 hON; refine Hid.out ?_)
        refine Lib.hid ?_
        have HO9 := Lib.hid hON
        clear hON
        go_wp2
        go_ret2
        exact bpost_on HO9.out HF.out.symm HBR.out

end Go.Proofs.Ytlpogkcfjbabaaa
