/- The program's tagged and Right of layer 5 (graph): what they answer of any thing, any list of things. -/
import Derived.Test.YtnlgnpdajblfnaaDoorGraphPBase
import Derived.Deep.RegionHeld3
import Derived.Laws.StructEq
namespace Go.Proofs.YtnlgnpdajblfnaaDoor
open Go.RowKit

def taggedB (k : Int) (s : ByteArray) : Bool := decide (s.size = 0 ∨ (k = 2 ∧ tagB s = true))
set_option maxRecDepth 100000 in
set_option maxHeartbeats 2000000 in
theorem tagged_any (k u : Int) (s : ByteArray) (w : World) (hs : s.size ≤ maxLen) :
    Calls Tryd.prog 35 #[.agg #[.int .i64 k, .int .i64 u, .string s]] w fun e w' => e = .returned (.bool (taggedB k s)) ∧ Below w.heap.size w w' := by
  have HS := Lib.hid hs
  have HB : Hid (Below w.heap.size w (w.alloc (.cells #[.int .i64 k, .int .i64 u, .string s] 35))) := Lib.hid ((Below.refl _ _).alloc (Nat.le_refl _) _)
  by_cases h0 : s.size = 0
  · have e1 : Hid (taggedB k s = true) := Lib.hid (by unfold taggedB; exact decide_eq_true (.inl h0))
    obtain rfl := str_empty h0
    clear h0 hs
    go_enter Tryd.func35, Tryd.ntmps35
    go_wp2
    go_ret
    exact ⟨ret_bool e1.out, HB.out⟩
  · obtain ⟨f1, f2, f3, f4⟩ := str_facts h0
    by_cases h2 : k = 2
    · have e1 : Hid (taggedB k s = tagB s) := Lib.hid (by
        unfold taggedB
        rw [Bool.eq_iff_iff, decide_eq_true_eq]
        exact ⟨fun h => h.elim (fun h => absurd h h0) (fun h => h.2), fun h => .inr ⟨h2, h⟩⟩)
      subst h2
      clear h0 hs
      go_enter Tryd.func35, Tryd.ntmps35
      go_wp2_with fail
      refine (tag_any s _ HS.out).mono ?_
      rintro e w1 ⟨rfl, q, rfl⟩
      go_wp2
      go_ret
      exact ⟨ret_bool e1.out, bel_more HB.out q⟩
    · have e1 : Hid (taggedB k s = false) := Lib.hid (by
        unfold taggedB
        rw [decide_eq_false_iff_not]
        exact fun h => h.elim h0 (fun h => h2 h.1))
      have h2d : (k == 2) = false := by simpa using h2
      clear h0 h2 hs
      go_enter Tryd.func35, Tryd.ntmps35
      go_wp2
      go_ret
      exact ⟨ret_bool e1.out, HB.out⟩
theorem tagged_b {k u : Int} {s : ByteArray} {w : World} {b : Bool} (hs : s.size ≤ maxLen) (h : taggedB k s = b) :
    Calls Tryd.prog 35 #[.agg #[.int .i64 k, .int .i64 u, .string s]] w fun e w' => e = .returned (.bool b) ∧ Below w.heap.size w w' := by
  subst h; exact tagged_any k u s w hs

theorem okT_kind {g : Gr} {j : Nat} (h : okT g j) : 0 ≤ gk g j := by
  rcases Nat.eq_zero_or_pos j with rfl | hj
  · have := ((okT_zero g).1 h).1; omega
  · have := ((okT_pos hj).1 h).2.2.2.2; omega
theorem tagB_empty : tagB ⟨#[]⟩ = true := by decide
/-- behind things that stand right, the program's four tests say whether this one does -/
theorem okT_tests {g : Gr} {k : Nat} (hk : 0 < k) (hp : ∀ j, j < k → okT g j) :
    okT g k ↔ 0 ≤ gu g k ∧ gu g k < k ∧ partK (gk g k) (gk g (gu g k).toNat) = true ∧ taggedB (gk g k) (gt g k) = true := by
  rw [okT_pos hk]
  unfold partK taggedB
  rw [decide_eq_true_eq, decide_eq_true_eq]
  have ht : (gt g k).size = 0 → tagB (gt g k) = true := fun h => by rw [str_empty h]; exact tagB_empty
  constructor
  · rintro ⟨h1, h2, h3, h4, h5⟩
    have hv := okT_kind (hp (gu g k).toNat (by omega))
    refine ⟨h1, h2, by omega, ?_⟩
    rcases h3 with h3 | h3
    · exact .inl h3
    · exact .inr ⟨h3, h4⟩
  · rintro ⟨h1, h2, h3, h4⟩
    refine ⟨h1, h2, h4.imp id (·.1), ?_, by omega⟩
    rcases h4 with h4 | h4
    · exact ht h4
    · exact h4.2

set_option maxRecDepth 100000 in
set_option maxHeartbeats 8000000 in
theorem graphRight_any (A : Option Addr) (n c : Nat) (g : Gr) (w : World) (hr : RG w w.heap.size A n g) (hn : n ≤ maxLen) :
    Calls Tryd.prog 19 #[.slice A n c] w fun e w' => e = .returned (.bool (rightG g)) ∧ Below w.heap.size w w' := by
  unfold maxLen at hn
  have HR := Lib.hid hr
  clear hr
  by_cases h0 : n = 0
  · have e1 : Hid (rightG g = false) := Lib.hid (by unfold rightG; rw [decide_eq_false_iff_not]; exact fun h => h.1 (List.eq_nil_of_length_eq_zero (by rw [HR.out.len]; exact h0)))
    subst h0
    go_enter Tryd.func19, Tryd.ntmps19
    go_wp2
    go_ret
    exact ⟨ret_bool e1.out, Below.refl _ _⟩
  · by_cases h256 : 256 < n
    · have e1 : Hid (rightG g = false) := Lib.hid (by unfold rightG; rw [decide_eq_false_iff_not, HR.out.len]; omega)
      have h0p : 0 < n := by omega
      have hn0 : ((n : Int) == 0) = false := by simp; omega
      go_enter Tryd.func19, Tryd.ntmps19
      go_wp2
      go_ret
      exact ⟨ret_bool e1.out, Below.refl _ _⟩
    · have h0p : 0 < n := by omega
      have h256d : decide (256 < (n : Int)) = false := by simp; omega
      have hn0 : ((n : Int) == 0) = false := by simp; omega
      obtain ⟨b, off, rfl, hbw, hc0, hc1, hc2, _⟩ := HR.out.one h0p
      simp only [Nat.zero_mul, Nat.add_zero] at hc0 hc1 hc2
      have hkg : Hid (0 < g.length) := Lib.hid (by rw [HR.out.len]; exact h0p)
      obtain ⟨kk, hkk⟩ : ∃ kk, gk g 0 = kk := ⟨_, rfl⟩
      obtain ⟨uu, huu⟩ : ∃ uu, gu g 0 = uu := ⟨_, rfl⟩
      obtain ⟨ss, hss⟩ : ∃ ss, gt g 0 = ss := ⟨_, rfl⟩
      rw [hkk] at hc0
      rw [huu] at hc1
      rw [hss] at hc2
      have hno : Hid (¬ (kk = 0 ∧ uu = -1 ∧ ss.size = 0) → rightG g = false) := Lib.hid (fun h => rightG_no hkg.out (by rw [okT_zero, hkk, huu, hss]; exact h))
      have hyes : Hid ((kk = 0 ∧ uu = -1 ∧ ss.size = 0) → ∀ j, j < 1 → okT g j) := Lib.hid (fun h j hj => by
        obtain rfl : j = 0 := by omega
        rw [okT_zero, hkk, huu, hss]; exact h)
      clear hkk huu hss h0 h256
      by_cases h1 : kk = 0
      · by_cases h2 : uu = -1
        · by_cases h3 : ss.size = 0
          · obtain rfl := str_empty h3
            have e1 := Lib.hid (hyes.out ⟨h1, h2, h3⟩)
            clear hno hyes h3
            subst h1 h2
            go_enter Tryd.func19, Tryd.ntmps19
            go_wp2
            go_loopw [3] (fun i wr => ∃ k : Nat, 1 ≤ k ∧ k ≤ n ∧ i = .int .i64 k ∧ (∀ j, j < k → okT g j) ∧ Below w.heap.size w wr) (fun i _ => n - (intOf i).toNat)
            case atStart => exact ⟨1, Nat.le_refl _, h0p, rfl, e1.out, Below.refl _ _⟩
            case round =>
              clear hc0 hc1 hc2
              obtain ⟨k, hk1, hk, rfl, hpre, hb⟩ := hrel
              have HP := Lib.hid hpre
              have HB := Lib.hid hb
              clear hpre hb
              by_cases hlt : k < n
              · have hRw := Lib.hid (HR.out.next HB.out)
                obtain ⟨b', off', e', hbw', hc0, hc1, hc2, hbd⟩ := hRw.out.one hlt
                injection e' with e'
                injection e' with e1' e2'
                subst e1' e2'
                have hsz := Lib.hid hbd.2.2
                clear hbd
                have HT := Lib.hid (okT_tests hk1 HP.out)
                have hkg : Hid (k < g.length) := Lib.hid (by rw [HR.out.len]; exact hlt)
                have hno : Hid (¬ okT g k → rightG g = false) := Lib.hid (fun h => rightG_no hkg.out h)
                have hyes : Hid (okT g k → ∀ j, j < k + 1 → okT g j) := Lib.hid (fun h j hj => by
                  rcases Nat.lt_or_ge j k with h' | h'
                  · exact HP.out j h'
                  · obtain rfl : j = k := by omega
                    exact h)
                have hvk : Hid (∀ u : Nat, u < k → ∃ v, gk g u = v ∧ wr.cell? ⟨b, off + u * 3, none⟩ = some (.int .i64 v)) := Lib.hid (fun u hu => by
                  obtain ⟨b', off', e', _, hcu, _, _, _⟩ := hRw.out.one (show u < n by omega)
                  injection e' with e'
                  injection e' with e1' e2'
                  subst e1' e2'
                  exact ⟨_, rfl, hcu⟩)
                obtain ⟨kk, hkk⟩ : ∃ kk, gk g k = kk := ⟨_, rfl⟩
                obtain ⟨uu, huu⟩ : ∃ uu, gu g k = uu := ⟨_, rfl⟩
                obtain ⟨ss, hss⟩ : ∃ ss, gt g k = ss := ⟨_, rfl⟩
                have HT2 : Hid (okT g k ↔ 0 ≤ uu ∧ uu < k ∧ partK kk (gk g uu.toNat) = true ∧ taggedB kk ss = true) := Lib.hid (by have := HT.out; rwa [hkk, huu, hss] at this)
                rw [hkk] at hc0
                rw [huu] at hc1
                rw [hss] at hc2 hsz
                clear hkk huu hss HT
                by_cases h1 : uu < 0
                · have e2 := Lib.hid (hno.out (fun h => by have := (HT2.out.1 h).1; omega))
                  have h1d : decide (uu < 0) = true := by simpa using h1
                  clear hno hyes hvk HT2
                  go_wp2
                  go_quiet (fail)
                  go_wp2
                  go_ret
                  exact ⟨ret_bool e2.out, bel_more HB.out _⟩
                · have h1d : decide (uu < 0) = false := by simpa using h1
                  by_cases h2 : (k : Int) ≤ uu
                  · have e2 := Lib.hid (hno.out (fun h => by have := (HT2.out.1 h).2.1; omega))
                    have h2d : decide ((k : Int) ≤ uu) = true := by simpa using h2
                    clear hno hyes hvk HT2
                    go_wp2
                    go_quiet (fail)
                    go_wp2
                    go_ret
                    exact ⟨ret_bool e2.out, bel_more HB.out _⟩
                  · obtain ⟨u, rfl⟩ : ∃ u : Nat, uu = (u : Int) := ⟨uu.toNat, by omega⟩
                    have huk : u < k := by omega
                    have h2d : decide (k ≤ u) = false := by simp; omega
                    obtain ⟨v, hv, hcu⟩ := hvk.out u huk
                    have HT3 : Hid (okT g k ↔ partK kk v = true ∧ taggedB kk ss = true) := Lib.hid (by
                      have := HT2.out
                      rw [Int.toNat_natCast, hv] at this
                      rw [this]
                      exact ⟨fun h => h.2.2, fun h => ⟨by omega, by omega, h⟩⟩)
                    have hun : (u : Int) < (n : Int) := by omega
                    clear hvk HT2 hv h1 h2
                    cases hpk : partK kk v with
                    | false =>
                      have e2 := Lib.hid (hno.out (fun h => by have := (HT3.out.1 h).1; rw [hpk] at this; cases this))
                      have HPK : Hid (∀ q : Nat, Calls Tryd.prog 34 #[.int .i64 kk, .int .i64 v] (wr.drewN q) fun e w' => e = .returned (.bool false) ∧ w' = wr.drewN q) :=
                        Lib.hid (fun q => (partOf_b hpk).mono fun e w' ⟨h1, h2⟩ => ⟨h1, h2.symm⟩)
                      clear hno hyes HT3 hpk
                      go_wp2
                      go_quiet ((go_at_call 34; exact Calls.quiet_of_same (HPK.out _)))
                      go_wp2
                      go_ret
                      exact ⟨ret_bool e2.out, bel_more HB.out _⟩
                    | true =>
                      have HPK : Hid (∀ wx : World, Calls Tryd.prog 34 #[.int .i64 kk, .int .i64 v] wx fun e w' => e = .returned (.bool true) ∧ wx = w') := Lib.hid (fun _ => partOf_b hpk)
                      obtain ⟨tv, htv⟩ : ∃ tv, taggedB kk ss = tv := ⟨_, rfl⟩
                      have HTG := Lib.hid (tagged_b (k := kk) (u := (u : Int)) (w := wr.drew) hsz.out htv)
                      have hbu : b < wr.heap.size := hbw'
                      have HKEEP : Hid (∀ wx, Below wr.drew.heap.size wr.drew wx → wx.cell? ⟨b, off + k * 3, none⟩ = some (.int .i64 kk) ∧ wx.cell? ⟨b, off + k * 3 + 1, none⟩ = some (.int .i64 (u : Int)) ∧ wx.cell? ⟨b, off + k * 3 + 2, none⟩ = some (.string ss) ∧ wx.cell? ⟨b, off + u * 3, none⟩ = some (.int .i64 v)) :=
                        Lib.hid (fun wx hb => ⟨(hb.cell (p := ⟨b, off + k * 3, none⟩) hbu).trans hc0, (hb.cell (p := ⟨b, off + k * 3 + 1, none⟩) hbu).trans hc1, (hb.cell (p := ⟨b, off + k * 3 + 2, none⟩) hbu).trans hc2, (hb.cell (p := ⟨b, off + u * 3, none⟩) hbu).trans hcu⟩)
                      have e3 : Hid (tv = false → rightG g = false) := Lib.hid (fun h => hno.out (fun ho => by have := (HT3.out.1 ho).2; rw [htv, h] at this; cases this))
                      have e4 : Hid (tv = true → ∀ j, j < k + 1 → okT g j) := Lib.hid (fun h => hyes.out (HT3.out.2 ⟨hpk, by rw [htv, h]⟩))
                      clear hno hyes HT3 hpk htv
                      cases tv with
                      | false =>
                        have e2 := Lib.hid (e3.out rfl)
                        clear e3 e4
                        go_wp2
                        go_region_held3 (fun w' => w'.cell? ⟨b, off + k * 3, none⟩ = some (.int .i64 kk) ∧ w'.cell? ⟨b, off + k * 3 + 1, none⟩ = some (.int .i64 (u : Int)) ∧ w'.cell? ⟨b, off + k * 3 + 2, none⟩ = some (.string ss) ∧ w'.cell? ⟨b, off + u * 3, none⟩ = some (.int .i64 v))
                          (first | go_keep | exact HKEEP.out _ HB3.out)
                          (first | (go_at_call 34; (with_reducible refine (HPK.out _).mono ?_); rintro e w4 ⟨rfl, rfl⟩) | (go_at_call 35; (with_reducible refine (HTG.out).mono ?_); rintro e w3 ⟨rfl, hb3⟩; have HB3 := Lib.hid hb3; clear hb3))
                        have HBX := Lib.hid (HB.out.trans ((bel_und HB3.out).mono HB.out.size))
                        clear hc0 hc1 hc2 hcu
                        go_wp2
                        go_ret
                        exact ⟨ret_bool e2.out, HBX.out⟩
                      | true =>
                        have e2 := Lib.hid (e4.out rfl)
                        clear e3 e4
                        go_wp2
                        go_region_held3 (fun w' => w'.cell? ⟨b, off + k * 3, none⟩ = some (.int .i64 kk) ∧ w'.cell? ⟨b, off + k * 3 + 1, none⟩ = some (.int .i64 (u : Int)) ∧ w'.cell? ⟨b, off + k * 3 + 2, none⟩ = some (.string ss) ∧ w'.cell? ⟨b, off + u * 3, none⟩ = some (.int .i64 v))
                          (first | go_keep | exact HKEEP.out _ HB3.out)
                          (first | (go_at_call 34; (with_reducible refine (HPK.out _).mono ?_); rintro e w4 ⟨rfl, rfl⟩) | (go_at_call 35; (with_reducible refine (HTG.out).mono ?_); rintro e w3 ⟨rfl, hb3⟩; have HB3 := Lib.hid hb3; clear hb3))
                        have HBX := Lib.hid (HB.out.trans ((bel_und HB3.out).mono HB.out.size))
                        clear hc0 hc1 hc2 hcu
                        go_wp2
                        go_roundw
                        case rel => exact ⟨k + 1, by omega, by omega, by go_num, e2.out, HBX.out⟩
                        case measure => simp [intOf]; omega
              · have hkn : k = n := by omega
                have e2 : Hid (rightG g = true) := Lib.hid (by
                  unfold rightG
                  rw [decide_eq_true_eq, HR.out.len]
                  exact ⟨fun h => by have := HR.out.len; rw [h] at this; simp at this; omega, by simp at h256d; omega, fun j hj => HP.out j (by omega)⟩)
                clear hkn
                go_wp2
                go_ret
                exact ⟨ret_bool e2.out, HB.out⟩
          · have e1 := Lib.hid (hno.out (fun h => h3 h.2.2))
            obtain ⟨f1, f2, f3, f4⟩ := str_facts h3
            clear hno hyes h3
            subst h1 h2
            go_enter Tryd.func19, Tryd.ntmps19
            go_wp2
            go_ret
            exact ⟨ret_bool e1.out, Below.refl _ _⟩
        · have e1 := Lib.hid (hno.out (fun h => h2 h.2.1))
          have h2d : (uu == -1) = false := by simpa using h2
          clear hno hyes h2
          subst h1
          go_enter Tryd.func19, Tryd.ntmps19
          go_wp2
          go_ret
          exact ⟨ret_bool e1.out, Below.refl _ _⟩
      · have e1 := Lib.hid (hno.out (fun h => h1 h.1))
        have h1d : (kk == 0) = false := by simpa using h1
        clear hno hyes h1
        go_enter Tryd.func19, Tryd.ntmps19
        go_wp2
        go_ret
        exact ⟨ret_bool e1.out, Below.refl _ _⟩

theorem graphRight_b {A : Option Addr} {n c : Nat} {g : Gr} {w : World} {b : Bool} (hr : RG w w.heap.size A n g) (hn : n ≤ maxLen) (h : rightG g = b) :
    Calls Tryd.prog 19 #[.slice A n c] w fun e w' => e = .returned (.bool b) ∧ Below w.heap.size w w' := by
  subst h; exact graphRight_any A n c g w hr hn

end Go.Proofs.YtnlgnpdajblfnaaDoor
