/- The program's tagged and Right of layer 5 (graph): what they answer of any thing, any list of things. Words for memory: an array of 256 bools in a block of its own (the program's marks): made, marked, loaded whole, asked at a place. The program's there, marks.list, Node of layer 5 (graph): what they answer of any list of things, any marks. The program's Nodes of layer 5 (graph): what it answers of any list of things. Words for memory: a slice of counts of five kinds each, that the call itself made. The program's home and count: what they answer. -/
import Derived.Deep.RegionHeld3
import Derived.Laws.StructEq
import Derived.Test.YtchogijdkagiiaaGreatDoorMg12
import Derived.Laws.Rows
import Derived.Test.YtchogijdkagiiaaGreatDoorMg04
import Derived.OwnWalk
import Derived.Laws.OwnMore
import Derived.LoopTactic
import Derived.RegionTactic
namespace Go.Proofs.YtchogijdkagiiaaGreatDoor
open Go.RowKit

def taggedB (k : Int) (s : ByteArray) : Bool := decide (s.size = 0 ∨ (k = 2 ∧ tagB s = true))
set_option maxRecDepth 100000 in
set_option maxHeartbeats 2000000 in
theorem tagged_any (k u : Int) (s : ByteArray) (w : World) (hs : s.size ≤ maxLen) :
    Calls Tryz.prog 126 #[.agg #[.int .i64 k, .int .i64 u, .string s]] w fun e w' => e = .returned (.bool (taggedB k s)) ∧ Below w.heap.size w w' := by
  have HS := Lib.hid hs
  have HB : Hid (Below w.heap.size w (w.alloc (.cells #[.int .i64 k, .int .i64 u, .string s] 58))) := Lib.hid ((Below.refl _ _).alloc (Nat.le_refl _) _)
  by_cases h0 : s.size = 0
  · have e1 : Hid (taggedB k s = true) := Lib.hid (by unfold taggedB; exact decide_eq_true (.inl h0))
    obtain rfl := str_empty h0
    clear h0 hs
    go_enter Tryz.func126, Tryz.ntmps126
    go_wp2
    go_ret
    exact ⟨ret_bool e1.out, HB.out⟩
  · obtain ⟨f1, f2, f3, f4⟩ := str_facts h0
    by_cases h2 : k = 2
    · have e1 : Hid (taggedB k s = tagB s) := Lib.hid (by
        unfold taggedB
        rw [Bool.eq_iff_iff, decide_eq_true_eq]
        exact ⟨fun h => h.elim (fun h => absurd h h0) (fun h => h.2), fun h => .inr ⟨h2, h⟩⟩)
      subst h2
      clear h0 hs
      go_enter Tryz.func126, Tryz.ntmps126
      go_wp2_with fail
      refine (tag_any s _ HS.out).mono ?_
      rintro e w1 ⟨rfl, q, rfl⟩
      go_wp2
      go_ret
      exact ⟨ret_bool e1.out, bel_more HB.out q⟩
    · have e1 : Hid (taggedB k s = false) := Lib.hid (by
        unfold taggedB
        rw [decide_eq_false_iff_not]
        exact fun h => h.elim h0 (fun h => h2 h.1))
      have h2d : (k == 2) = false := by simpa using h2
      clear h0 h2 hs
      go_enter Tryz.func126, Tryz.ntmps126
      go_wp2
      go_ret
      exact ⟨ret_bool e1.out, HB.out⟩
theorem tagged_b {k u : Int} {s : ByteArray} {w : World} {b : Bool} (hs : s.size ≤ maxLen) (h : taggedB k s = b) :
    Calls Tryz.prog 126 #[.agg #[.int .i64 k, .int .i64 u, .string s]] w fun e w' => e = .returned (.bool b) ∧ Below w.heap.size w w' := by
  subst h; exact tagged_any k u s w hs

theorem okT_kind {g : Gr} {j : Nat} (h : okT g j) : 0 ≤ gk g j := by
  rcases Nat.eq_zero_or_pos j with rfl | hj
  · have := ((okT_zero g).1 h).1; omega
  · have := ((okT_pos hj).1 h).2.2.2.2; omega
theorem tagB_empty : tagB ⟨#[]⟩ = true := by decide
/-- behind things that stand right, the program's four tests say whether this one does -/
theorem okT_tests {g : Gr} {k : Nat} (hk : 0 < k) (hp : ∀ j, j < k → okT g j) :
    okT g k ↔ 0 ≤ gu g k ∧ gu g k < k ∧ partK (gk g k) (gk g (gu g k).toNat) = true ∧ taggedB (gk g k) (gt g k) = true := by
  rw [okT_pos hk]
  unfold partK taggedB
  rw [decide_eq_true_eq, decide_eq_true_eq]
  have ht : (gt g k).size = 0 → tagB (gt g k) = true := fun h => by rw [str_empty h]; exact tagB_empty
  constructor
  · rintro ⟨h1, h2, h3, h4, h5⟩
    have hv := okT_kind (hp (gu g k).toNat (by omega))
    refine ⟨h1, h2, by omega, ?_⟩
    rcases h3 with h3 | h3
    · exact .inl h3
    · exact .inr ⟨h3, h4⟩
  · rintro ⟨h1, h2, h3, h4⟩
    refine ⟨h1, h2, h4.imp id (·.1), ?_, by omega⟩
    rcases h4 with h4 | h4
    · exact ht h4
    · exact h4.2

set_option maxRecDepth 100000 in
set_option maxHeartbeats 8000000 in
theorem graphRight_any (A : Option Addr) (n c : Nat) (g : Gr) (w : World) (hr : RG w w.heap.size A n g) (hn : n ≤ maxLen) :
    Calls Tryz.prog 98 #[.slice A n c] w fun e w' => e = .returned (.bool (rightG g)) ∧ Below w.heap.size w w' := by
  unfold maxLen at hn
  have HR := Lib.hid hr
  clear hr
  by_cases h0 : n = 0
  · have e1 : Hid (rightG g = false) := Lib.hid (by unfold rightG; rw [decide_eq_false_iff_not]; exact fun h => h.1 (List.eq_nil_of_length_eq_zero (by rw [HR.out.len]; exact h0)))
    subst h0
    go_enter Tryz.func98, Tryz.ntmps98
    go_wp2
    go_ret
    exact ⟨ret_bool e1.out, Below.refl _ _⟩
  · by_cases h256 : 256 < n
    · have e1 : Hid (rightG g = false) := Lib.hid (by unfold rightG; rw [decide_eq_false_iff_not, HR.out.len]; omega)
      have h0p : 0 < n := by omega
      have hn0 : ((n : Int) == 0) = false := by simp; omega
      go_enter Tryz.func98, Tryz.ntmps98
      go_wp2
      go_ret
      exact ⟨ret_bool e1.out, Below.refl _ _⟩
    · have h0p : 0 < n := by omega
      have h256d : decide (256 < (n : Int)) = false := by simp; omega
      have hn0 : ((n : Int) == 0) = false := by simp; omega
      obtain ⟨b, off, rfl, hbw, hc0, hc1, hc2, _⟩ := HR.out.one h0p
      simp only [Nat.zero_mul, Nat.add_zero] at hc0 hc1 hc2
      have hkg : Hid (0 < g.length) := Lib.hid (by rw [HR.out.len]; exact h0p)
      obtain ⟨kk, hkk⟩ : ∃ kk, gk g 0 = kk := ⟨_, rfl⟩
      obtain ⟨uu, huu⟩ : ∃ uu, gu g 0 = uu := ⟨_, rfl⟩
      obtain ⟨ss, hss⟩ : ∃ ss, gt g 0 = ss := ⟨_, rfl⟩
      rw [hkk] at hc0
      rw [huu] at hc1
      rw [hss] at hc2
      have hno : Hid (¬ (kk = 0 ∧ uu = -1 ∧ ss.size = 0) → rightG g = false) := Lib.hid (fun h => rightG_no hkg.out (by rw [okT_zero, hkk, huu, hss]; exact h))
      have hyes : Hid ((kk = 0 ∧ uu = -1 ∧ ss.size = 0) → ∀ j, j < 1 → okT g j) := Lib.hid (fun h j hj => by
        obtain rfl : j = 0 := by omega
        rw [okT_zero, hkk, huu, hss]; exact h)
      clear hkk huu hss h0 h256
      by_cases h1 : kk = 0
      · by_cases h2 : uu = -1
        · by_cases h3 : ss.size = 0
          · obtain rfl := str_empty h3
            have e1 := Lib.hid (hyes.out ⟨h1, h2, h3⟩)
            clear hno hyes h3
            subst h1 h2
            go_enter Tryz.func98, Tryz.ntmps98
            go_wp2
            go_loopw [3] (fun i wr => ∃ k : Nat, 1 ≤ k ∧ k ≤ n ∧ i = .int .i64 k ∧ (∀ j, j < k → okT g j) ∧ Below w.heap.size w wr) (fun i _ => n - (intOf i).toNat)
            case atStart => exact ⟨1, Nat.le_refl _, h0p, rfl, e1.out, Below.refl _ _⟩
            case round =>
              clear hc0 hc1 hc2
              obtain ⟨k, hk1, hk, rfl, hpre, hb⟩ := hrel
              have HP := Lib.hid hpre
              have HB := Lib.hid hb
              clear hpre hb
              by_cases hlt : k < n
              · have hRw := Lib.hid (HR.out.next HB.out)
                obtain ⟨b', off', e', hbw', hc0, hc1, hc2, hbd⟩ := hRw.out.one hlt
                injection e' with e'
                injection e' with e1' e2'
                subst e1' e2'
                have hsz := Lib.hid hbd.2.2
                clear hbd
                have HT := Lib.hid (okT_tests hk1 HP.out)
                have hkg : Hid (k < g.length) := Lib.hid (by rw [HR.out.len]; exact hlt)
                have hno : Hid (¬ okT g k → rightG g = false) := Lib.hid (fun h => rightG_no hkg.out h)
                have hyes : Hid (okT g k → ∀ j, j < k + 1 → okT g j) := Lib.hid (fun h j hj => by
                  rcases Nat.lt_or_ge j k with h' | h'
                  · exact HP.out j h'
                  · obtain rfl : j = k := by omega
                    exact h)
                have hvk : Hid (∀ u : Nat, u < k → ∃ v, gk g u = v ∧ wr.cell? ⟨b, off + u * 3, none⟩ = some (.int .i64 v)) := Lib.hid (fun u hu => by
                  obtain ⟨b', off', e', _, hcu, _, _, _⟩ := hRw.out.one (show u < n by omega)
                  injection e' with e'
                  injection e' with e1' e2'
                  subst e1' e2'
                  exact ⟨_, rfl, hcu⟩)
                obtain ⟨kk, hkk⟩ : ∃ kk, gk g k = kk := ⟨_, rfl⟩
                obtain ⟨uu, huu⟩ : ∃ uu, gu g k = uu := ⟨_, rfl⟩
                obtain ⟨ss, hss⟩ : ∃ ss, gt g k = ss := ⟨_, rfl⟩
                have HT2 : Hid (okT g k ↔ 0 ≤ uu ∧ uu < k ∧ partK kk (gk g uu.toNat) = true ∧ taggedB kk ss = true) := Lib.hid (by have := HT.out; rwa [hkk, huu, hss] at this)
                rw [hkk] at hc0
                rw [huu] at hc1
                rw [hss] at hc2 hsz
                clear hkk huu hss HT
                by_cases h1 : uu < 0
                · have e2 := Lib.hid (hno.out (fun h => by have := (HT2.out.1 h).1; omega))
                  have h1d : decide (uu < 0) = true := by simpa using h1
                  clear hno hyes hvk HT2
                  go_wp2
                  go_quiet (fail)
                  go_wp2
                  go_ret
                  exact ⟨ret_bool e2.out, bel_more HB.out _⟩
                · have h1d : decide (uu < 0) = false := by simpa using h1
                  by_cases h2 : (k : Int) ≤ uu
                  · have e2 := Lib.hid (hno.out (fun h => by have := (HT2.out.1 h).2.1; omega))
                    have h2d : decide ((k : Int) ≤ uu) = true := by simpa using h2
                    clear hno hyes hvk HT2
                    go_wp2
                    go_quiet (fail)
                    go_wp2
                    go_ret
                    exact ⟨ret_bool e2.out, bel_more HB.out _⟩
                  · obtain ⟨u, rfl⟩ : ∃ u : Nat, uu = (u : Int) := ⟨uu.toNat, by omega⟩
                    have huk : u < k := by omega
                    have h2d : decide (k ≤ u) = false := by simp; omega
                    obtain ⟨v, hv, hcu⟩ := hvk.out u huk
                    have HT3 : Hid (okT g k ↔ partK kk v = true ∧ taggedB kk ss = true) := Lib.hid (by
                      have := HT2.out
                      rw [Int.toNat_natCast, hv] at this
                      rw [this]
                      exact ⟨fun h => h.2.2, fun h => ⟨by omega, by omega, h⟩⟩)
                    have hun : (u : Int) < (n : Int) := by omega
                    clear hvk HT2 hv h1 h2
                    cases hpk : partK kk v with
                    | false =>
                      have e2 := Lib.hid (hno.out (fun h => by have := (HT3.out.1 h).1; rw [hpk] at this; cases this))
                      have HPK : Hid (∀ q : Nat, Calls Tryz.prog 125 #[.int .i64 kk, .int .i64 v] (wr.drewN q) fun e w' => e = .returned (.bool false) ∧ w' = wr.drewN q) :=
                        Lib.hid (fun q => (partOf_b hpk).mono fun e w' ⟨h1, h2⟩ => ⟨h1, h2.symm⟩)
                      clear hno hyes HT3 hpk
                      go_wp2
                      go_quiet ((go_at_call 125; exact Calls.quiet_of_same (HPK.out _)))
                      go_wp2
                      go_ret
                      exact ⟨ret_bool e2.out, bel_more HB.out _⟩
                    | true =>
                      have HPK : Hid (∀ wx : World, Calls Tryz.prog 125 #[.int .i64 kk, .int .i64 v] wx fun e w' => e = .returned (.bool true) ∧ wx = w') := Lib.hid (fun _ => partOf_b hpk)
                      obtain ⟨tv, htv⟩ : ∃ tv, taggedB kk ss = tv := ⟨_, rfl⟩
                      have HTG := Lib.hid (tagged_b (k := kk) (u := (u : Int)) (w := wr.drew) hsz.out htv)
                      have hbu : b < wr.heap.size := hbw'
                      have HKEEP : Hid (∀ wx, Below wr.drew.heap.size wr.drew wx → wx.cell? ⟨b, off + k * 3, none⟩ = some (.int .i64 kk) ∧ wx.cell? ⟨b, off + k * 3 + 1, none⟩ = some (.int .i64 (u : Int)) ∧ wx.cell? ⟨b, off + k * 3 + 2, none⟩ = some (.string ss) ∧ wx.cell? ⟨b, off + u * 3, none⟩ = some (.int .i64 v)) :=
                        Lib.hid (fun wx hb => ⟨(hb.cell (p := ⟨b, off + k * 3, none⟩) hbu).trans hc0, (hb.cell (p := ⟨b, off + k * 3 + 1, none⟩) hbu).trans hc1, (hb.cell (p := ⟨b, off + k * 3 + 2, none⟩) hbu).trans hc2, (hb.cell (p := ⟨b, off + u * 3, none⟩) hbu).trans hcu⟩)
                      have e3 : Hid (tv = false → rightG g = false) := Lib.hid (fun h => hno.out (fun ho => by have := (HT3.out.1 ho).2; rw [htv, h] at this; cases this))
                      have e4 : Hid (tv = true → ∀ j, j < k + 1 → okT g j) := Lib.hid (fun h => hyes.out (HT3.out.2 ⟨hpk, by rw [htv, h]⟩))
                      clear hno hyes HT3 hpk htv
                      cases tv with
                      | false =>
                        have e2 := Lib.hid (e3.out rfl)
                        clear e3 e4
                        go_wp2
                        go_region_held3 (fun w' => w'.cell? ⟨b, off + k * 3, none⟩ = some (.int .i64 kk) ∧ w'.cell? ⟨b, off + k * 3 + 1, none⟩ = some (.int .i64 (u : Int)) ∧ w'.cell? ⟨b, off + k * 3 + 2, none⟩ = some (.string ss) ∧ w'.cell? ⟨b, off + u * 3, none⟩ = some (.int .i64 v))
                          (first | go_keep | exact HKEEP.out _ HB3.out)
                          (first | (go_at_call 125; (with_reducible refine (HPK.out _).mono ?_); rintro e w4 ⟨rfl, rfl⟩) | (go_at_call 126; (with_reducible refine (HTG.out).mono ?_); rintro e w3 ⟨rfl, hb3⟩; have HB3 := Lib.hid hb3; clear hb3))
                        have HBX := Lib.hid (HB.out.trans ((bel_und HB3.out).mono HB.out.size))
                        clear hc0 hc1 hc2 hcu
                        go_wp2
                        go_ret
                        exact ⟨ret_bool e2.out, HBX.out⟩
                      | true =>
                        have e2 := Lib.hid (e4.out rfl)
                        clear e3 e4
                        go_wp2
                        go_region_held3 (fun w' => w'.cell? ⟨b, off + k * 3, none⟩ = some (.int .i64 kk) ∧ w'.cell? ⟨b, off + k * 3 + 1, none⟩ = some (.int .i64 (u : Int)) ∧ w'.cell? ⟨b, off + k * 3 + 2, none⟩ = some (.string ss) ∧ w'.cell? ⟨b, off + u * 3, none⟩ = some (.int .i64 v))
                          (first | go_keep | exact HKEEP.out _ HB3.out)
                          (first | (go_at_call 125; (with_reducible refine (HPK.out _).mono ?_); rintro e w4 ⟨rfl, rfl⟩) | (go_at_call 126; (with_reducible refine (HTG.out).mono ?_); rintro e w3 ⟨rfl, hb3⟩; have HB3 := Lib.hid hb3; clear hb3))
                        have HBX := Lib.hid (HB.out.trans ((bel_und HB3.out).mono HB.out.size))
                        clear hc0 hc1 hc2 hcu
                        go_wp2
                        go_roundw
                        case rel => exact ⟨k + 1, by omega, by omega, by go_num, e2.out, HBX.out⟩
                        case measure => simp [intOf]; omega
              · have hkn : k = n := by omega
                have e2 : Hid (rightG g = true) := Lib.hid (by
                  unfold rightG
                  rw [decide_eq_true_eq, HR.out.len]
                  exact ⟨fun h => by have := HR.out.len; rw [h] at this; simp at this; omega, by simp at h256d; omega, fun j hj => HP.out j (by omega)⟩)
                clear hkn
                go_wp2
                go_ret
                exact ⟨ret_bool e2.out, HB.out⟩
          · have e1 := Lib.hid (hno.out (fun h => h3 h.2.2))
            obtain ⟨f1, f2, f3, f4⟩ := str_facts h3
            clear hno hyes h3
            subst h1 h2
            go_enter Tryz.func98, Tryz.ntmps98
            go_wp2
            go_ret
            exact ⟨ret_bool e1.out, Below.refl _ _⟩
        · have e1 := Lib.hid (hno.out (fun h => h2 h.2.1))
          have h2d : (uu == -1) = false := by simpa using h2
          clear hno hyes h2
          subst h1
          go_enter Tryz.func98, Tryz.ntmps98
          go_wp2
          go_ret
          exact ⟨ret_bool e1.out, Below.refl _ _⟩
      · have e1 := Lib.hid (hno.out (fun h => h1 h.1))
        have h1d : (kk == 0) = false := by simpa using h1
        clear hno hyes h1
        go_enter Tryz.func98, Tryz.ntmps98
        go_wp2
        go_ret
        exact ⟨ret_bool e1.out, Below.refl _ _⟩

theorem graphRight_b {A : Option Addr} {n c : Nat} {g : Gr} {w : World} {b : Bool} (hr : RG w w.heap.size A n g) (hn : n ≤ maxLen) (h : rightG g = b) :
    Calls Tryz.prog 98 #[.slice A n c] w fun e w' => e = .returned (.bool b) ∧ Below w.heap.size w w' := by
  subst h; exact graphRight_any A n c g w hr hn

end Go.Proofs.YtchogijdkagiiaaGreatDoor

namespace Go.Proofs.YtchogijdkagiiaaGreatDoor
open Go.RowKit

/-- the cells of marks -/
def marksA (p : Nat → Bool) : Array Value := ((List.range 256).map fun k => Value.bool (p k)).toArray
theorem marksA_size (p : Nat → Bool) : (marksA p).size = 256 := by unfold marksA; simp
theorem marksA_at (p : Nat → Bool) {k : Nat} (hk : k < 256) : (marksA p)[k]? = some (.bool (p k)) := by unfold marksA; simp [hk]
/-- one mark more, or less -/
def mset (p : Nat → Bool) (k : Nat) (b : Bool) : Nat → Bool := fun j => if j = k then b else p j
theorem mset_same (p : Nat → Bool) (k : Nat) (b : Bool) : mset p k b k = b := by unfold mset; rw [if_pos rfl]
theorem mset_other (p : Nat → Bool) {k j : Nat} (b : Bool) (h : j ≠ k) : mset p k b j = p j := by unfold mset; rw [if_neg h]
theorem marksA_set (p : Nat → Bool) (k : Nat) (b : Bool) : (marksA p).setIfInBounds k (.bool b) = marksA (mset p k b) := by
  apply Array.ext
  · simp [marksA_size]
  · intro j h1 h2
    rw [marksA_size] at h2
    have e2 := marksA_at (mset p k b) h2
    rw [Array.getElem?_eq_getElem (by rw [marksA_size]; exact h2)] at e2
    have e2' := Option.some.inj e2
    rw [e2', Array.getElem_setIfInBounds (by rw [marksA_size]; exact h2)]
    split
    · rename_i h; subst h; rw [mset_same]
    · rename_i h
      have e1 := marksA_at p h2
      rw [Array.getElem?_eq_getElem (by rw [marksA_size]; exact h2)] at e1
      rw [Option.some.inj e1, mset_other _ _ (fun e => h e.symm)]
theorem marksA_ext {p q : Nat → Bool} (h : ∀ k, k < 256 → p k = q k) : marksA p = marksA q := by
  unfold marksA
  congr 1
  apply List.map_congr_left
  intro k hk
  rw [h k (List.mem_range.1 hk)]

theorem marks_closed : (Tryz.prog.info? 146).map (fun i => (i.zero.map Value.cells, i.size)) = some (some (marksA fun _ => false), 256) := by kernel_rfl
theorem marks_size : (Tryz.prog.info? 146).map (·.size) = some 256 := by kernel_rfl

/-- marks in a new block, behind a world -/
structure Marks (W : World) (p : Nat → Bool) (wr : World) : Prop where
  bel : Below W.heap.size W wr
  at' : wr.heap[W.heap.size]? = some (.cells (marksA p) 146 (0, 0))
section
variable {W wr w' : World} {p : Nat → Bool} {k : Nat}
theorem Marks.cell (h : Marks W p wr) (hk : k < 256) : wr.cell? ⟨W.heap.size, k, none⟩ = some (.bool (p k)) := by
  rw [cell_of_row _ _ _ _ _ _ h.at', marksA_at p hk]
theorem Marks.frozen (h : Marks W p wr) (k : Nat) : wr.frozen? ⟨W.heap.size, k, none⟩ = false := frozen_of_row _ _ _ _ _ h.at'
theorem Marks.set (h : Marks W p wr) (b : Bool) : Marks W (mset p k b) (wr.setCell ⟨W.heap.size, k, none⟩ (.bool b)) := by
  refine ⟨h.bel.setCell (Nat.le_refl _) _, ?_⟩
  rw [heap_setCell_same wr W.heap.size k _ _ _ h.at', marksA_set]
theorem Marks.ext {q : Nat → Bool} (h : Marks W p wr) (he : ∀ k, k < 256 → p k = q k) : Marks W q wr := ⟨h.bel, by rw [h.at', marksA_ext he]⟩
theorem marks_made (W : World) : Marks W (fun _ => false) (W.alloc (.cells (marksA fun _ => false) 146)) :=
  ⟨(Below.refl _ _).alloc (Nat.le_refl _) _, heap_alloc_new W _⟩
theorem marks_boxed (W : World) (p : Nat → Bool) : Marks W p (W.alloc (.cells (marksA p) 146)) :=
  ⟨(Below.refl _ _).alloc (Nat.le_refl _) _, heap_alloc_new W _⟩
end

/-- 'var in marks' -/
theorem wpList_alloc_marks {ops : Array Oper} {rest : List Oper} {o : Oper} {a : Act} {Q : Exit → Act → World → Prop} {w : World} (hgd : o.guard = none) (ho : o.op = .alloc 146)
    (h : ∀ w', Marks w (fun _ => false) w' → wpList Tryz.prog ops Q rest (a.put o.dst (.pointer (some ⟨w.heap.size, 0, none⟩))) w') : wpList Tryz.prog ops Q (o :: rest) a w := by
  refine wpList_plain hgd fun K hK => ?_
  have hc := marks_closed
  cases hi : Tryz.prog.info? 146 with
  | none => rw [hi] at hc; cases hc
  | some i =>
    rw [hi] at hc
    simp only [Option.map_some, Option.some.injEq, Prod.mk.injEq] at hc
    obtain ⟨z, hz, hzc⟩ : ∃ z, i.zero = some z ∧ z.cells = marksA fun _ => false := by
      cases hz : i.zero with
      | none => rw [hz] at hc; cases hc.1
      | some z => rw [hz] at hc; exact ⟨z, rfl, Option.some.inj hc.1⟩
    have hrun : (Instr.alloc 146 true (.tuple #[])).run Tryz.prog w = .ok (.pointer (some ⟨w.heap.size, 0, none⟩)) (w.alloc (.cells (marksA fun _ => false) 146)) := by
      simp [Instr.alloc, zeroValue, typeInfo, hi, hz, newVar, newRow, hzc]
    unfold Oper.wp
    simp [execOp, ho, hrun, Result.andThen]
    exact hK _ _ (h _ (marks_made w))
/-- 'in', as a value -/
theorem wpList_load_marks {ops : Array Oper} {rest : List Oper} {o : Oper} {a : Act} {Q : Exit → Act → World → Prop} {W w : World} {p : Nat → Bool} (hgd : o.guard = none) (x : Operand) (ho : o.op = .load 146 x)
    (hm : Marks W p w) (hx : a.eval x = .pointer (some ⟨W.heap.size, 0, none⟩))
    (h : wpList Tryz.prog ops Q rest (a.put o.dst (.agg (marksA p))) w) : wpList Tryz.prog ops Q (o :: rest) a w :=
  wpList_load_row hgd _ x ho W.heap.size hx _ (marksA p) (0, 0) _ hm.at' Tryz.underlying146 rfl (by rw [marks_size, marksA_size]) h
/-- a mark of a value of marks -/
theorem run_ix_marks (p : Nat → Bool) {k : Nat} (hk : k < 256) (W : World) : (Instr.index 146 (.agg (marksA p)) (.int .i64 (k : Int))).run Tryz.prog W = .ok (.bool (p k)) W := by
  have h1 := marksA_at p hk
  have h2 : k < 256 := hk
  simp [Instr.index, run_underlying Tryz.underlying146, asIntOf, part, isAgg, run_underlying Tryz.underlying4, Tryz.sizeOf4, h1, h2]

end Go.Proofs.YtchogijdkagiiaaGreatDoor

namespace Go.Proofs.YtchogijdkagiiaaGreatDoor
open Go.RowKit

def thereB (g : Gr) (a : Int) : Bool := decide (0 ≤ a ∧ a < g.length) && rightG g
theorem thereB_no {g : Gr} {a : Int} (h : ¬ (0 ≤ a ∧ a < g.length)) : thereB g a = false := by unfold thereB; rw [decide_eq_false h, Bool.false_and]
theorem thereB_is {g : Gr} {a : Int} : thereB g a = true ↔ rightG g = true ∧ 0 ≤ a ∧ a < g.length := by
  unfold thereB
  rw [Bool.and_eq_true, decide_eq_true_eq]
  exact ⟨fun h => ⟨h.2, h.1⟩, fun h => ⟨h.2, h.1⟩⟩
set_option maxRecDepth 100000 in
set_option maxHeartbeats 1000000 in
theorem there_any (A : Option Addr) (n c : Nat) (g : Gr) (a : Int) (w : World) (hr : RG w w.heap.size A n g) (hn : n ≤ maxLen) :
    Calls Tryz.prog 127 #[.slice A n c, .int .i64 a] w fun e w' => e = .returned (.bool (thereB g a)) ∧ Below w.heap.size w w' := by
  have HN := Lib.hid hn
  have HR := Lib.hid hr
  have HL := Lib.hid hr.len
  clear hr hn
  by_cases h0 : 0 ≤ a
  · have h0d : decide (0 ≤ a) = true := by simpa using h0
    by_cases h1 : a < n
    · have h1d : decide (a < (n : Int)) = true := by simpa using h1
      have e1 : Hid (thereB g a = rightG g) := Lib.hid (by unfold thereB; rw [decide_eq_true ⟨h0, by rw [HL.out]; exact h1⟩, Bool.true_and])
      go_enter Tryz.func127, Tryz.ntmps127
      go_wp2_with fail
      refine (graphRight_any _ _ _ _ _ HR.out HN.out).mono ?_
      rintro e w1 ⟨rfl, hb⟩
      have HB := Lib.hid hb
      clear hb
      go_wp2
      go_ret
      exact ⟨ret_bool e1.out, HB.out⟩
    · have h1d : decide (a < (n : Int)) = false := by simpa using h1
      have e1 : Hid (thereB g a = false) := Lib.hid (thereB_no (fun h => h1 (by have := HL.out; omega)))
      go_enter Tryz.func127, Tryz.ntmps127
      go_wp2
      go_ret
      exact ⟨ret_bool e1.out, Below.refl _ _⟩
  · have h0d : decide (0 ≤ a) = false := by simpa using h0
    have e1 : Hid (thereB g a = false) := Lib.hid (thereB_no (fun h => h0 h.1))
    go_enter Tryz.func127, Tryz.ntmps127
    go_wp2
    go_ret
    exact ⟨ret_bool e1.out, Below.refl _ _⟩
theorem there_b {A : Option Addr} {n c : Nat} {g : Gr} {a : Int} {w : World} {b : Bool} (hr : RG w w.heap.size A n g) (hn : n ≤ maxLen) (h : thereB g a = b) :
    Calls Tryz.prog 127 #[.slice A n c, .int .i64 a] w fun e w' => e = .returned (.bool b) ∧ Below w.heap.size w w' := by
  subst h; exact there_any A n c g a w hr hn

set_option maxRecDepth 100000 in
set_option maxHeartbeats 2000000 in
theorem marksList_any (p : Nat → Bool) (w : World) :
    Calls Tryz.prog 128 #[.agg (marksA p)] w (IPost (numsF p 256) w) := by
  obtain ⟨i0, hi0, hz0, hz1, hz2⟩ := info_parts int_info
  have HM := Lib.hid (marks_boxed w p)
  go_enter Tryz.func128, Tryz.ntmps128
  go_wp2_with (with_reducible refine wpList_load_marks rfl _ rfl HM.out rfl ?_; refine Hid.out ?_)
  refine Lib.hid ?_
  have HB0 := Lib.hid HM.out.bel
  generalize w.alloc (.cells (marksA p) 146) = w1 at *
  clear HM
  go_wp2
  go_loopw [3, 7] (fun v i wr => ∃ k : Nat, k ≤ 256 ∧ i = .int .i64 k ∧ ON EI 1 3 w1 v (numsF p k) wr) (fun _ i _ => 256 - (intOf i).toNat)
  case atStart => exact ⟨0, Nat.zero_le _, rfl, ON.nil _⟩
  case round =>
    obtain ⟨k, hk, rfl, hf⟩ := hrel
    have HF := Lib.hid hf
    clear hf
    by_cases hlt : k < 256
    · have hlen : Hid ((numsF p k).length ≤ 1000) := Lib.hid (by have := numsF_len p k; omega)
      have hix := run_ix_marks p hlt
      cases hp : p k with
      | true =>
        have HS := Lib.hid (numsF_yes hp)
        rw [hp] at hix
        clear hp
        go_wp2_with (at_builtin; refine wpList_append_EI rfl (.tmp 12) (.tmp 14) 23 3 rfl HF.out i0 Tryz.underlying23 hi0 hz0 hz1 hz2 rfl _ rfl hlen.out ?_; intro v' w4 hON4; refine Hid.out ?_)
        refine Lib.hid ?_
        have HO4 := Lib.hid hON4
        clear hON4 hix
        go_wp2
        go_roundw
        case rel => exact ⟨k + 1, by omega, by go_num, by rw [HS.out]; exact HO4.out⟩
        case measure => simp [intOf]; omega
      | false =>
        have HS := Lib.hid (numsF_no hp)
        rw [hp] at hix
        clear hp
        go_wp2
        go_roundw
        case rel => exact ⟨k + 1, by omega, by go_num, by rw [HS.out]; exact HF.out⟩
        case measure => simp [intOf]; omega
    · have hkn : k = 256 := by omega
      subst hkn
      go_wp2
      go_ret
      exact HF.out.ipost.trans HB0.out
theorem marksList_l {p : Nat → Bool} {w : World} {l : List Int} (h : numsF p 256 = l) :
    Calls Tryz.prog 128 #[.agg (marksA p)] w (IPost l w) := by
  subst h; exact marksList_any p w
/-- marks of the first n things alone -/
theorem numsF_cut {p : Nat → Bool} {n : Nat} : ∀ {m : Nat}, n ≤ m → numsF (fun j => decide (j < n) && p j) m = numsF p n := by
  intro m hm
  induction m with
  | zero =>
    obtain rfl : n = 0 := by omega
    rfl
  | succ m ih =>
    by_cases h : n = m + 1
    · subst h
      exact numsF_ext (fun k hk => by rw [decide_eq_true hk, Bool.true_and])
    · rw [numsF_no (by rw [decide_eq_false (by omega), Bool.false_and])]
      exact ih (by omega)


end Go.Proofs.YtchogijdkagiiaaGreatDoor

namespace Go.Proofs.YtchogijdkagiiaaGreatDoor
open Go.RowKit

theorem alloc_size (w : World) (o : Obj) : (w.alloc o).heap.size = w.heap.size + 1 := by simp
set_option maxRecDepth 100000 in
set_option maxHeartbeats 4000000 in
/-- of a graph: the nodes, in a row of the call's own -/
theorem nodes_own (A : Option Addr) (n c : Nat) (g : Gr) (w : World) (h : GAsk w A n c g) (hg : rightG g = true) :
    Calls Tryz.prog 102 #[.slice A n c] w fun e w' => ∃ v w1, e = .returned v ∧ Below w.heap.size w w1 ∧ ON EI 1 3 w1 v (nodesL g) w' := by
  obtain ⟨i0, hi0, hz0, hz1, hz2⟩ := info_parts int_info
  have HN : Hid (n ≤ maxLen) := Lib.hid (ml300 h.few)
  have HR := Lib.hid h.reads
  have HL := Lib.hid h.reads.len
  clear h
  have HGR := Lib.hid (rightG_is hg)
  have HG := Lib.hid hg
  have HRES : Hid (nodesL g = numsF (fun k => gk g k == 2) n) := Lib.hid (by unfold nodesL; rw [if_pos hg, HL.out])
  clear hg
  have hn256 : n ≤ 256 := by have := HGR.out.few; have := HL.out; omega
  go_enter Tryz.func102, Tryz.ntmps102
  go_wp2_with fail
  refine (graphRight_b HR.out HN.out HG.out).mono ?_
  rintro e w1 ⟨rfl, hb⟩
  have HB := Lib.hid hb
  have HR1 := Lib.hid (HR.out.next hb)
  clear hb
  go_wp2
  go_loopw [3, 11] (fun v i wr => ∃ k : Nat, k ≤ n ∧ i = .int .i64 k ∧ ON EI 1 3 w1 v (numsF (fun k => gk g k == 2) k) wr) (fun _ i _ => n - (intOf i).toNat)
  case atStart => exact ⟨0, Nat.zero_le _, rfl, ON.nil _⟩
  case round =>
    obtain ⟨k, hk, rfl, hf⟩ := hrel
    by_cases hlt : k < n
    · have hlen : Hid ((numsF (fun k => gk g k == 2) k).length ≤ 1000) := Lib.hid (by have := numsF_len (fun k => gk g k == 2) k; omega)
      have HRk := Lib.hid (HR1.out.next hf.below)
      obtain ⟨b, off, rfl, _, hc0, hc1, hc2, _⟩ := HRk.out.one hlt
      obtain ⟨kk, hkk⟩ : ∃ kk, gk g k = kk := ⟨_, rfl⟩
      obtain ⟨uu, huu⟩ : ∃ uu, gu g k = uu := ⟨_, rfl⟩
      obtain ⟨ss, hss⟩ : ∃ ss, gt g k = ss := ⟨_, rfl⟩
      rw [hkk] at hc0
      rw [huu] at hc1
      rw [hss] at hc2
      have HF : Hid (ON EI 1 3 w1 _ (numsF (fun k => gk g k == 2) k) (wr.alloc (.cells #[.int .i64 kk, .int .i64 uu, .string ss] 58))) := Lib.hid (hf.next ei_steady ((Below.refl _ _).alloc (Nat.le_refl _) _))
      clear hf huu hss
      by_cases h2 : kk = 2
      · have HS : Hid (numsF (fun k => gk g k == 2) (k + 1) = numsF (fun k => gk g k == 2) k ++ [(k : Int)]) := Lib.hid (numsF_yes (by rw [hkk, h2]; rfl))
        subst h2
        clear hkk
        go_wp2_with (at_builtin; refine wpList_append_EI rfl (.tmp 19) (.tmp 21) 23 3 rfl HF.out i0 Tryz.underlying23 hi0 hz0 hz1 hz2 rfl _ (by rw [alloc_size]; rfl) hlen.out ?_; intro v' w4 hON4; refine Hid.out ?_)
        refine Lib.hid ?_
        have HO4 := Lib.hid hON4
        clear hON4 hc0 hc1 hc2
        go_wp2
        go_roundw
        case rel => exact ⟨k + 1, by omega, by go_num, by rw [HS.out]; exact HO4.out⟩
        case measure => simp [intOf]; omega
      · have h2d : (kk == 2) = false := by simpa using h2
        have HS : Hid (numsF (fun k => gk g k == 2) (k + 1) = numsF (fun k => gk g k == 2) k) := Lib.hid (numsF_no (by rw [hkk]; exact h2d))
        clear hkk h2
        go_wp2
        go_roundw
        case rel => exact ⟨k + 1, by omega, by go_num, by rw [HS.out]; exact HF.out⟩
        case measure => simp [intOf]; omega
    · have hkn : k = n := by omega
      subst hkn
      have HF := Lib.hid hf
      clear hf
      go_wp2
      go_ret
      rw [HRES.out]
      exact ⟨_, w1, rfl, HB.out, HF.out⟩

end Go.Proofs.YtchogijdkagiiaaGreatDoor

namespace Go.Proofs.YtchogijdkagiiaaGreatDoor
open Go.RowKit

def tabL (n : Nat) (T : Nat → Nat → Int) : List Value := (List.range (n * 5)).map fun i => Value.int .i64 (T (i / 5) (i % 5))
section
variable {n k c : Nat} {T T' : Nat → Nat → Int}
theorem tabL_len (n : Nat) (T : Nat → Nat → Int) : (tabL n T).length = n * 5 := by unfold tabL; simp
theorem tabL_at (hk : k < n) (hc : c < 5) : (tabL n T)[k * 5 + c]? = some (.int .i64 (T k c)) := by
  have h1 : k * 5 + c < n * 5 := by omega
  unfold tabL
  rw [List.getElem?_map, List.getElem?_range h1]
  show some (Value.int .i64 (T ((k * 5 + c) / 5) ((k * 5 + c) % 5))) = _
  rw [show (k * 5 + c) / 5 = k by omega, show (k * 5 + c) % 5 = c by omega]
theorem tabL_ext (h : ∀ k c, k < n → c < 5 → T k c = T' k c) : tabL n T = tabL n T' := by
  unfold tabL
  apply List.map_congr_left
  intro i hi
  rw [List.mem_range] at hi
  rw [h _ _ (by omega) (Nat.mod_lt _ (by omega))]
theorem tabL_set (hc : c < 5) (v : Int) : (tabL n T).set (k * 5 + c) (.int .i64 v) = tabL n (upT T k c v) := by
  apply List.ext_getElem?
  intro i
  rw [List.getElem?_set]
  by_cases hi : i < n * 5
  · have e : ∀ T, (tabL n T)[i]? = some (.int .i64 (T (i / 5) (i % 5))) := fun T => by
      have := tabL_at (T := T) (n := n) (k := i / 5) (c := i % 5) (by omega) (Nat.mod_lt _ (by omega))
      rwa [show i / 5 * 5 + i % 5 = i by omega] at this
    rw [e, e]
    unfold upT
    split
    · rename_i h
      subst h
      rw [if_pos (by rw [tabL_len]; exact hi), if_pos ⟨by omega, by omega⟩]
    · rename_i h
      rw [if_neg (fun h' => h (by omega))]
  · rw [List.getElem?_eq_none (by rw [tabL_len]; omega), List.getElem?_eq_none (by rw [tabL_len]; omega)]
    split
    · rw [if_neg (by rw [tabL_len]; omega)]
    · rfl
end
theorem kinds_info : (Tryz.prog.info? 128).map (fun i => (i.zero, i.size, i.bytes)) = some (some (.agg #[.int .i64 0, .int .i64 0, .int .i64 0, .int .i64 0, .int .i64 0]), 5, 40) := by kernel_rfl
theorem kinds_parts {z : Value} {s b : Nat} (h : (Tryz.prog.info? 128).map (fun i => (i.zero, i.size, i.bytes)) = some (some z, s, b)) : ∃ i, Tryz.prog.info? 128 = some i ∧ i.zero = some z ∧ i.size = s ∧ i.bytes = b := info_parts h
theorem made_kinds (n : Nat) : (madeCells (Value.agg #[.int .i64 0, .int .i64 0, .int .i64 0, .int .i64 0, .int .i64 0]).cells (n * 5)).toList = tabL n fun _ _ => 0 := by
  have e : (Value.agg #[.int .i64 0, .int .i64 0, .int .i64 0, .int .i64 0, .int .i64 0]).cells = #[.int .i64 0, .int .i64 0, .int .i64 0, .int .i64 0, .int .i64 0] := rfl
  rw [e]
  apply List.ext_getElem?
  intro i
  by_cases hi : i < n * 5
  · have h5 := Nat.mod_lt i (show 0 < 5 by omega)
    unfold tabL madeCells
    simp only [Array.toList_map, Array.toList_range, List.getElem?_map, List.getElem?_range hi, Option.map_some]
    congr 1
    show #[Value.int .i64 0, .int .i64 0, .int .i64 0, .int .i64 0, .int .i64 0][i % 5]! = _
    rcases (show i % 5 = 0 ∨ i % 5 = 1 ∨ i % 5 = 2 ∨ i % 5 = 3 ∨ i % 5 = 4 by omega) with h | h | h | h | h <;> rw [h] <;> rfl
  · rw [List.getElem?_eq_none (by rw [Array.length_toList, size_madeCells]; omega), List.getElem?_eq_none (by rw [tabL_len]; omega)]

/-- block g holds the table T of n rows; it was made in a world that keeps all that was there in w -/
structure Tab (w : World) (g n : Nat) (T : Nat → Nat → Int) (wr : World) : Prop where
  own : wr.ownsRow w.heap.size 128 5 (.slice (some ⟨g, 0, none⟩) n n) n (tabL n T)
  bel : Below w.heap.size w wr
section
variable {w wr w1 : World} {g n k c : Nat} {T T' : Nat → Nat → Int}
theorem Tab.lt (h : Tab w g n T wr) : w.heap.size ≤ g ∧ g < wr.heap.size := h.own.lt g rfl
theorem Tab.cell (h : Tab w g n T wr) (hk : k < n) (hc : c < 5) : wr.cell? ⟨g, k * 5 + c, none⟩ = some (.int .i64 (T k c)) := by
  rw [h.own.cellAt _ (by omega), tabL_at hk hc]
theorem Tab.frozen (h : Tab w g n T wr) (j : Nat) : wr.frozen? ⟨g, j, none⟩ = false := h.own.frozenAt j
theorem Tab.next (h : Tab w g n T wr) (hb : Below wr.heap.size wr w1) : Tab w g n T w1 := by
  refine ⟨⟨h.own.1, h.own.2.imp id ?_⟩, h.bel.trans (hb.mono h.bel.size)⟩
  rintro ⟨g', cap, cur, e1, e2, e3, e4⟩
  exact ⟨g', cap, cur, e1, e2, (hb.block g' (Array.getElem?_eq_some_iff.1 e3).1).trans e3, e4⟩
theorem Tab.ext (h : Tab w g n T wr) (he : ∀ k c, k < n → c < 5 → T k c = T' k c) : Tab w g n T' wr := ⟨by rw [← tabL_ext he]; exact h.own, h.bel⟩
theorem Tab.set (h : Tab w g n T wr) (hc : c < 5) (k : Nat) (v : Int) : Tab w g n (upT T k c v) (wr.setCell ⟨g, k * 5 + c, none⟩ (.int .i64 v)) := by
  have hs := h.own.stored (k * 5 + c) (.int .i64 v)
  rw [tabL_set hc] at hs
  exact ⟨hs.1, h.bel.setCell h.lt.1 _⟩
theorem Tab.made {fl : List Value} (h : wr.ownsRow w.heap.size 128 5 (.slice (some ⟨g, 0, none⟩) n n) n fl) (e : fl = tabL n fun _ _ => 0) (hg : w.grownBy wr none) : Tab w g n (fun _ _ => 0) wr := by
  subst e
  exact ⟨h, (Below.refl _ _).grown hg (Nat.le_refl _) (fun k hk => by cases hk)⟩
/-- seen from an earlier world -/
theorem Tab.early {w0 : World} (h : Tab w g n T wr) (hb : Below w0.heap.size w0 w) : Tab w0 g n T wr := ⟨own_base h.own hb.size, hb.trans (h.bel.mono hb.size)⟩
end

/-! home -/
set_option maxRecDepth 100000 in
set_option maxHeartbeats 2000000 in
theorem home_any (A : Option Addr) (n c : Nat) (g : Gr) (x : Nat) (w : World) (hr : RG w w.heap.size A n g) (_ : n ≤ 256) (_ : x ≤ 300) :
    Calls Tryz.prog 107 #[.slice A n c, .int .i64 (x : Int)] w fun e w' => e = .returned (.tuple #[.int .i64 (homeG g (x : Int)).1, .bool (homeG g (x : Int)).2]) ∧ w = w' := by
  have hl := hr.len
  by_cases hlt : x < n
  · obtain ⟨b, off, rfl, _, hc0, hc1, _, _⟩ := hr.one hlt
    have e : homeG g (x : Int) = if gk g x = 2 then ((x : Int), true) else if gk g x = 3 ∨ gk g x = 4 then (gu g x, true) else (0, false) := by
      unfold homeG
      rw [if_pos (by omega), Int.toNat_natCast]
    rw [e]
    obtain ⟨kk, hkk⟩ : ∃ kk, gk g x = kk := ⟨_, rfl⟩
    obtain ⟨uu, huu⟩ : ∃ uu, gu g x = uu := ⟨_, rfl⟩
    rw [hkk] at hc0 ⊢
    rw [huu] at hc1 ⊢
    clear e hl hkk huu hr
    by_cases h2 : kk = 2
    · subst h2
      go_enter Tryz.func107, Tryz.ntmps107
      go_wp2
      go_ret2
      exact ⟨rfl, rfl⟩
    · have d2 : (kk == 2) = false := by simpa using h2
      rw [if_neg h2]
      by_cases h3 : kk = 3
      · subst h3
        rw [if_pos (.inl rfl)]
        go_enter Tryz.func107, Tryz.ntmps107
        go_wp2
        go_ret2
        exact ⟨rfl, rfl⟩
      · have d3 : (kk == 3) = false := by simpa using h3
        by_cases h4 : kk = 4
        · subst h4
          rw [if_pos (.inr rfl)]
          go_enter Tryz.func107, Tryz.ntmps107
          go_wp2
          go_ret2
          exact ⟨rfl, rfl⟩
        · have d4 : (kk == 4) = false := by simpa using h4
          rw [if_neg (by omega)]
          go_enter Tryz.func107, Tryz.ntmps107
          go_wp2
          go_ret2
          exact ⟨rfl, rfl⟩
  · have e : homeG g (x : Int) = (0, false) := home_far (by omega)
    rw [e]
    clear e hl hr
    have hd : decide (n ≤ x) = true := by simp; omega
    have hd' : n ≤ x := by omega
    go_enter Tryz.func107, Tryz.ntmps107
    go_wp2
    go_ret2
    exact ⟨rfl, rfl⟩
theorem home_b {A : Option Addr} {n c : Nat} {g : Gr} {x : Nat} {w : World} {u : Int} {b : Bool} (hr : RG w w.heap.size A n g) (hn : n ≤ 256) (hx : x ≤ 300) (h : homeG g (x : Int) = (u, b)) :
    Calls Tryz.prog 107 #[.slice A n c, .int .i64 (x : Int)] w fun e w' => e = .returned (.tuple #[.int .i64 u, .bool b]) ∧ w = w' := by
  have := home_any A n c g x w hr hn hx
  rw [h] at this
  exact this

/-! count -/
theorem set_numsF {F : List Int} (h : rightB F = true) : F = numsF (fun k => hasB F (k : Int)) 256 := by
  refine right_ext h (numsF_right _ (Nat.le_refl _)) fun x => ?_
  rw [mem_numsF]
  constructor
  · intro hx
    have := right_mem h x hx
    exact ⟨x.toNat, by omega, by rw [has_iff h, Int.toNat_of_nonneg (by omega)]; exact hx, by omega⟩
  · rintro ⟨k, _, h2, rfl⟩
    exact (has_iff h).1 h2
set_option maxRecDepth 100000 in
set_option maxHeartbeats 4000000 in
theorem mcount_any (A : Option Addr) (n c : Nat) (A2 : Option Addr) (n2 c2 : Nat) (g : Gr) (F : List Int) (w : World) (hr : RG w w.heap.size A n g) (hg : rightG g = true) (hi : RI w w.heap.size A2 n2 F) (hF : rightB F = true) :
    Calls Tryz.prog 99 #[.slice A n c, .slice A2 n2 c2] w fun e w' => ∃ b, e = .returned (.slice (some ⟨b, 0, none⟩) n n) ∧ Tab w b n (tabT g F 256) w' := by
  obtain ⟨i0, hi0, hz0, hz1, hz2⟩ := kinds_parts kinds_info
  have hl := hr.len
  have HGR := Lib.hid (rightG_is hg)
  have hn256 : n ≤ 256 := by have := HGR.out.few; omega
  have hset := set_numsF hF
  have hn2 : n2 ≤ 256 := by rw [← hi.1, hset]; exact numsF_len _ _
  have HRB : Hid (∀ wr, Below w.heap.size w wr → RG wr w.heap.size A n g ∧ RI wr w.heap.size A2 n2 F) := Lib.hid (fun wr hb' => ⟨hr.below hb', hi.below hb'⟩)
  have HL := Lib.hid hl
  have HL2 := Lib.hid hi.1
  have HSET := Lib.hid hset
  clear hr hi hF hl hset hg
  go_enter Tryz.func99, Tryz.ntmps99
  go_wp2_with (at_make; refine wpList_make_full _ rfl _ _ 120 rfl w.heap.size 128 i0 _ 5 Tryz.underlying120 hi0 hz0 hz1 .i64 .i64 _ _ n rfl rfl rfl rfl (by rw [hz2]; omega) (by unfold maxLen; omega) (Nat.le_refl _) ?_; intro w1 hown hgrow; refine Hid.out ?_)
  refine Lib.hid ?_
  have HT := Lib.hid (Tab.made hown (made_kinds n) hgrow)
  clear hown hgrow
  go_wp2
  go_loopw [15] (fun i wr => ∃ k m : Nat, k ≤ n2 ∧ i = .int .i64 k ∧ m ≤ 256 ∧ F.take k = numsF (fun j => hasB F (j : Int)) m ∧ Tab w w.heap.size n (tabT g F m) wr) (fun i _ => n2 - (intOf i).toNat)
  case atStart => exact ⟨0, 0, Nat.zero_le _, rfl, Nat.zero_le _, by simp [numsF], HT.out.ext fun k c _ _ => tab_zero.symm⟩
  case round =>
    obtain ⟨k, m, hk, rfl, hm, htake, hrel⟩ := hrel
    have HK := Lib.hid hrel
    clear hrel
    obtain ⟨hRk, hIk⟩ := HRB.out wr HK.out.bel
    by_cases hlt : k < n2
    · have HRk := Lib.hid (show RG wr wr.heap.size A n g from RN.keep eth_steady hRk (fun _ _ => rfl) (fun b (hb : b < w.heap.size) => Nat.lt_of_lt_of_le hb HK.out.bel.size))
      obtain ⟨x, hmx, hx256, hxk, hxF, hgap, htk⟩ := take_next (by rw [← HSET.out, HL2.out]; exact hlt) (by rw [← HSET.out]; exact htake) hm
      rw [← HSET.out] at hxk htk
      obtain ⟨b, off, rfl, _, hcl⟩ := hIk.one hlt
      rw [hxk] at hcl
      have HTK := Lib.hid htk
      have HXF := Lib.hid hxF
      have HGAP := Lib.hid hgap
      clear hIk hRk htake hxk htk hxF hgap
      by_cases hxn : x < n
      · rcases home_is HGR.out (x := x) (by rw [HL.out]; exact hxn) with ⟨j, hj, hh, h2, ho, hd⟩ | ⟨hh, hd⟩
        · have hjn : j < n := by rw [HL.out] at hj; exact hj
          have HH := Lib.hid hh
          have HJ := Lib.hid h2
          have HO := Lib.hid ho
          have HRx := Lib.hid HRk.out
          obtain ⟨b2, off2, rfl, _, hc0, _, _, _⟩ := HRk.out.one hxn
          obtain ⟨kd, hkd⟩ : ∃ kd, gk g x = kd := ⟨_, rfl⟩
          rw [hkd] at hc0 hd
          have HD := Lib.hid hkd
          clear hh h2 ho hkd hj
          rcases hd with h | h | h
          · subst h
            have hct := HK.out.cell (k := j) (c := 2) hjn (by omega)
            have hft := HK.out.frozen (j * 5 + 2)
            have hle := tab_le (g := g) (F := F) (m := m) (k := j) (c := 2)
            have HT4 : Hid (Tab w w.heap.size n (tabT g F (x + 1)) (wr.drew.setCell ⟨w.heap.size, j * 5 + 2, none⟩ (.int .i64 (tabT g F m j 2 + 1)))) := Lib.hid (((HK.out.next (bel_drew wr 1)).set (by omega) j (tabT g F m j 2 + 1)).ext fun k c hk _ => by
              rw [tab_step HGR.out (by rw [HL.out]; exact hxn) HJ.out HO.out (d := 2) HD.out HXF.out c (by rw [HL.out]; exact hk)]
              unfold upT
              rw [tab_gap hmx HGAP.out, tab_gap hmx HGAP.out])
            obtain ⟨y, hy⟩ : ∃ y, tabT g F m j 2 = y := ⟨_, rfl⟩
            rw [hy] at hct hle HT4
            clear hy
            have hjz : (j : Int) < (n : Int) := by omega
            go_wp2_with fail
            refine (home_b HRx.out hn256 (by omega) HH.out).mono ?_
            rintro e w4 ⟨rfl, rfl⟩
            go_wp2
            go_region
            all_goals go_wp2
            go_roundw
            case rel => exact ⟨k + 1, x + 1, by omega, by go_num, by omega, HTK.out, HT4.out⟩
            case measure => simp [intOf]; omega
          · subst h
            have hct := HK.out.cell (k := j) (c := 3) hjn (by omega)
            have hft := HK.out.frozen (j * 5 + 3)
            have hle := tab_le (g := g) (F := F) (m := m) (k := j) (c := 3)
            have HT4 : Hid (Tab w w.heap.size n (tabT g F (x + 1)) (wr.drew.setCell ⟨w.heap.size, j * 5 + 3, none⟩ (.int .i64 (tabT g F m j 3 + 1)))) := Lib.hid (((HK.out.next (bel_drew wr 1)).set (by omega) j (tabT g F m j 3 + 1)).ext fun k c hk _ => by
              rw [tab_step HGR.out (by rw [HL.out]; exact hxn) HJ.out HO.out (d := 3) HD.out HXF.out c (by rw [HL.out]; exact hk)]
              unfold upT
              rw [tab_gap hmx HGAP.out, tab_gap hmx HGAP.out])
            obtain ⟨y, hy⟩ : ∃ y, tabT g F m j 3 = y := ⟨_, rfl⟩
            rw [hy] at hct hle HT4
            clear hy
            have hjz : (j : Int) < (n : Int) := by omega
            go_wp2_with fail
            refine (home_b HRx.out hn256 (by omega) HH.out).mono ?_
            rintro e w4 ⟨rfl, rfl⟩
            go_wp2
            go_region
            all_goals go_wp2
            go_roundw
            case rel => exact ⟨k + 1, x + 1, by omega, by go_num, by omega, HTK.out, HT4.out⟩
            case measure => simp [intOf]; omega
          · subst h
            have hct := HK.out.cell (k := j) (c := 4) hjn (by omega)
            have hft := HK.out.frozen (j * 5 + 4)
            have hle := tab_le (g := g) (F := F) (m := m) (k := j) (c := 4)
            have HT4 : Hid (Tab w w.heap.size n (tabT g F (x + 1)) (wr.drew.setCell ⟨w.heap.size, j * 5 + 4, none⟩ (.int .i64 (tabT g F m j 4 + 1)))) := Lib.hid (((HK.out.next (bel_drew wr 1)).set (by omega) j (tabT g F m j 4 + 1)).ext fun k c hk _ => by
              rw [tab_step HGR.out (by rw [HL.out]; exact hxn) HJ.out HO.out (d := 4) HD.out HXF.out c (by rw [HL.out]; exact hk)]
              unfold upT
              rw [tab_gap hmx HGAP.out, tab_gap hmx HGAP.out])
            obtain ⟨y, hy⟩ : ∃ y, tabT g F m j 4 = y := ⟨_, rfl⟩
            rw [hy] at hct hle HT4
            clear hy
            have hjz : (j : Int) < (n : Int) := by omega
            go_wp2_with fail
            refine (home_b HRx.out hn256 (by omega) HH.out).mono ?_
            rintro e w4 ⟨rfl, rfl⟩
            go_wp2
            go_region
            all_goals go_wp2
            go_roundw
            case rel => exact ⟨k + 1, x + 1, by omega, by go_num, by omega, HTK.out, HT4.out⟩
            case measure => simp [intOf]; omega
        · have HT4 : Hid (Tab w w.heap.size n (tabT g F (x + 1)) wr) := Lib.hid (HK.out.ext fun k c _ _ => by
            rw [tab_skip (.inr hd), tab_gap hmx HGAP.out])
          have HH := Lib.hid hh
          clear hh hd
          go_wp2_with fail
          refine (home_b HRk.out hn256 (by omega) HH.out).mono ?_
          rintro e w4 ⟨rfl, rfl⟩
          go_wp2
          go_roundw
          case rel => exact ⟨k + 1, x + 1, by omega, by go_num, by omega, HTK.out, HT4.out⟩
          case measure => simp [intOf]; omega
      · have hfar := far_kind (g := g) (x := x) (by rw [HL.out]; omega)
        have HT4 : Hid (Tab w w.heap.size n (tabT g F (x + 1)) wr) := Lib.hid (HK.out.ext fun k c _ _ => by
          rw [tab_skip (.inr (.inl hfar)), tab_gap hmx HGAP.out])
        have HH := Lib.hid (home_far (g := g) (x := x) (by rw [HL.out]; omega))
        clear hfar
        go_wp2_with fail
        refine (home_b HRk.out hn256 (by omega) HH.out).mono ?_
        rintro e w4 ⟨rfl, rfl⟩
        go_wp2
        go_roundw
        case rel => exact ⟨k + 1, x + 1, by omega, by go_num, by omega, HTK.out, HT4.out⟩
        case measure => simp [intOf]; omega
    · have hkn : k = n2 := by omega
      subst hkn
      have hend := take_end (p := fun j => hasB F (j : Int)) (n := 256) (by rw [← HSET.out, ← htake, List.take_of_length_le (by rw [HL2.out]; omega)]) hm
      have HT4 : Hid (Tab w w.heap.size n (tabT g F 256) wr) := Lib.hid (HK.out.ext fun k c _ _ => (tab_gap hm hend).symm)
      clear hRk hIk htake hend
      go_wp2
      go_ret
      exact ⟨_, rfl, HT4.out⟩

end Go.Proofs.YtchogijdkagiiaaGreatDoor
