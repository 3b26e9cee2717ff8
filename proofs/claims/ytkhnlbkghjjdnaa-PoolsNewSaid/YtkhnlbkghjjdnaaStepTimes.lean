/- The reference's list of times (bailiwickref03.times), of a right profile and a span. -/
import Derived.Test.YtkhnlbkghjjdnaaStepAsk
import Derived.Laws.AppendOwnNone
import Derived.Deep.DeepCutAuto
import Derived.Deep.LoopGhost
namespace Go.Proofs.Ytkhnlbkghjjdnaa
open Go.RowKit

theorem int64_info : (Try.prog.info? 2).map (fun i => (i.zero, i.size, i.bytes)) = some (some (.int .i64 0), 1, 8) := by kernel_rfl
/-- the slice value '.slice A n c' holds the times l, below block B -/
def RT (w : World) (B : Nat) (A : Option Addr) (n : Nat) (l : List Int) : Prop :=
  l.length = n ∧ (0 < n → ∃ b off, A = some ⟨b, off, none⟩ ∧ b < B ∧ ∀ j, j < n → w.cell? ⟨b, off + j, none⟩ = some (.int .i64 (l.getD j 0)))

/-- the last of an owned row of times -/
theorem own_last {w : World} {base n : Nat} {e : TypeId} {A : Option Addr} {c : Nat} {l : List Int} (h : w.ownsRow base e 1 (.slice A n c) n (l.map (Value.int .i64))) (hn : 0 < n) :
    ∃ g, A = some ⟨g, 0, none⟩ ∧ w.cell? ⟨g, n - 1, none⟩ = some (.int .i64 (l.getD (l.length - 1) 0)) := by
  have hl : l.length = n := by have := h.1; simpa using this
  rcases h.2 with ⟨-, h0⟩ | ⟨g, cap, cur, hv, _⟩
  · omega
  · injection hv with hv
    subst hv
    refine ⟨g, rfl, ?_⟩
    have hg : l.getD (l.length - 1) 0 = l[n - 1]'(by omega) := by
      rw [List.getD, List.getElem?_eq_getElem (by omega)]
      simp [hl]
    have := h.cells (g := g) rfl (n - 1) (.int .i64 (l.getD (l.length - 1) 0)) (by rw [List.getElem?_map, List.getElem?_eq_getElem (by omega), hg]; rfl)
    rw [add_none] at this
    simpa using this

/-! ### the walk -/
/-- what stands in a slot of times: an owned row that reads as l, in a world that keeps all that was there -/
def TOwn (w : World) (v : Value) (l : List Int) (wr : World) : Prop :=
  wr.ownsRow w.heap.size 2 1 v l.length (l.map (Value.int .i64)) ∧ Below w.heap.size w wr
theorem TOwn.snoc {w wr w2 : World} {v v' : Value} {l : List Int} {x : Int} {o : Obj} (h : TOwn w v l wr) (hown' : w2.ownsRow w.heap.size 2 1 v' (l.length + 1) (l.map (Value.int .i64) ++ [.int .i64 x])) (hgrow : (wr.alloc o).grownBy w2 v.ownBlock) :
    TOwn w v' (l ++ [x]) w2 := by
  refine ⟨?_, (h.2.alloc h.2.size o).grown hgrow (by have := h.2.size; simp; omega) (fun j hj => (h.1.lt j hj).1)⟩
  rw [List.length_append, List.map_append]
  exact hown'
def lastLt (l : List Int) (x : Int) : Bool := decide (l = [] ∨ l.getD (l.length - 1) 0 < x)
theorem addIf_eq (l : List Int) (x : Int) : addIf l x = if lastLt l x = true then l ++ [x] else l := by
  unfold addIf lastLt
  simp only [decide_eq_true_eq]

theorem addIf_ne (l : List Int) (x : Int) : addIf l x ≠ [] := by
  unfold addIf
  split
  · simp
  · rename_i h; exact fun e => h (.inl e)
theorem times_ne' (a b : Int) : ∀ (r : List (Int × Int)) (l : List Int), l ≠ [] → r.foldl (stepTimes a b) l ≠ []
  | [], _, h => h
  | _ :: r, _, _ => times_ne' a b r _ (addIf_ne _ _)
theorem times_ne {a b : Int} : ∀ {p : List (Int × Int)}, p ≠ [] → p.foldl (stepTimes a b) [] ≠ []
  | [], h => absurd rfl h
  | _ :: r, _ => times_ne' a b r _ (addIf_ne _ _)
theorem own_drew {w wr : World} {v : Value} {l : List Int} (h : TOwn w v l wr) (q : Nat) : TOwn w v l (wr.drewN q) := ⟨h.1, ⟨h.2.1, h.2.2, h.2.3, h.2.4, h.2.5⟩⟩
set_option maxRecDepth 100000 in
set_option maxHeartbeats 4000000 in
theorem times_any (A : Option Addr) (n c : Nat) (p : List (Int × Int)) (a b : Int) (w : World) (hr : RS w w.heap.size A n p) (hn : n ≤ 2000) (h0 : 0 < n) :
    Calls Try.prog 60 #[.slice A n c, .int .i64 a, .int .i64 b] w fun e w' => (∃ v, e = .returned v ∧ TOwn w v (timesL p a b) w') := by
  have HR := Lib.hid hr
  clear hr
  obtain ⟨i0, hi0, hz0, hz1, hz2⟩ := info_parts int64_info
  go_enter Try.func60, Try.ntmps60
  go_wp2
  go_loopg [7, 8] n (fun g v i wr => ∃ k : Nat, k ≤ n ∧ g = n - k ∧ i = .int .i64 k ∧ TOwn w v ((p.take k).foldl (stepTimes a b) []) wr ∧ ((p.take k).foldl (stepTimes a b) []).length ≤ 3 * k)
  case atStart => exact ⟨0, by omega, rfl, rfl, ⟨World.ownsRow_nil _ _ _ _, Below.refl _ _⟩, Nat.le_refl _⟩
  case round =>
    obtain ⟨k, hk, rfl, rfl, hT, hlen⟩ := hrel
    by_cases hlt : k < n
    · obtain ⟨b0, off, rfl, hb0, hc1, hc2⟩ := HR.out.cells hlt
      have hs : Hid ((p.take (k + 1)).foldl (stepTimes a b) [] = stepTimes a b ((p.take k).foldl (stepTimes a b) []) (p.getD k (0, 0))) := Lib.hid (foldl_take _ _ _ (0, 0) _ (by rw [HR.out.1]; exact hlt))
      generalize (p.take k).foldl (stepTimes a b) [] = l at *
      have hst : Hid (stepTimes a b l (p.getD k (0, 0)) = addIf (if b < (p.getD k (0, 0)).1 then addIf (if a < (p.getD k (0, 0)).1 then addIf l a else l) b else (if a < (p.getD k (0, 0)).1 then addIf l a else l)) (p.getD k (0, 0)).1) := Lib.hid rfl
      generalize (p.getD k (0, 0)).1 = x at *
      clear hc2
      have hcx : Hid (∀ wy, Below w.heap.size w wy → wy.cell? ⟨b0, off + k * 2, none⟩ = some (.int .i64 x)) := Lib.hid (fun wy hb => (hb.cell hb0).trans hc1)
      clear hc1
      obtain ⟨A1, c1, rfl⟩ := own_form hT.1
      go_upto_region 5 with fail
      go_cut [36] (fun sq wx => sq = .bool (decide (a < x) && lastLt l a) ∧ TOwn w (.slice A1 l.length c1) l wx)
      case first =>
        have hcxw := hcx.out wr hT.2
        by_cases h1 : a < x
        · by_cases hl : l.length = 0
          · have hln : l = [] := List.eq_nil_of_length_eq_zero hl
            have hlb : ((l.length : Int) == 0) = true := by simp [hln]
            have hq : Hid (lastLt l a = true) := Lib.hid (by unfold lastLt; simp [hln])
            go_wp2
            go_meet
            exact ⟨congrArg Value.bool (by rw [hq.out]; simp [h1]), hT⟩
          · have hlb : ((l.length : Int) == 0) = false := by simp; intro h; exact hl (by rw [h]; rfl)
            have hlp : 0 < l.length := by omega
            have hlne : l ≠ [] := fun h => hl (by rw [h]; rfl)
            obtain ⟨g1, rfl, hlast⟩ := own_last hT.1 hlp
            by_cases h2 : l.getD (l.length - 1) 0 < a
            · have hq : Hid (lastLt l a = true) := Lib.hid (by unfold lastLt; exact decide_eq_true (.inr h2))
              generalize l.getD (l.length - 1) 0 = y at *
              go_wp2
              go_meet
              exact ⟨congrArg Value.bool (by rw [hq.out]; simp [h1]), hT⟩
            · have hq : Hid (lastLt l a = false) := Lib.hid (by unfold lastLt; exact decide_eq_false (fun h => h.elim hlne h2))
              generalize l.getD (l.length - 1) 0 = y at *
              go_wp2
              go_meet
              exact ⟨congrArg Value.bool (by rw [hq.out]; simp), hT⟩
        · have h1d : decide (a < x) = false := by simpa using h1
          go_wp2
          go_meet
          exact ⟨congrArg Value.bool (by rw [h1d]; rfl), hT⟩
      case rest =>
        obtain ⟨rfl, hT2⟩ := hcut
        clear hT
        have hT := hT2
        clear hT2
        clear wr
        obtain ⟨wr, hwr⟩ : ∃ y, y = wc := ⟨_, rfl⟩
        subst hwr
        go_upto_if 36 with fail
        go_cut [7] (fun sv wx => TOwn w sv (if (decide (a < x) && lastLt l a) = true then l ++ [a] else l) wx)
        case first =>
          generalize (decide (a < x) && lastLt l a) = q at *
          cases q with
          | true =>
            have hcxw := hcx.out (wr.alloc (.cells #[.int .i64 a] 2)) (hT.2.alloc hT.2.size _)
            go_wp2_with (at_builtin; refine wpList_append_own _ rfl (.tmp 37) (.tmp 39) 69 rfl w.heap.size 2 i0 (.int .i64 0) 1 8 Try.underlying69 hi0 hz0 hz1 hz2 rfl (by decide) _ _ _ rfl (hT.1.alloc _) ⟨wr.heap.size, 0, none⟩ 1 1 [.int .i64 a] rfl rfl (by intro j u hj; match j, hj with | 0, hj => simp at hj; subst hj; simp [Addr.add]) (by intro u hu; simp at hu; subst hu; rfl) (by unfold maxLen; omega) (by omega) (by have := hT.2.size; simp; omega) ?_; intro v' w2 hown' hgrow _; refine Hid.out ?_)
            refine Lib.hid ?_
            have R := Lib.hid (hT.snoc hown' hgrow)
            clear hown' hgrow
            go_wp2
            go_meet
            exact R.out
          | false =>
            go_wp2
            go_meet
            exact hT
        case rest =>
          clear hT
          have hT := hcut
          clear hcut
          clear wr
          obtain ⟨wr, hwr⟩ : ∃ y, y = wc := ⟨_, rfl⟩
          subst hwr
          obtain ⟨l1, hl1⟩ : ∃ m, (if (decide (a < x) && lastLt l a) = true then l ++ [a] else l) = m := ⟨_, rfl⟩
          have hlenl1 : l1.length ≤ l.length + 1 := by rw [← hl1]; split <;> simp
          rw [hl1] at hT
          have Hl1 := Lib.hid hl1
          clear hl1
          obtain ⟨A1, c1, rfl⟩ := own_form hT.1
          go_upto_region 7 with fail
          go_cut [62] (fun sq wx => sq = .bool (decide (b < x) && lastLt l1 b) ∧ TOwn w (.slice A1 l1.length c1) l1 wx)
          case first =>
            have hcxw := hcx.out wr hT.2
            by_cases h1 : b < x
            · by_cases hl : l1.length = 0
              · have hln : l1 = [] := List.eq_nil_of_length_eq_zero hl
                have hlb : ((l1.length : Int) == 0) = true := by simp [hln]
                have hq : Hid (lastLt l1 b = true) := Lib.hid (by unfold lastLt; simp [hln])
                go_wp2
                go_meet
                exact ⟨congrArg Value.bool (by rw [hq.out]; simp [h1]), hT⟩
              · have hlb : ((l1.length : Int) == 0) = false := by simp; intro h; exact hl (by rw [h]; rfl)
                have hlp : 0 < l1.length := by omega
                have hlne : l1 ≠ [] := fun h => hl (by rw [h]; rfl)
                obtain ⟨g1, rfl, hlast⟩ := own_last hT.1 hlp
                by_cases h2 : l1.getD (l1.length - 1) 0 < b
                · have hq : Hid (lastLt l1 b = true) := Lib.hid (by unfold lastLt; exact decide_eq_true (.inr h2))
                  generalize l1.getD (l1.length - 1) 0 = y at *
                  go_wp2
                  go_meet
                  exact ⟨congrArg Value.bool (by rw [hq.out]; simp [h1]), hT⟩
                · have hq : Hid (lastLt l1 b = false) := Lib.hid (by unfold lastLt; exact decide_eq_false (fun h => h.elim hlne h2))
                  generalize l1.getD (l1.length - 1) 0 = y at *
                  go_wp2
                  go_meet
                  exact ⟨congrArg Value.bool (by rw [hq.out]; simp), hT⟩
            · have h1d : decide (b < x) = false := by simpa using h1
              go_wp2
              go_meet
              exact ⟨congrArg Value.bool (by rw [h1d]; rfl), hT⟩
          case rest =>
            obtain ⟨rfl, hT2⟩ := hcut
            clear hT
            have hT := hT2
            clear hT2
            clear wr
            obtain ⟨wr, hwr⟩ : ∃ y, y = wc := ⟨_, rfl⟩
            subst hwr
            go_upto_if 62 with fail
            go_cut [7] (fun sv wx => TOwn w sv (if (decide (b < x) && lastLt l1 b) = true then l1 ++ [b] else l1) wx)
            case first =>
              generalize (decide (b < x) && lastLt l1 b) = q at *
              cases q with
              | true =>
                have hcxw := hcx.out (wr.alloc (.cells #[.int .i64 b] 2)) (hT.2.alloc hT.2.size _)
                go_wp2_with (at_builtin; refine wpList_append_own _ rfl (.tmp 63) (.tmp 65) 69 rfl w.heap.size 2 i0 (.int .i64 0) 1 8 Try.underlying69 hi0 hz0 hz1 hz2 rfl (by decide) _ _ _ rfl (hT.1.alloc _) ⟨wr.heap.size, 0, none⟩ 1 1 [.int .i64 b] rfl rfl (by intro j u hj; match j, hj with | 0, hj => simp at hj; subst hj; simp [Addr.add]) (by intro u hu; simp at hu; subst hu; rfl) (by unfold maxLen; omega) (by omega) (by have := hT.2.size; simp; omega) ?_; intro v' w2 hown' hgrow _; refine Hid.out ?_)
                refine Lib.hid ?_
                have R := Lib.hid (hT.snoc hown' hgrow)
                clear hown' hgrow
                go_wp2
                go_meet
                exact R.out
              | false =>
                go_wp2
                go_meet
                exact hT
            case rest =>
              clear hT
              have hT := hcut
              clear hcut
              clear wr
              obtain ⟨wr, hwr⟩ : ∃ y, y = wc := ⟨_, rfl⟩
              subst hwr
              obtain ⟨l2, hl2⟩ : ∃ m, (if (decide (b < x) && lastLt l1 b) = true then l1 ++ [b] else l1) = m := ⟨_, rfl⟩
              have hlenl2 : l2.length ≤ l1.length + 1 := by rw [← hl2]; split <;> simp
              rw [hl2] at hT
              have Hl2 := Lib.hid hl2
              clear hl2
              obtain ⟨A1, c1, rfl⟩ := own_form hT.1
              go_upto_region 9 with fail
              go_cut [83] (fun sq wx => sq = .bool (lastLt l2 x) ∧ TOwn w (.slice A1 l2.length c1) l2 wx)
              case first =>
                have hcxw := hcx.out wr hT.2
                by_cases hl : l2.length = 0
                · have hln : l2 = [] := List.eq_nil_of_length_eq_zero hl
                  have hlb : ((l2.length : Int) == 0) = true := by simp [hln]
                  have hq : Hid (lastLt l2 x = true) := Lib.hid (by unfold lastLt; simp [hln])
                  go_wp2
                  go_quiet (fail)
                  go_wp2
                  go_meet
                  exact ⟨congrArg Value.bool (hq.out.symm), own_drew hT _⟩
                · have hlb : ((l2.length : Int) == 0) = false := by simp; intro h; exact hl (by rw [h]; rfl)
                  have hlp : 0 < l2.length := by omega
                  have hlne : l2 ≠ [] := fun h => hl (by rw [h]; rfl)
                  obtain ⟨g1, rfl, hlast⟩ := own_last hT.1 hlp
                  by_cases h2 : l2.getD (l2.length - 1) 0 < x
                  · have hq : Hid (lastLt l2 x = true) := Lib.hid (by unfold lastLt; exact decide_eq_true (.inr h2))
                    generalize l2.getD (l2.length - 1) 0 = y at *
                    go_wp2
                    go_quiet (fail)
                    go_wp2
                    go_meet
                    exact ⟨congrArg Value.bool (hq.out.symm), own_drew hT _⟩
                  · have hq : Hid (lastLt l2 x = false) := Lib.hid (by unfold lastLt; exact decide_eq_false (fun h => h.elim hlne h2))
                    generalize l2.getD (l2.length - 1) 0 = y at *
                    go_wp2
                    go_quiet (fail)
                    go_wp2
                    go_meet
                    exact ⟨congrArg Value.bool (by rw [hq.out]; exact decide_eq_false (by omega)), own_drew hT _⟩
              case rest =>
                obtain ⟨rfl, hT2⟩ := hcut
                clear hT
                have hT := hT2
                clear hT2
                clear wr
                obtain ⟨wr, hwr⟩ : ∃ y, y = wc := ⟨_, rfl⟩
                subst hwr
                go_upto_if 83 with fail
                have hfin : Hid (stepTimes a b l (p.getD k (0, 0)) = if lastLt l2 x = true then l2 ++ [x] else l2) := Lib.hid (by
                  rw [hst.out, ← Hl2.out, ← Hl1.out]
                  have e1 : (if a < x then addIf l a else l) = (if (decide (a < x) && lastLt l a) = true then l ++ [a] else l) := by
                    rw [addIf_eq]
                    by_cases h : a < x <;> simp [h]
                  rw [e1]
                  generalize (if (decide (a < x) && lastLt l a) = true then l ++ [a] else l) = m1
                  have e2 : (if b < x then addIf m1 b else m1) = (if (decide (b < x) && lastLt m1 b) = true then m1 ++ [b] else m1) := by
                    rw [addIf_eq]
                    by_cases h : b < x <;> simp [h]
                  rw [e2, addIf_eq])
                generalize lastLt l2 x = q at *
                cases q with
                | true =>
                  have hcxw := hcx.out (wr.alloc (.cells #[.int .i64 x] 2)) (hT.2.alloc hT.2.size _)
                  have hcxv := hcx.out wr hT.2
                  go_wp2_with (at_builtin; refine wpList_append_own _ rfl (.tmp 84) (.tmp 90) 69 rfl w.heap.size 2 i0 (.int .i64 0) 1 8 Try.underlying69 hi0 hz0 hz1 hz2 rfl (by decide) _ _ _ rfl (hT.1.alloc _) ⟨wr.heap.size, 0, none⟩ 1 1 [.int .i64 x] rfl rfl (by intro j u hj; match j, hj with | 0, hj => simp at hj; subst hj; simp [Addr.add]) (by intro u hu; simp at hu; subst hu; rfl) (by unfold maxLen; omega) (by omega) (by have := hT.2.size; simp; omega) ?_; intro v' w2 hown' hgrow _; refine Hid.out ?_)
                  refine Lib.hid ?_
                  have R := Lib.hid (hT.snoc hown' hgrow)
                  clear hown' hgrow
                  have e : Hid (stepTimes a b l (p.getD k (0, 0)) = l2 ++ [x]) := Lib.hid hfin.out
                  have hl3 : (l2 ++ [x]).length ≤ 3 * (k + 1) := by simp; omega
                  go_wp2
                  go_roundg (n - (k + 1))
                  case measure => omega
                  case rel => exact ⟨k + 1, by omega, rfl, by go_num, by rw [hs.out, e.out]; exact R.out, by rw [hs.out, e.out]; exact hl3⟩
                | false =>
                  have e : Hid (stepTimes a b l (p.getD k (0, 0)) = l2) := Lib.hid hfin.out
                  go_wp2
                  go_roundg (n - (k + 1))
                  case measure => omega
                  case rel => exact ⟨k + 1, by omega, rfl, by go_num, by rw [hs.out, e.out]; exact hT, by rw [hs.out, e.out]; omega⟩
    · have hkn : k = n := by omega
      have hp : (p.take k).foldl (stepTimes a b) [] = p.foldl (stepTimes a b) [] := by rw [List.take_of_length_le (by rw [HR.out.1]; omega)]
      rw [hp] at hT hlen
      have hd : decide (k < n) = false := by simpa using hlt
      have htl : Hid (timesL p a b = addIf (addIf (p.foldl (stepTimes a b) []) a) b) := Lib.hid rfl
      have hl0 : Hid (p.foldl (stepTimes a b) [] ≠ []) := Lib.hid (times_ne (by intro e; have := HR.out.1; rw [e] at this; simp at this; omega))
      generalize p.foldl (stepTimes a b) [] = l at *
      obtain ⟨A1, c1, rfl⟩ := own_form hT.1
      have hlp : 0 < l.length := List.length_pos_iff.2 hl0.out
      obtain ⟨g1, rfl, hlast⟩ := own_last hT.1 hlp
      by_cases h2 : l.getD (l.length - 1) 0 < a
      · have hq : Hid (lastLt l a = true) := Lib.hid (by unfold lastLt; exact decide_eq_true (.inr h2))
        have hfin : Hid (addIf l a = l ++ [a]) := Lib.hid (by rw [addIf_eq, hq.out]; rfl)
        have htl2 : Hid (timesL p a b = addIf (l ++ [a]) b) := Lib.hid (by rw [htl.out, hfin.out])
        generalize l.getD (l.length - 1) 0 = y at *
        go_wp2_with (at_builtin; refine wpList_append_own _ rfl (.tmp 100) (.tmp 102) 69 rfl w.heap.size 2 i0 (.int .i64 0) 1 8 Try.underlying69 hi0 hz0 hz1 hz2 rfl (by decide) _ _ _ rfl (hT.1.alloc _) ⟨wr.heap.size, 0, none⟩ 1 1 [.int .i64 a] rfl rfl (by intro j u hj; match j, hj with | 0, hj => simp at hj; subst hj; simp [Addr.add]) (by intro u hu; simp at hu; subst hu; rfl) (by unfold maxLen; omega) (by omega) (by have := hT.2.size; simp; omega) ?_; intro v' w2 hown' hgrow _; refine Hid.out ?_)
        refine Lib.hid ?_
        have R := hT.snoc hown' hgrow
        clear hown' hgrow hT
        have hT := R
        clear R
        have HNE : Hid (l ++ [a] ≠ []) := Lib.hid (by simp)
        have hlm : (l ++ [a]).length ≤ 3 * n + 1 := by simp; omega
        generalize l ++ [a] = m at *
        clear hlast htl hfin
        obtain ⟨A2, c2, rfl⟩ := own_form hT.1
        have hlp2 : 0 < m.length := by have : m ≠ [] := HNE.out; exact List.length_pos_iff.2 this
        have hne2 : m ≠ [] := HNE.out
        obtain ⟨g2, rfl, hlast2⟩ := own_last hT.1 hlp2
        by_cases h4 : m.getD (m.length - 1) 0 < b
        · have hq2 : Hid (lastLt m b = true) := Lib.hid (by unfold lastLt; exact decide_eq_true (.inr h4))
          have hfin2 : Hid (addIf m b = m ++ [b]) := Lib.hid (by rw [addIf_eq, hq2.out]; rfl)
          generalize m.getD (m.length - 1) 0 = y2 at *
          go_wp2_with (at_builtin; refine wpList_append_own _ rfl (.tmp 112) (.tmp 114) 69 rfl w.heap.size 2 i0 (.int .i64 0) 1 8 Try.underlying69 hi0 hz0 hz1 hz2 rfl (by decide) _ _ _ rfl (hT.1.alloc _) ⟨w2.heap.size, 0, none⟩ 1 1 [.int .i64 b] rfl rfl (by intro j u hj; match j, hj with | 0, hj => simp at hj; subst hj; simp [Addr.add]) (by intro u hu; simp at hu; subst hu; rfl) (by unfold maxLen; omega) (by omega) (by have := hT.2.size; simp; omega) ?_; intro v' w2 hown' hgrow _; refine Hid.out ?_)
          refine Lib.hid ?_
          have R2 := Lib.hid (hT.snoc hown' hgrow)
          clear hown' hgrow
          go_wp2
          go_ret
          exact ⟨_, rfl, by rw [htl2.out, hfin2.out]; exact R2.out⟩
        · have hq2 : Hid (lastLt m b = false) := Lib.hid (by unfold lastLt; exact decide_eq_false (fun h => h.elim hne2 h4))
          have hfin2 : Hid (addIf m b = m) := Lib.hid (by rw [addIf_eq, hq2.out]; rfl)
          generalize m.getD (m.length - 1) 0 = y2 at *
          go_wp2
          go_ret
          exact ⟨_, rfl, by rw [htl2.out, hfin2.out]; exact hT⟩
      · have hq : Hid (lastLt l a = false) := Lib.hid (by unfold lastLt; exact decide_eq_false (fun h => h.elim hl0.out h2))
        have hfin : Hid (addIf l a = l) := Lib.hid (by rw [addIf_eq, hq.out]; rfl)
        have htl2 : Hid (timesL p a b = addIf l b) := Lib.hid (by rw [htl.out, hfin.out])
        have HNE := hl0
        by_cases h4 : l.getD (l.length - 1) 0 < b
        · have hq2 : Hid (lastLt l b = true) := Lib.hid (by unfold lastLt; exact decide_eq_true (.inr h4))
          have hfin2 : Hid (addIf l b = l ++ [b]) := Lib.hid (by rw [addIf_eq, hq2.out]; rfl)
          generalize l.getD (l.length - 1) 0 = y at *
          go_wp2_with (at_builtin; refine wpList_append_own _ rfl (.tmp 112) (.tmp 114) 69 rfl w.heap.size 2 i0 (.int .i64 0) 1 8 Try.underlying69 hi0 hz0 hz1 hz2 rfl (by decide) _ _ _ rfl (hT.1.alloc _) ⟨wr.heap.size, 0, none⟩ 1 1 [.int .i64 b] rfl rfl (by intro j u hj; match j, hj with | 0, hj => simp at hj; subst hj; simp [Addr.add]) (by intro u hu; simp at hu; subst hu; rfl) (by unfold maxLen; omega) (by omega) (by have := hT.2.size; simp; omega) ?_; intro v' w2 hown' hgrow _; refine Hid.out ?_)
          refine Lib.hid ?_
          have R2 := Lib.hid (hT.snoc hown' hgrow)
          clear hown' hgrow
          go_wp2
          go_ret
          exact ⟨_, rfl, by rw [htl2.out, hfin2.out]; exact R2.out⟩
        · have hq2 : Hid (lastLt l b = false) := Lib.hid (by unfold lastLt; exact decide_eq_false (fun h => h.elim hl0.out h4))
          have hfin2 : Hid (addIf l b = l) := Lib.hid (by rw [addIf_eq, hq2.out]; rfl)
          generalize l.getD (l.length - 1) 0 = y at *
          go_wp2
          go_ret
          exact ⟨_, rfl, by rw [htl2.out, hfin2.out]; exact hT⟩

end Go.Proofs.Ytkhnlbkghjjdnaa
