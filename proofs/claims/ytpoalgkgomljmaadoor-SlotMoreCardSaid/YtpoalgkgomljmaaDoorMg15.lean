/- The program's suiting of layer 9: the nodes that suit. Written by gen/gen_matchpsuit2.py. The program's most and take of layer 9: what is got in the nodes that are chosen. -/
import Derived.Test.YtpoalgkgomljmaaDoorMg13
import Derived.Test.YtpoalgkgomljmaaDoorMg14
import Derived.Test.YtpoalgkgomljmaaDoorMg05
import Derived.Deep.QuietTactic
import Derived.Test.YtpoalgkgomljmaaDoorMg12
namespace Go.Proofs.YtpoalgkgomljmaaDoor
open Go.RowKit

/-- a variable in a block of its own, made later than w3 -/
structure Box1 (w3 w : World) (b : Nat) (v : Value) : Prop where
  at' : w.heap[b]? = some (.cells #[v] 81 (0, 0))
  new : w3.heap.size ≤ b
section
variable {w3 w w' : World} {b k n : Nat} {v u : Value} {T : Nat → Nat → Int}
theorem Box1.lt (h : Box1 w3 w b v) : b < w.heap.size := (Array.getElem?_eq_some_iff.1 h.at').1
theorem Box1.cell (h : Box1 w3 w b v) : w.cell? ⟨b, 0, none⟩ = some v := (cell_of_row w b 0 _ _ (0, 0) h.at').trans rfl
theorem Box1.frozen (h : Box1 w3 w b v) : w.frozen? ⟨b, 0, none⟩ = false := frozen_of_row w b 0 _ _ h.at'
theorem Box1.next (h : Box1 w3 w b v) (hb : Below w.heap.size w w') : Box1 w3 w' b v := ⟨(hb.block _ h.lt).trans h.at', h.new⟩
theorem Box1.made (hb : w3.heap.size ≤ w.heap.size) (v : Value) : Box1 w3 (w.alloc (.cells #[v] 81)) w.heap.size v := ⟨heap_alloc_new w _, hb⟩
theorem Box1.set (h : Box1 w3 w b v) (u : Value) : Box1 w3 (w.setCell ⟨b, 0, none⟩ u) b u := ⟨by rw [heap_setCell_same w b 0 _ _ _ h.at']; rfl, h.new⟩
theorem Box1.other (h : Box1 w3 w b v) (hk : k ≠ b) (u : Value) : Box1 w3 (w.setCell ⟨k, 0, none⟩ u) b v := ⟨by rw [heap_setCell_other w _ _ _ (by show b ≠ k; exact fun e => hk e.symm)]; exact h.at', h.new⟩
theorem Tab.apart {g : Nat} (h : Tab w3 g n T w) (hb : Box1 w3 w b v) : b ≠ g := by
  rintro rfl
  rcases h.own.2 with ⟨e, _⟩ | ⟨g', cap, cur, e, _, e3, _⟩
  · injection e with e _ _
    cases e
  · injection e with e _ _
    injection e with e
    injection e with e _ _
    subst e
    rw [hb.at'] at e3
    injection e3 with e3
    injection e3 with _ e3 _
    cases e3
theorem Tab.other {g : Nat} (h : Tab w3 g n T w) (hb : Box1 w3 w b v) (u : Value) : Tab w3 g n T (w.setCell ⟨b, 0, none⟩ u) := by
  have hne := h.apart hb
  refine ⟨⟨h.own.1, h.own.2.imp id ?_⟩, h.bel.setCell (p := ⟨b, 0, none⟩) hb.new _⟩
  rintro ⟨g', cap, cur, e1, e2, e3, e4⟩
  refine ⟨g', cap, cur, e1, e2, ?_, e4⟩
  have eg : g = g' := by
    injection e1 with e1 _ _
    injection e1 with e1
    injection e1
  rw [heap_setCell_other w _ _ _ (by show g' ≠ b; rw [← eg]; exact fun e => hne e.symm)]
  exact e3
end

/-- the nodes, in new memory -/
theorem nodes_on (A : Option Addr) (n c : Nat) (g : Gr) (w : World) (h : GAsk w A n c g) (hg : rightG g = true) :
    Calls Tryd.prog 51 #[.slice A n c] w fun e w' => ∃ v w1, e = .returned v ∧ Below w.heap.size w w1 ∧ ON EI 1 3 w1 v (nodesL g) w' :=
  nodes_own A n c g w h hg

/-- what holds while 'have' and 'all' are told, in whatever order -/
def VarsInv (w3 : World) (wz : Nat) (A : Option Addr) (n c : Nat) (A2 : Option Addr) (n2 c2 : Nat) (g : Gr) (F : List Int) (s : Sp) (L : Nat → Bool) (a : Act) (w : World) : Prop :=
  ∃ v7 v8 v22 v23 v24 v25 v26 v27 v28 : Value, a = { tmps := #[.slice A n c, .slice A2 n2 c2, .agg #[.int .i64 s.nodes, .int .i64 s.cores, .int .i64 s.gpus, .string s.tag, .bool s.whole, .int .i64 s.long, .int .i64 s.prio], .pointer (some ⟨wz, 0, none⟩), undef, .pointer (some ⟨wz + 1, 0, none⟩), .slice none 0 0, v7, v8, .slice A n c, .bool true, .bool false, .bool false, .slice A2 n2 c2, .bool true, .bool false, .bool false, .bool false, .agg #[.int .i64 s.nodes, .int .i64 s.cores, .int .i64 s.gpus, .string s.tag, .bool s.whole, .int .i64 s.long, .int .i64 s.prio], .bool true, .bool false, .bool false, v22, v23, v24, v25, v26, v27, v28, undef, undef, undef, undef], defers := [] } ∧ Below w3.heap.size w3 w ∧
    (L 0 = true → v22 = .slice A n c) ∧ (L 1 = true → v23 = .slice A2 n2 c2) ∧ (L 3 = true → v25 = .slice A n c) ∧ (L 4 = true → v26 = .slice A n c) ∧
    (L 2 = true → ∃ b, v24 = .slice (some ⟨b, 0, none⟩) n n ∧ Tab w3 b n (tabT g F 256) w) ∧
    (L 5 = true → L 9 = false → ∃ A5 c5, v27 = .slice A5 (underL g 0).length c5 ∧ RI w w.heap.size A5 (underL g 0).length (underL g 0)) ∧
    (L 6 = true → ∃ b, v28 = .slice (some ⟨b, 0, none⟩) n n ∧ Tab w3 b n (tabT g (underL g 0) 256) w) ∧
    (L 7 = true → ∃ b, v7 = .pointer (some ⟨b, 0, none⟩) ∧ Box1 w3 w b (if L 9 = true then v24 else .slice none 0 0)) ∧
    (L 8 = true → ∃ b, v8 = .pointer (some ⟨b, 0, none⟩) ∧ Box1 w3 w b (if L 10 = true then v28 else .slice none 0 0)) ∧
    (L 7 = true → L 8 = true → v7 ≠ v8) ∧
    ((L 9 = true → L 2 = true ∧ L 5 = true ∧ L 6 = true ∧ L 7 = true ∧ L 8 = true) ∧ (L 6 = true → L 5 = true) ∧ (L 10 = true → L 9 = true))

set_option maxRecDepth 100000 in
set_option maxHeartbeats 8000000 in
theorem suiting_yes (A : Option Addr) (n c : Nat) (A2 : Option Addr) (n2 c2 : Nat) (g : Gr) (F : List Int) (s : Sp) (w : World) (hg : GAsk w A n c g) (hf : LAsk w A2 n2 c2 F) (hs : SAsk s) (hm : mayB g F s = true) :
    Calls Tryd.prog 33 #[.slice A n c, .slice A2 n2 c2, .agg #[.int .i64 s.nodes, .int .i64 s.cores, .int .i64 s.gpus, .string s.tag, .bool s.whole, .int .i64 s.long, .int .i64 s.prio]] w (IPost (suitL g F s) w) := by
  obtain ⟨hrg, hrF, hrs⟩ := mayB_is hm
  obtain ⟨W, hW⟩ : ∃ W, W = (w.alloc (.cells #[.slice A n c] 22)).alloc (spO s) := ⟨_, rfl⟩
  have hb0 : Below w.heap.size w W := by rw [hW]; exact ((Below.refl _ _).alloc (Nat.le_refl _) _).alloc (by simp) _
  have CG : Hid (CellK W ⟨w.heap.size, 0, none⟩ (.slice A n c)) := Lib.hid (by
    rw [hW]
    refine ⟨by simp; omega, ?_⟩
    rw [World.cell?_alloc_past (w := w.alloc _) _ _ _ (by simp), World.cell?_alloc_at _ _ _ _ rfl]
    rfl)
  have BX : Hid (BoxS W (w.heap.size + 1) s) := Lib.hid (by
    have := box_new (w.alloc (.cells #[.slice A n c] 22)) s
    rw [World.size_alloc] at this
    rw [hW]; exact this)
  have HB := Lib.hid hb0
  have FG := Lib.hid (hg.next hb0)
  have FF := Lib.hid (hf.next hb0)
  have HS := Lib.hid hs
  have HG0 := Lib.hid hg
  have RG' := Lib.hid hrg
  have RF := Lib.hid hrF
  have RS := Lib.hid hrs
  have HM := Lib.hid hm
  unfold spO at hW
  clear hb0 hg hf hs hrg hrF hrs hm
  have cg := CG.out.at'
  go_enter Tryd.func33, Tryd.ntmps33
  go_wp2_with fail
  rw [← hW]
  refine (graphRight_b FG.out.reads (ml300 FG.out.few) RG'.out).mono ?_
  rintro e w1 ⟨rfl, hb⟩
  have HBq := Lib.hid (HB.out.trans (hb.mono HB.out.size))
  clear HB
  have HB := HBq
  clear HBq
  have CGq := Lib.hid (CG.out.next hb)
  clear CG
  have CG := CGq
  clear CGq
  have BXq := Lib.hid (BX.out.next hb)
  clear BX
  have BX := BXq
  clear BXq
  have FGq := Lib.hid (FG.out.next hb)
  clear FG
  have FG := FGq
  clear FGq
  have FFq := Lib.hid (FF.out.next hb)
  clear FF
  have FF := FFq
  clear FFq
  clear hb
  clear hW cg
  go_wp2_with fail
  refine (s_isSet FF.out.reads (ml300 FF.out.few) RF.out).mono ?_
  rintro e w2 ⟨rfl, hb⟩
  have HBq := Lib.hid (HB.out.trans (hb.mono HB.out.size))
  clear HB
  have HB := HBq
  clear HBq
  have CGq := Lib.hid (CG.out.next hb)
  clear CG
  have CG := CGq
  clear CGq
  have BXq := Lib.hid (BX.out.next hb)
  clear BX
  have BX := BXq
  clear BXq
  have FGq := Lib.hid (FG.out.next hb)
  clear FG
  have FG := FGq
  clear FGq
  have FFq := Lib.hid (FF.out.next hb)
  clear FF
  have FF := FFq
  clear FFq
  clear hb
  have q0 := BX.out.c0
  have q1 := BX.out.c1
  have q2 := BX.out.c2
  have q3 := BX.out.c3
  have q4 := BX.out.c4
  have q5 := BX.out.c5
  have q6 := BX.out.c6
  go_wp2_with fail
  refine (specRight_b HS.out RS.out).mono ?_
  rintro e w3 ⟨rfl, hb⟩
  have HBq := Lib.hid (HB.out.trans (hb.mono HB.out.size))
  clear HB
  have HB := HBq
  clear HBq
  have CGq := Lib.hid (CG.out.next hb)
  clear CG
  have CG := CGq
  clear CGq
  have BXq := Lib.hid (BX.out.next hb)
  clear BX
  have BX := BXq
  clear BXq
  have FGq := Lib.hid (FG.out.next hb)
  clear FG
  have FG := FGq
  clear FGq
  have FFq := Lib.hid (FF.out.next hb)
  clear FF
  have FF := FFq
  clear FFq
  clear hb
  clear q0 q1 q2 q3 q4 q5 q6
  have cg := CG.out.at'
  go_wp2
  have FGA : Hid (∀ wx, Below w3.heap.size w3 wx → GAsk wx A n c g) := Lib.hid (fun wx hx => FG.out.next hx)
  have FFA : Hid (∀ wx, Below w3.heap.size w3 wx → LAsk wx A2 n2 c2 F) := Lib.hid (fun wx hx => FF.out.next hx)
  have CGA : Hid (∀ wx, Below w3.heap.size w3 wx → wx.cell? ⟨w.heap.size, 0, none⟩ = some (.slice A n c)) := Lib.hid (fun wx hx => (CG.out.next hx).at')
  clear cg
  refine wp_region_inv (Inv := VarsInv w3 w.heap.size A n c A2 n2 c2 g F s) (by kernel_rfl) ?_ ?_ ?_
  · exact ⟨undef, undef, undef, undef, undef, undef, undef, undef, undef, rfl, bel_drew1 w3, by simp, by simp, by simp, by simp, by simp, by simp, by simp, by simp, by simp, by simp, by simp⟩
  · intro L i o a w ho hLi hd hI K hK
    obtain ⟨v7, v8, v22, v23, v24, v25, v26, v27, v28, rfl, hB, h0, h1, h3, h4, h2, h5, h6, h7, h8, h78, hD⟩ := hI
    have hcg := CGA.out w hB
    have hi : i < 11 := (Array.getElem?_eq_some_iff.1 ho).1
    rcases (show i = 0 ∨ i = 1 ∨ i = 2 ∨ i = 3 ∨ i = 4 ∨ i = 5 ∨ i = 6 ∨ i = 7 ∨ i = 8 ∨ i = 9 ∨ i = 10 by omega) with rfl | rfl | rfl | rfl | rfl | rfl | rfl | rfl | rfl | rfl | rfl
    · injection ho with ho
      subst ho
      rw [if_pos (by rfl)]
      go_simp
      exact hK _ _ ⟨v7, v8, (.slice A n c), v23, v24, v25, v26, v27, v28, rfl, hB, fun _ => rfl,
        fun h => h1 (by simpa using h),
        fun h => h3 (by simpa using h),
        fun h => h4 (by simpa using h),
        fun h => h2 (by simpa using h),
        fun h h' => h5 (by simpa using h) (by simpa using h'),
        fun h => h6 (by simpa using h),
        fun h => by simpa using h7 (by simpa using h),
        fun h => by simpa using h8 (by simpa using h),
        fun h h' => h78 (by simpa using h) (by simpa using h'),
        ⟨fun h => by have := hD.1 (by simpa using h); simp [this], fun h => by have := hD.2.1 (by simpa using h); simp [this], fun h => by have := hD.2.2 (by simpa using h); simp [this]⟩⟩
    · injection ho with ho
      subst ho
      rw [if_pos (by rfl)]
      go_simp
      exact hK _ _ ⟨v7, v8, v22, (.slice A2 n2 c2), v24, v25, v26, v27, v28, rfl, hB, fun h => h0 (by simpa using h),
        fun _ => rfl,
        fun h => h3 (by simpa using h),
        fun h => h4 (by simpa using h),
        fun h => h2 (by simpa using h),
        fun h h' => h5 (by simpa using h) (by simpa using h'),
        fun h => h6 (by simpa using h),
        fun h => by simpa using h7 (by simpa using h),
        fun h => by simpa using h8 (by simpa using h),
        fun h h' => h78 (by simpa using h) (by simpa using h'),
        ⟨fun h => by have := hD.1 (by simpa using h); simp [this], fun h => by have := hD.2.1 (by simpa using h); simp [this], fun h => by have := hD.2.2 (by simpa using h); simp [this]⟩⟩
    · injection ho with ho
      subst ho
      rw [if_pos (by rfl)]
      have n9 : L 9 = false := Bool.eq_false_iff.2 fun h => by have := hD.1 h; simp [hLi] at this
      have n10 : L 10 = false := Bool.eq_false_iff.2 fun h => by have := hD.1 (hD.2.2 h); simp [hLi] at this
      have e22 := h0 (hd ⟨0, Ground.data⟩ (by simp) rfl)
      have e23 := h1 (hd ⟨1, Ground.data⟩ (by simp) rfl)
      subst e22 e23
      go_simp
      refine (mcount_any A n c A2 n2 c2 g F w (FGA.out w hB).reads RG'.out (FFA.out w hB).reads RF.out).mono ?_
      rintro e w' ⟨b, rfl, hT⟩
      have hb := hT.bel
      go_simp
      exact hK _ _ ⟨v7, v8, (.slice A n c), (.slice A2 n2 c2), _, v25, v26, v27, v28, rfl, hB.trans (hb.mono hB.size), fun _ => rfl,
        fun _ => rfl,
        fun h => h3 (by simpa using h),
        fun h => h4 (by simpa using h),
        fun _ => ⟨b, rfl, hT.early hB⟩,
        fun h h' => by obtain ⟨A5, c5, e, hr⟩ := h5 (by simpa using h) (by simpa using h'); exact ⟨A5, c5, e, hr.next hb⟩,
        fun h => by obtain ⟨b, e, hr⟩ := h6 (by simpa using h); exact ⟨b, e, hr.next hb⟩,
        fun h => by obtain ⟨b, e, hr⟩ := h7 (by simpa using h); exact ⟨b, e, by simpa [n9, n10] using hr.next hb⟩,
        fun h => by obtain ⟨b, e, hr⟩ := h8 (by simpa using h); exact ⟨b, e, by simpa [n9, n10] using hr.next hb⟩,
        fun h h' => h78 (by simpa using h) (by simpa using h'),
        ⟨fun h => by have := hD.1 (by simpa using h); simp [this], fun h => by have := hD.2.1 (by simpa using h); simp [this], fun h => by have := hD.2.2 (by simpa using h); simp [this]⟩⟩
    · injection ho with ho
      subst ho
      rw [if_pos (by rfl)]
      go_simp
      exact hK _ _ ⟨v7, v8, v22, v23, v24, (.slice A n c), v26, v27, v28, rfl, hB, fun h => h0 (by simpa using h),
        fun h => h1 (by simpa using h),
        fun _ => rfl,
        fun h => h4 (by simpa using h),
        fun h => h2 (by simpa using h),
        fun h h' => h5 (by simpa using h) (by simpa using h'),
        fun h => h6 (by simpa using h),
        fun h => by simpa using h7 (by simpa using h),
        fun h => by simpa using h8 (by simpa using h),
        fun h h' => h78 (by simpa using h) (by simpa using h'),
        ⟨fun h => by have := hD.1 (by simpa using h); simp [this], fun h => by have := hD.2.1 (by simpa using h); simp [this], fun h => by have := hD.2.2 (by simpa using h); simp [this]⟩⟩
    · injection ho with ho
      subst ho
      rw [if_pos (by rfl)]
      go_simp
      exact hK _ _ ⟨v7, v8, v22, v23, v24, v25, (.slice A n c), v27, v28, rfl, hB, fun h => h0 (by simpa using h),
        fun h => h1 (by simpa using h),
        fun h => h3 (by simpa using h),
        fun _ => rfl,
        fun h => h2 (by simpa using h),
        fun h h' => h5 (by simpa using h) (by simpa using h'),
        fun h => h6 (by simpa using h),
        fun h => by simpa using h7 (by simpa using h),
        fun h => by simpa using h8 (by simpa using h),
        fun h h' => h78 (by simpa using h) (by simpa using h'),
        ⟨fun h => by have := hD.1 (by simpa using h); simp [this], fun h => by have := hD.2.1 (by simpa using h); simp [this], fun h => by have := hD.2.2 (by simpa using h); simp [this]⟩⟩
    · injection ho with ho
      subst ho
      rw [if_pos (by rfl)]
      have n9 : L 9 = false := Bool.eq_false_iff.2 fun h => by have := hD.1 h; simp [hLi] at this
      have n10 : L 10 = false := Bool.eq_false_iff.2 fun h => by have := hD.1 (hD.2.2 h); simp [hLi] at this
      have e26 := h4 (hd ⟨4, Ground.data⟩ (by simp) rfl)
      subst e26
      go_simp
      refine (under_any A n c g 0 w (FGA.out w hB) (by unfold I64; omega)).mono ?_
      rintro e w' ⟨⟨A5, c5, rfl, hr5, _, _⟩, hb⟩
      go_simp
      exact hK _ _ ⟨v7, v8, v22, v23, v24, v25, (.slice A n c), _, v28, rfl, hB.trans (hb.mono hB.size), fun h => h0 (by simpa using h),
        fun h => h1 (by simpa using h),
        fun h => h3 (by simpa using h),
        fun _ => rfl,
        fun h => by obtain ⟨b, e, hr⟩ := h2 (by simpa using h); exact ⟨b, e, hr.next hb⟩,
        fun _ _ => ⟨A5, c5, rfl, hr5⟩,
        fun h => by obtain ⟨b, e, hr⟩ := h6 (by simpa using h); exact ⟨b, e, hr.next hb⟩,
        fun h => by obtain ⟨b, e, hr⟩ := h7 (by simpa using h); exact ⟨b, e, by simpa [n9, n10] using hr.next hb⟩,
        fun h => by obtain ⟨b, e, hr⟩ := h8 (by simpa using h); exact ⟨b, e, by simpa [n9, n10] using hr.next hb⟩,
        fun h h' => h78 (by simpa using h) (by simpa using h'),
        ⟨fun h => by have := hD.1 (by simpa using h); simp [this], fun h => by have := hD.2.1 (by simpa using h); simp [this], fun h => by have := hD.2.2 (by simpa using h); simp [this]⟩⟩
    · injection ho with ho
      subst ho
      rw [if_pos (by rfl)]
      have n9 : L 9 = false := Bool.eq_false_iff.2 fun h => by have := hD.1 h; simp [hLi] at this
      have n10 : L 10 = false := Bool.eq_false_iff.2 fun h => by have := hD.1 (hD.2.2 h); simp [hLi] at this
      have e25 := h3 (hd ⟨3, Ground.data⟩ (by simp) rfl)
      have l5 := (hd ⟨5, Ground.data⟩ (by simp) rfl)
      obtain ⟨A5, c5, e27, hr5⟩ := h5 l5 n9
      subst e25 e27
      go_simp
      refine (mcount_any A n c A5 _ c5 g (underL g 0) w (FGA.out w hB).reads RG'.out hr5 (by rw [show (0 : Int) = ((0 : Nat) : Int) from rfl]; exact underL_right RG'.out (rightG_is RG'.out).pos)).mono ?_
      rintro e w' ⟨b, rfl, hT⟩
      have hb := hT.bel
      go_simp
      exact hK _ _ ⟨v7, v8, v22, v23, v24, (.slice A n c), v26, _, _, rfl, hB.trans (hb.mono hB.size), fun h => h0 (by simpa using h),
        fun h => h1 (by simpa using h),
        fun _ => rfl,
        fun h => h4 (by simpa using h),
        fun h => by obtain ⟨b, e, hr⟩ := h2 (by simpa using h); exact ⟨b, e, hr.next hb⟩,
        fun h h' => ⟨A5, c5, rfl, hr5.next hb⟩,
        fun _ => ⟨b, rfl, hT.early hB⟩,
        fun h => by obtain ⟨b, e, hr⟩ := h7 (by simpa using h); exact ⟨b, e, by simpa [n9, n10] using hr.next hb⟩,
        fun h => by obtain ⟨b, e, hr⟩ := h8 (by simpa using h); exact ⟨b, e, by simpa [n9, n10] using hr.next hb⟩,
        fun h h' => h78 (by simpa using h) (by simpa using h'),
        ⟨fun h => by have := hD.1 (by simpa using h); simp [this], fun _ => by simp [l5], fun h => by have := hD.2.2 (by simpa using h); simp [this]⟩⟩
    · injection ho with ho
      subst ho
      rw [if_pos (by rfl)]
      have n9 : L 9 = false := Bool.eq_false_iff.2 fun h => by have := hD.1 h; simp [hLi] at this
      have n10 : L 10 = false := Bool.eq_false_iff.2 fun h => by have := hD.1 (hD.2.2 h); simp [hLi] at this
      have hb : Below w.heap.size w (w.alloc (.cells #[.slice none 0 0] 81)) := (Below.refl _ _).alloc (Nat.le_refl _) _
      go_simp
      exact hK _ _ ⟨_, v8, v22, v23, v24, v25, v26, v27, v28, rfl, hB.trans (hb.mono hB.size), fun h => h0 (by simpa using h),
        fun h => h1 (by simpa using h),
        fun h => h3 (by simpa using h),
        fun h => h4 (by simpa using h),
        fun h => by obtain ⟨b, e, hr⟩ := h2 (by simpa using h); exact ⟨b, e, hr.next hb⟩,
        fun h h' => by obtain ⟨A5, c5, e, hr⟩ := h5 (by simpa using h) (by simpa using h'); exact ⟨A5, c5, e, hr.next hb⟩,
        fun h => by obtain ⟨b, e, hr⟩ := h6 (by simpa using h); exact ⟨b, e, hr.next hb⟩,
        fun h => ⟨_, rfl, (by rw [if_neg (by simp [n9])]; exact Box1.made hB.size _)⟩,
        fun h => by obtain ⟨b, e, hr⟩ := h8 (by simpa using h); exact ⟨b, e, by simpa [n9, n10] using hr.next hb⟩,
        fun _ h' e => by obtain ⟨b, e2, hr⟩ := h8 (by simpa using h'); rw [e2] at e; injection e with e; injection e with e; injection e with e; have := hr.lt; omega,
        ⟨fun h => by have := hD.1 (by simpa using h); simp [this], fun h => by have := hD.2.1 (by simpa using h); simp [this], fun h => by have := hD.2.2 (by simpa using h); simp [this]⟩⟩
    · injection ho with ho
      subst ho
      rw [if_pos (by rfl)]
      have n9 : L 9 = false := Bool.eq_false_iff.2 fun h => by have := hD.1 h; simp [hLi] at this
      have n10 : L 10 = false := Bool.eq_false_iff.2 fun h => by have := hD.1 (hD.2.2 h); simp [hLi] at this
      have hb : Below w.heap.size w (w.alloc (.cells #[.slice none 0 0] 81)) := (Below.refl _ _).alloc (Nat.le_refl _) _
      go_simp
      exact hK _ _ ⟨v7, _, v22, v23, v24, v25, v26, v27, v28, rfl, hB.trans (hb.mono hB.size), fun h => h0 (by simpa using h),
        fun h => h1 (by simpa using h),
        fun h => h3 (by simpa using h),
        fun h => h4 (by simpa using h),
        fun h => by obtain ⟨b, e, hr⟩ := h2 (by simpa using h); exact ⟨b, e, hr.next hb⟩,
        fun h h' => by obtain ⟨A5, c5, e, hr⟩ := h5 (by simpa using h) (by simpa using h'); exact ⟨A5, c5, e, hr.next hb⟩,
        fun h => by obtain ⟨b, e, hr⟩ := h6 (by simpa using h); exact ⟨b, e, hr.next hb⟩,
        fun h => by obtain ⟨b, e, hr⟩ := h7 (by simpa using h); exact ⟨b, e, by simpa [n9, n10] using hr.next hb⟩,
        fun h => ⟨_, rfl, (by rw [if_neg (by simp [n10])]; exact Box1.made hB.size _)⟩,
        fun h' _ e => by obtain ⟨b, e2, hr⟩ := h7 (by simpa using h'); rw [e2] at e; injection e with e; injection e with e; injection e with e; have := hr.lt; omega,
        ⟨fun h => by have := hD.1 (by simpa using h); simp [this], fun h => by have := hD.2.1 (by simpa using h); simp [this], fun h => by have := hD.2.2 (by simpa using h); simp [this]⟩⟩
    · injection ho with ho
      subst ho
      rw [if_pos (by rfl)]
      have l2 := hd ⟨2, Ground.data⟩ (by simp) rfl
      have l6 := hd ⟨6, Ground.chain⟩ (by simp) rfl
      have l7 := hd ⟨7, Ground.data⟩ (by simp) rfl
      have l8 := hd ⟨8, Ground.phase⟩ (by simp) rfl
      have l5 := hD.2.1 l6
      have n10 : L 10 = false := Bool.eq_false_iff.2 fun h => by have := hD.2.2 h; simp [hLi] at this
      obtain ⟨b7, rfl, x7⟩ := h7 l7
      obtain ⟨b8, rfl, x8⟩ := h8 l8
      obtain ⟨hb, rfl, t2⟩ := h2 l2
      obtain ⟨ub, rfl, t6⟩ := h6 l6
      have hne : b7 ≠ b8 := fun e => h78 l7 l8 (by rw [e])
      rw [if_neg (by rw [hLi]; simp)] at x7
      rw [if_neg (by rw [n10]; simp)] at x8
      have hc := x7.cell
      have hz := x7.frozen
      go_simp
      exact hK _ _ ⟨_, _, v22, v23, _, v25, v26, v27, _, rfl, hB.setCell (p := ⟨b7, 0, none⟩) x7.new _, fun h => h0 (by simpa using h),
        fun h => h1 (by simpa using h),
        fun h => h3 (by simpa using h),
        fun h => h4 (by simpa using h),
        fun _ => ⟨hb, rfl, t2.other x7 _⟩,
        fun _ h' => by simp at h',
        fun _ => ⟨ub, rfl, t6.other x7 _⟩,
        fun _ => ⟨b7, rfl, by rw [if_pos (by simp)]; exact x7.set _⟩,
        fun _ => ⟨b8, rfl, by rw [if_neg (by simp [n10])]; exact x8.other hne _⟩,
        fun h h' => h78 (by simpa using h) (by simpa using h'),
        ⟨fun _ => by simp [l2, l5, l6, l7, l8], fun h => by simp [l5], fun h => by simp⟩⟩
    · injection ho with ho
      subst ho
      rw [if_pos (by rfl)]
      have l2 := hd ⟨2, Ground.phase⟩ (by simp) rfl
      have l6 := hd ⟨6, Ground.data⟩ (by simp) rfl
      have l7 := hd ⟨7, Ground.phase⟩ (by simp) rfl
      have l8 := hd ⟨8, Ground.data⟩ (by simp) rfl
      have l9 := hd ⟨9, Ground.chain⟩ (by simp) rfl
      obtain ⟨b7, rfl, x7⟩ := h7 l7
      obtain ⟨b8, rfl, x8⟩ := h8 l8
      obtain ⟨hb, rfl, t2⟩ := h2 l2
      obtain ⟨ub, rfl, t6⟩ := h6 l6
      have hne : b8 ≠ b7 := fun e => h78 l7 l8 (by rw [e])
      rw [if_pos l9] at x7
      rw [if_neg (by rw [hLi]; simp)] at x8
      have hc := x8.cell
      have hz := x8.frozen
      go_simp
      exact hK _ _ ⟨_, _, v22, v23, _, v25, v26, v27, _, rfl, hB.setCell (p := ⟨b8, 0, none⟩) x8.new _, fun h => h0 (by simpa using h),
        fun h => h1 (by simpa using h),
        fun h => h3 (by simpa using h),
        fun h => h4 (by simpa using h),
        fun _ => ⟨hb, rfl, t2.other x8 _⟩,
        fun _ h' => by simp [l9] at h',
        fun _ => ⟨ub, rfl, t6.other x8 _⟩,
        fun _ => ⟨b7, rfl, by rw [if_pos (by simp [l9])]; exact x7.other hne _⟩,
        fun _ => ⟨b8, rfl, by rw [if_pos (by simp)]; exact x8.set _⟩,
        fun h h' => h78 (by simpa using h) (by simpa using h'),
        ⟨fun _ => by have := hD.1 l9; simp [this], fun h => by have := hD.1 l9; simp [this], fun h => by simp [l9]⟩⟩
  · intro L a wx hall hI
    obtain ⟨v7, v8, v22, v23, v24, v25, v26, v27, v28, rfl, hB, h0, h1, h3, h4, h2, h5, h6, h7, h8, h78, hD⟩ := hI
    have l0 : L 0 = true := by
      cases h : L 0 with
      | true => rfl
      | false =>
        obtain ⟨e, he, hbnd, hf⟩ := hall 0 _ rfl h
        clear hbnd
        exfalso
        revert hf
        revert he
        revert e
        simp
    have l1 : L 1 = true := by
      cases h : L 1 with
      | true => rfl
      | false =>
        obtain ⟨e, he, hbnd, hf⟩ := hall 1 _ rfl h
        clear hbnd
        exfalso
        revert hf
        revert he
        revert e
        simp
    have l3 : L 3 = true := by
      cases h : L 3 with
      | true => rfl
      | false =>
        obtain ⟨e, he, hbnd, hf⟩ := hall 3 _ rfl h
        clear hbnd
        exfalso
        revert hf
        revert he
        revert e
        simp
    have l4 : L 4 = true := by
      cases h : L 4 with
      | true => rfl
      | false =>
        obtain ⟨e, he, hbnd, hf⟩ := hall 4 _ rfl h
        clear hbnd
        exfalso
        revert hf
        revert he
        revert e
        simp
    have l7 : L 7 = true := by
      cases h : L 7 with
      | true => rfl
      | false =>
        obtain ⟨e, he, hbnd, hf⟩ := hall 7 _ rfl h
        clear hbnd
        exfalso
        revert hf
        revert he
        revert e
        simp
    have l8 : L 8 = true := by
      cases h : L 8 with
      | true => rfl
      | false =>
        obtain ⟨e, he, hbnd, hf⟩ := hall 8 _ rfl h
        clear hbnd
        exfalso
        revert hf
        revert he
        revert e
        simp
    have l2 : L 2 = true := by
      cases h : L 2 with
      | true => rfl
      | false =>
        obtain ⟨e, he, hbnd, hf⟩ := hall 2 _ rfl h
        clear hbnd
        exfalso
        revert hf
        revert he
        revert e
        simp [l0, l1]
    have l5 : L 5 = true := by
      cases h : L 5 with
      | true => rfl
      | false =>
        obtain ⟨e, he, hbnd, hf⟩ := hall 5 _ rfl h
        clear hbnd
        exfalso
        revert hf
        revert he
        revert e
        simp [l4, l2]
    have l6 : L 6 = true := by
      cases h : L 6 with
      | true => rfl
      | false =>
        obtain ⟨e, he, hbnd, hf⟩ := hall 6 _ rfl h
        clear hbnd
        exfalso
        revert hf
        revert he
        revert e
        simp [l3, l5]
    have l9 : L 9 = true := by
      cases h : L 9 with
      | true => rfl
      | false =>
        obtain ⟨e, he, hbnd, hf⟩ := hall 9 _ rfl h
        clear hbnd
        exfalso
        revert hf
        revert he
        revert e
        simp [l0, l1, l2, l3, l4, l5, l6, l7, l8]
    have l10 : L 10 = true := by
      cases h : L 10 with
      | true => rfl
      | false =>
        obtain ⟨e, he, hbnd, hf⟩ := hall 10 _ rfl h
        clear hbnd
        exfalso
        revert hf
        revert he
        revert e
        simp [l0, l1, l2, l3, l4, l5, l6, l7, l8, l9]
    obtain ⟨hb, rfl, t2⟩ := h2 l2
    obtain ⟨ub, rfl, t6⟩ := h6 l6
    obtain ⟨b7, rfl, x7⟩ := h7 l7
    obtain ⟨b8, rfl, x8⟩ := h8 l8
    rw [if_pos l9] at x7
    rw [if_pos l10] at x8
    have hcg := CGA.out wx hB
    have hn256 : n ≤ 256 := by have := (rightG_is RG'.out).few; have := HG0.out.reads.len; omega
    have HC : Hid (Caps w.heap.size (w.heap.size + 1) b7 b8 hb ub A n c g s (tabT g F 256) (tabT g (underL g 0) 256) wx) := Lib.hid ⟨(FGA.out wx hB).reads, hn256, BX.out.next hB, ⟨hcg, (CG.out.next hB).lt⟩, ⟨x7.cell, x7.lt⟩, ⟨x8.cell, x8.lt⟩, ⟨fun k c hk hc => t2.cell hk hc, t2.lt.2⟩, ⟨fun k c hk hc => t6.cell hk hc, t6.lt.2⟩⟩
    have HBx := Lib.hid (HB.out.trans (hB.mono HB.out.size))
    have HGx := Lib.hid (FGA.out wx hB)
    have eg : ∀ args w, (callFunc 52 args).run Tryd.prog w = .ok (.enter 52 args) w := Go.Proofs.enters_of Tryd.func52 (by kernel_rfl) rfl
    have HEG := Lib.hid eg
    clear hall h0 h1 h3 h4 h2 h5 h6 h7 h8 h78 hD l0 l1 l2 l3 l4 l5 l6 l7 l8 l9 l10 t2 t6 x7 x8 hB eg
    go_wp2_with fail
    refine (nodes_on A n c g wx HGx.out RG'.out).mono ?_
    rintro e w4 ⟨v, w4', rfl, hb4, hon⟩
    have HB4 : Hid (Below w.heap.size w w4') := Lib.hid (HBx.out.trans (hb4.mono HBx.out.size))
    have HF : Hid (∀ x ∈ nodesL g, ∀ wz, (∀ gx, v.ownBlock = some gx → But gx w4 wz) → Calls Tryd.prog 52 (#[.int .i64 x] ++ #[.pointer (some ⟨w.heap.size, 0, none⟩), .pointer (some ⟨w.heap.size + 1, 0, none⟩), .pointer (some ⟨b7, 0, none⟩), .pointer (some ⟨b8, 0, none⟩)]) wz fun e w' => e = .returned (.bool (closeB (tabT g F 256) (tabT g (underL g 0) 256) g s x.toNat)) ∧ Below wz.heap.size wz w') := Lib.hid (by
      intro x hx wz hbut
      obtain ⟨k, hk, hk2, rfl⟩ := (mem_nodes RG'.out).1 hx
      obtain ⟨fl, hown, hbel, _⟩ := hon
      rcases hown.2 with ⟨_, h0⟩ | ⟨gx, cap, cur, hv, hge, hgx, _⟩
      · have : nodesL g = [] := List.eq_nil_of_length_eq_zero h0
        rw [this] at hx
        cases hx
      · have hB' := hbut gx (by rw [hv]; rfl)
        have hgl : gx < w4.heap.size := (Array.getElem?_eq_some_iff.1 hgx).1
        have hC4 := (HC.out.next hb4).next hbel
        have s1 := hb4.size
        have s2 := HBx.out.size
        have hw4 : Below w.heap.size w w4 := HB4.out.trans (hbel.mono HB4.out.size)
        have hbz : Below w.heap.size w wz := hw4.trans (hB'.below (by omega) hgl)
        have hrg : RG wz wz.heap.size A n g := RN.keep eth_steady (HG0.out.reads.below hbz) (fun _ _ => rfl) (fun b (hb : b < w.heap.size) => Nat.lt_of_lt_of_le hb hbz.size)
        have c1 := HC.out.cg.2
        have c2 := HC.out.spec.lt
        have c3 := HC.out.ch.2
        have c4 := HC.out.ca.2
        have c5 := HC.out.have'.2
        have c6 := HC.out.all.2
        exact close_any (hC4.but hB' hrg ⟨by omega, by omega, by omega, by omega, by omega, by omega⟩) (by rw [← HG0.out.reads.len]; exact hk))
    have hfil : (nodesL g).filter (fun x => !closeB (tabT g F 256) (tabT g (underL g 0) 256) g s x.toNat) = suitL g F s := by
      rw [← nodes_suit HM.out]
      refine List.filter_congr fun x hx => ?_
      obtain ⟨k, hk, hk2, rfl⟩ := (mem_nodes RG'.out).1 hx
      unfold closeB
      rw [Bool.not_not]
      exact (suit_by RG'.out hk hk2).symm
    have hdel := deleteFunc_any 52 #[.pointer (some ⟨w.heap.size, 0, none⟩), .pointer (some ⟨w.heap.size + 1, 0, none⟩), .pointer (some ⟨b7, 0, none⟩), .pointer (some ⟨b8, 0, none⟩)] HEG.out _ v (nodesL g) w4' w4 hon HF.out
    rw [hfil] at hdel
    have HD := Lib.hid hdel
    clear hb4 hon hfil hdel hcg
    go_wp2_with fail
    refine HD.out.mono ?_
    rintro e w5 ⟨⟨A5, c5, rfl, hr5, hn5, hc5⟩, hb5⟩
    have HP : Hid (IPost (suitL g F s) w (.returned (.slice A5 (suitL g F s).length c5)) w5) := Lib.hid ⟨⟨A5, c5, rfl, hr5, hn5, hc5⟩, HB4.out.trans (hb5.mono HB4.out.size)⟩
    clear hr5 hn5 hc5 hb5
    go_wp2
    go_ret
    exact HP.out

end Go.Proofs.YtpoalgkgomljmaaDoor

namespace Go.Proofs.YtpoalgkgomljmaaDoor
open Go.RowKit

/-! most -/
def mostV (s : Sp) : Value := .agg #[.int .i64 (mostS s 0), .int .i64 (mostS s 1), .int .i64 (mostS s 2), .int .i64 (mostS s 3), .int .i64 (mostS s 4)]
theorem mostV_whole {s : Sp} (h : s.whole = true) : mostV s = .agg #[.int .i64 0, .int .i64 0, .int .i64 1, .int .i64 256, .int .i64 256] := by
  unfold mostV mostS
  rw [h]; rfl
theorem mostV_part {s : Sp} (h : s.whole = false) : mostV s = .agg #[.int .i64 0, .int .i64 0, .int .i64 0, .int .i64 s.cores, .int .i64 s.gpus] := by
  unfold mostV mostS
  rw [h]; rfl
set_option maxRecDepth 100000 in
set_option maxHeartbeats 2000000 in
theorem most_true (n c gp : Int) (t : ByteArray) (lo pr : Int) (w : World) :
    Calls Tryd.prog 55 #[.agg #[.int .i64 n, .int .i64 c, .int .i64 gp, .string t, .bool true, .int .i64 lo, .int .i64 pr]] w fun e w' => e = .returned (.agg #[.int .i64 0, .int .i64 0, .int .i64 1, .int .i64 256, .int .i64 256]) ∧ Below w.heap.size w w' := by
  go_enter Tryd.func55, Tryd.ntmps55
  go_wp2
  refine bodyPost_ret (v := .agg #[.int .i64 0, .int .i64 0, .int .i64 1, .int .i64 256, .int .i64 256]) (by simp [results, Tryd.results55, go_sem]) rfl ⟨rfl, ?_⟩
  exact ((Below.refl _ _).alloc (Nat.le_refl _) _).alloc (by simp) _
set_option maxRecDepth 100000 in
set_option maxHeartbeats 2000000 in
theorem most_false (n c gp : Int) (t : ByteArray) (lo pr : Int) (w : World) :
    Calls Tryd.prog 55 #[.agg #[.int .i64 n, .int .i64 c, .int .i64 gp, .string t, .bool false, .int .i64 lo, .int .i64 pr]] w fun e w' => e = .returned (.agg #[.int .i64 0, .int .i64 0, .int .i64 0, .int .i64 c, .int .i64 gp]) ∧ Below w.heap.size w w' := by
  go_enter Tryd.func55, Tryd.ntmps55
  go_wp2
  refine bodyPost_ret (v := .agg #[.int .i64 0, .int .i64 0, .int .i64 0, .int .i64 c, .int .i64 gp]) (by simp [results, Tryd.results55, go_sem]) rfl ⟨rfl, ?_⟩
  exact ((Below.refl _ _).alloc (Nat.le_refl _) _).alloc (by simp) _
theorem most_any (s : Sp) (w : World) :
    Calls Tryd.prog 55 #[.agg #[.int .i64 s.nodes, .int .i64 s.cores, .int .i64 s.gpus, .string s.tag, .bool s.whole, .int .i64 s.long, .int .i64 s.prio]] w fun e w' => e = .returned (mostV s) ∧ Below w.heap.size w w' := by
  cases hw : s.whole with
  | true => rw [mostV_whole hw]; exact most_true _ _ _ _ _ _ w
  | false => rw [mostV_part hw]; exact most_false _ _ _ _ _ _ w

/-! a table, and beside it a row that grows -/
structure TakeR (w0 : World) (hb n : Nat) (T : Nat → Nat → Int) (v : Value) (xs : List Int) (wr : World) : Prop where
  tab : Tab w0 hb n T wr
  row : wr.ownsRow (hb + 1) 3 1 v xs.length (xs.map (Value.int .i64))
section
variable {w0 wr w1 : World} {hb n k c : Nat} {T T' : Nat → Nat → Int} {v : Value} {xs : List Int}
theorem TakeR.next (h : TakeR w0 hb n T v xs wr) (hb' : Below wr.heap.size wr w1) : TakeR w0 hb n T v xs w1 := by
  refine ⟨h.tab.next hb', h.row.1, h.row.2.imp id ?_⟩
  rintro ⟨g', cap, cur, e1, e2, e3, e4⟩
  exact ⟨g', cap, cur, e1, e2, (hb'.block g' (Array.getElem?_eq_some_iff.1 e3).1).trans e3, e4⟩
theorem TakeR.ext (h : TakeR w0 hb n T v xs wr) (he : ∀ k c, k < n → c < 5 → T k c = T' k c) : TakeR w0 hb n T' v xs wr := ⟨h.tab.ext he, h.row⟩
theorem TakeR.set (h : TakeR w0 hb n T v xs wr) (hc : c < 5) (k : Nat) (x : Int) : TakeR w0 hb n (upT T k c x) v xs (wr.setCell ⟨hb, k * 5 + c, none⟩ (.int .i64 x)) := by
  refine ⟨h.tab.set hc k x, h.row.1, h.row.2.imp id ?_⟩
  rintro ⟨g', cap, cur, e1, e2, e3, e4⟩
  exact ⟨g', cap, cur, e1, e2, (heap_setCell_other wr _ _ _ (by show g' ≠ hb; omega)).trans e3, e4⟩
theorem TakeR.start (h : Tab w0 hb n T wr) : TakeR w0 hb n T (.slice none 0 0) [] wr := ⟨h, by simpa using World.ownsRow_nil wr (hb + 1) 3 1⟩
theorem TakeR.post (h : TakeR w0 hb n T v xs wr) : IPost xs w0 (.returned v) wr := ipost_own h.row h.tab.bel
set_option maxRecDepth 100000 in
/-- 'l = append(l, x)' -/
theorem wpList_append_TR {ops : Array Oper} {rest : List Oper} {o : Oper} {a : Act} {Q : Exit → Act → World → Prop} (hgd : o.guard = none) (s x : Operand)
    (ho : o.op = .call { callee := .builtin .append, args := #[s, x], argTypes := #[23, 23] })
    (h : TakeR w0 hb n T v xs wr) (hs : a.eval s = v) (x0 : Int) (hx : a.eval x = .slice (some ⟨wr.heap.size, 0, none⟩) 1 1) (hl : xs.length ≤ 1000)
    (hk : ∀ v' w', TakeR w0 hb n T v' (xs ++ [x0]) w' → wpList Tryd.prog ops Q rest (a.put o.dst v') w') : wpList Tryd.prog ops Q (o :: rest) a (wr.alloc (.cells #[.int .i64 x0] 3)) := by
  obtain ⟨i0, hi0, hz0, hz1, hz2⟩ := info_parts int_info
  have hlt := h.tab.lt
  refine wpList_append_own (wr.alloc (.cells #[.int .i64 x0] 3)) hgd s x 23 ho (hb + 1) 3 i0 (.int .i64 0) 1 8 Tryd.underlying23 hi0 hz0 hz1 hz2 rfl (by decide) v xs.length (xs.map (Value.int .i64)) hs (h.row.alloc _) ⟨wr.heap.size, 0, none⟩ 1 1 [.int .i64 x0] hx rfl
    (World.news_of_block (cs := #[.int .i64 x0]) (t := 3) (fr := (0, 0)) (heap_alloc_new wr _)) (by intro u hu; simp at hu; subst hu; rfl) (by unfold maxLen; omega) (by omega) (by simp; omega) fun v' w' h1 h2 _ => hk v' w' ?_
  have hkeep : w'.heap[hb]? = wr.heap[hb]? := by
    refine (h2.block hb (by simp; omega) (fun e => ?_)).trans (heap_alloc_old _ _ hlt.2)
    have := (h.row.lt hb e.symm).1
    omega
  refine ⟨⟨⟨h.tab.own.1, h.tab.own.2.imp id ?_⟩, (h.tab.bel.alloc h.tab.bel.size _).grown h2 (by have := h.tab.bel.size; simp; omega) (fun j hj => by have := (h.row.lt j hj).1; omega)⟩, by rw [List.length_append, List.map_append]; exact h1⟩
  rintro ⟨g', cap, cur, e1, e2, e3, e4⟩
  have eg : hb = g' := by
    injection e1 with e1 _ _
    injection e1 with e1
    injection e1
  subst eg
  exact ⟨hb, cap, cur, e1, e2, hkeep.trans e3, e4⟩
/-- a row of the table is stored whole -/
theorem Tab.row (h : Tab w0 hb n T wr) (k : Nat) (a0 a1 a2 a3 a4 : Int) :
    Tab w0 hb n (fun k' c' => if k' = k then (if c' = 0 then a0 else if c' = 1 then a1 else if c' = 2 then a2 else if c' = 3 then a3 else a4) else T k' c')
      (((((wr.setCell ⟨hb, k * 5, none⟩ (.int .i64 a0)).setCell ⟨hb, k * 5 + 1, none⟩ (.int .i64 a1)).setCell ⟨hb, k * 5 + 2, none⟩ (.int .i64 a2)).setCell ⟨hb, k * 5 + 3, none⟩ (.int .i64 a3)).setCell ⟨hb, k * 5 + 4, none⟩ (.int .i64 a4)) := by
  refine (((((h.set (c := 0) (by omega) k a0).set (c := 1) (by omega) k a1).set (c := 2) (by omega) k a2).set (c := 3) (by omega) k a3).set (c := 4) (by omega) k a4).ext fun k' c' _ hc' => ?_
  unfold upT
  by_cases hk : k' = k
  · rw [if_pos hk]
    rcases (show c' = 0 ∨ c' = 1 ∨ c' = 2 ∨ c' = 3 ∨ c' = 4 by omega) with h | h | h | h | h <;> simp [hk, h]
  · simp [hk]
end

end Go.Proofs.YtpoalgkgomljmaaDoor
