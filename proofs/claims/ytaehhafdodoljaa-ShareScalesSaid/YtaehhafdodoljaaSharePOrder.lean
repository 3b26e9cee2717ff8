/- The program's Order. Written by gen/gen_sharep.py. -/
import Derived.Test.YtaehhafdodoljaaSharePSort
namespace Go.Proofs.Ytaehhafdodoljaa
open Go.RowKit

set_option maxRecDepth 100000 in
set_option maxHeartbeats 8000000 in
theorem order_any (A : Option Addr) (n c : Nat) (l : List Us) (w : World) (hl : UAsk w A n c l) (hn : n ≤ 1000) : Calls Try.prog 19 #[.slice A n c] w (IPost (orderU l) w) := by
  obtain ⟨i0, hi0, hi0z0, hi0z1, hi0z2⟩ : ∃ i, Try.prog.info? 22 = some i ∧ i.zero = some (.float .f64 0) ∧ i.size = 1 ∧ i.bytes = 8 := info_parts (by kernel_rfl)
  obtain ⟨i1, hi1, hi1z0, hi1z1, hi1z2⟩ : ∃ i, Try.prog.info? 3 = some i ∧ i.zero = some (.int .i64 0) ∧ i.size = 1 ∧ i.bytes = 8 := info_parts (by kernel_rfl)
  have UA := Lib.hid hl
  have HLN := Lib.hid hl.len
  clear hl
  have q0 : (w.alloc (.cells #[.slice A n c] 33)).cell? ⟨w.heap.size, 0, none⟩ = some (.slice A n c) := (cell_of_row _ _ 0 _ _ (0, 0) (heap_alloc_new w _)).trans rfl
  go_enter Try.func19, Try.ntmps19
  go_wp2_with (at_make; refine wpList_make_full _ rfl _ _ 23 rfl w.heap.size 22 i0 (.float .f64 0) 1 Try.underlying23 hi0 hi0z0 hi0z1 .i64 .i64 _ _ n rfl rfl rfl rfl (by rw [hi0z2]; omega) (by unfold maxLen; omega) (by simp) ?_; intro w2 hown hgrow; refine Hid.out ?_)
  refine Lib.hid ?_
  have HB2 : Hid (Below (w.alloc (.cells #[.slice A n c] 33)).heap.size (w.alloc (.cells #[.slice A n c] 33)) w2) := Lib.hid ((Below.refl _ _).grown hgrow (by simp) (fun k hk => by cases hk))
  have zs : (w.alloc (.cells #[.slice A n c] 33)).heap.size = w.heap.size + 1 := by simp
  rw [zs] at hown
  have H1 := Lib.hid hown
  clear hown hgrow zs
  have q2 : (w2.alloc (.cells #[.slice (some ⟨w.heap.size + 1, 0, none⟩) n n] 23)).cell? ⟨w.heap.size, 0, none⟩ = some (.slice A n c) := keep_cell (by simp) q0 (HB2.out.trans ((Below.refl _ _).alloc HB2.out.size _))
  go_wp2_with (at_make; refine wpList_make_full _ rfl _ _ 35 rfl w.heap.size 3 i1 (.int .i64 0) 1 Try.underlying35 hi1 hi1z0 hi1z1 .i64 .i64 _ _ n rfl rfl rfl rfl (by rw [hi1z2]; omega) (by unfold maxLen; omega) (by have := HB2.out.size; simp at this ⊢; omega) ?_; intro w4 hown hgrow; refine Hid.out ?_)
  refine Lib.hid ?_
  have HB4 : Hid (Below (w2.alloc (.cells #[.slice (some ⟨w.heap.size + 1, 0, none⟩) n n] 23)).heap.size (w2.alloc (.cells #[.slice (some ⟨w.heap.size + 1, 0, none⟩) n n] 23)) w4) := Lib.hid ((Below.refl _ _).grown hgrow (by simp) (fun k hk => by cases hk))
  have zs : (w2.alloc (.cells #[.slice (some ⟨w.heap.size + 1, 0, none⟩) n n] 23)).heap.size = w2.heap.size + 1 := by simp
  rw [zs] at hown
  have HST : Hid (OrdSt w A n c l w.heap.size (w.heap.size + 1) w2.heap.size (w2.heap.size + 1) 0 (fun _ => .float .f64 0) (fun _ => .int .i64 0) w4) := Lib.hid (OrdSt.first H1.out (by simpa using HB2.out) rfl hown (by simpa using HB4.out) rfl)
  clear hown hgrow zs HB4 HB2 H1 q0 q2
  have q4 := HST.out.c0
  go_wp2
  clear q4
  go_loopw [15] (fun iv wr => ∃ (k : Nat) (V U : Nat → Value), k ≤ n ∧ iv = .int .i64 k ∧ OrdSt w A n c l w.heap.size (w.heap.size + 1) w2.heap.size (w2.heap.size + 1) k V U wr) (fun iv _ => n - (intOf iv).toNat)
  case atStart => exact ⟨0, _, _, Nat.zero_le _, rfl, HST.out⟩
  case round =>
    obtain ⟨k, V, U, hk, rfl, hst⟩ := hrel
    have OS := Lib.hid hst
    clear hst
    by_cases hlt : k < n
    · have UB := Lib.hid (UA.out.next OS.out.below)
      obtain ⟨b, off, hA, hbl, ⟨e0, e1, e2⟩, hu⟩ := UB.out.one hlt
      subst hA
      have ST := Lib.hid (fun W5 (h : Below wr.heap.size wr W5) => (OS.out.next h).step hlt)
      obtain ⟨u, eu⟩ : ∃ u, l.getD k us0 = u := ⟨_, rfl⟩
      rw [eu] at e0 e1 e2 hu ST
      have HU := Lib.hid hu
      clear eu hu
      have hb0 : Below wr.heap.size wr (wr.alloc (.cells #[.int .i64 u.who, .float .f64 u.had, .float .f64 u.weight] 25)) := (Below.refl _ _).alloc (Nat.le_refl _) _
      have BU : Hid (BoxU (wr.alloc (.cells #[.int .i64 u.who, .float .f64 u.had, .float .f64 u.weight] 25)) wr.heap.size u) := Lib.hid (boxU_new wr u)
      have HB := Lib.hid hb0
      have OT := Lib.hid (OS.out.next hb0)
      have q1 := OT.out.c1
      have q5 := BU.out.c0
      have q6 := BU.out.c1
      have q7 := BU.out.c2
      clear hb0
      have KBS : Hid (w2.heap.size < (wr.alloc (.cells #[.int .i64 u.who, .float .f64 u.had, .float .f64 u.weight] 25)).heap.size) := Lib.hid (Nat.lt_trans OT.out.ne.2.2.2.1 OT.out.ne.2.2.2.2)
      have HKEEP : Hid (∀ wx, Below (wr.alloc (.cells #[.int .i64 u.who, .float .f64 u.had, .float .f64 u.weight] 25)).drew.heap.size (wr.alloc (.cells #[.int .i64 u.who, .float .f64 u.had, .float .f64 u.weight] 25)).drew wx → wx.cell? ⟨w2.heap.size, 0, none⟩ = some (.slice (some ⟨w.heap.size + 1, 0, none⟩) n n) ∧ wx.cell? ⟨wr.heap.size, 0, none⟩ = some (.int .i64 u.who) ∧ wx.cell? ⟨wr.heap.size, 1, none⟩ = some (.float .f64 u.had) ∧ wx.cell? ⟨wr.heap.size, 2, none⟩ = some (.float .f64 u.weight)) := Lib.hid (fun wx hz' => by
        have hz := (bel_drew1 (wr.alloc (.cells #[.int .i64 u.who, .float .f64 u.had, .float .f64 u.weight] 25))).trans (hz'.mono (bel_drew1 (wr.alloc (.cells #[.int .i64 u.who, .float .f64 u.had, .float .f64 u.weight] 25))).size)
        exact ⟨keep_cell KBS.out q1 hz, keep_cell BU.out.lt q5 hz, keep_cell BU.out.lt q6 hz, keep_cell BU.out.lt q7 hz⟩)
      have HKS : Hid (∀ (wx : World) (g j : Nat) (x : Value), (g = w.heap.size + 1 ∨ g = w2.heap.size + 1) → (wx.cell? ⟨w2.heap.size, 0, none⟩ = some (.slice (some ⟨w.heap.size + 1, 0, none⟩) n n) ∧ wx.cell? ⟨wr.heap.size, 0, none⟩ = some (.int .i64 u.who) ∧ wx.cell? ⟨wr.heap.size, 1, none⟩ = some (.float .f64 u.had) ∧ wx.cell? ⟨wr.heap.size, 2, none⟩ = some (.float .f64 u.weight)) → ((wx.setCell ⟨g, j, none⟩ x).cell? ⟨w2.heap.size, 0, none⟩ = some (.slice (some ⟨w.heap.size + 1, 0, none⟩) n n) ∧ (wx.setCell ⟨g, j, none⟩ x).cell? ⟨wr.heap.size, 0, none⟩ = some (.int .i64 u.who) ∧ (wx.setCell ⟨g, j, none⟩ x).cell? ⟨wr.heap.size, 1, none⟩ = some (.float .f64 u.had) ∧ (wx.setCell ⟨g, j, none⟩ x).cell? ⟨wr.heap.size, 2, none⟩ = some (.float .f64 u.weight))) := Lib.hid (fun wx g j x hg hx => by
        have hn := OS.out.ne
        refine ⟨(World.cell?_setCell_other _ _ _ _ (by intro e; injection e with e; omega)).trans hx.1, (World.cell?_setCell_other _ _ _ _ (by intro e; injection e with e; omega)).trans hx.2.1, (World.cell?_setCell_other _ _ _ _ (by intro e; injection e with e; omega)).trans hx.2.2.1, (World.cell?_setCell_other _ _ _ _ (by intro e; injection e with e; omega)).trans hx.2.2.2⟩)
      have HD := Lib.hid (bel_drew1 (wr.alloc (.cells #[.int .i64 u.who, .float .f64 u.had, .float .f64 u.weight] 25)))
      have HSH := Lib.hid (share_any u (wr.alloc (.cells #[.int .i64 u.who, .float .f64 u.had, .float .f64 u.weight] 25)).drew HU.out)
      clear q1 q5 q6 q7
      go_wp2
      clear e0 e1 e2
      go_region_held3 (fun w' => w'.cell? ⟨w2.heap.size, 0, none⟩ = some (.slice (some ⟨w.heap.size + 1, 0, none⟩) n n) ∧ w'.cell? ⟨wr.heap.size, 0, none⟩ = some (.int .i64 u.who) ∧ w'.cell? ⟨wr.heap.size, 1, none⟩ = some (.float .f64 u.had) ∧ w'.cell? ⟨wr.heap.size, 2, none⟩ = some (.float .f64 u.weight))
        (first | exact HKEEP.out _ (Below.refl _ _) | exact HKEEP.out _ HY.out | exact HKS.out _ _ _ _ (Or.inl rfl) (HKEEP.out _ HY.out) | exact HKS.out _ _ _ _ (Or.inr rfl) (HKS.out _ _ _ _ (Or.inl rfl) (HKEEP.out _ HY.out)) | go_keep | fail)
        (first | (go_at_call 16; (with_reducible refine HSH.out.mono ?_); rintro e w5 ⟨rfl, hb⟩; have HY := Lib.hid hb; clear hb; have OX := Lib.hid (OT.out.next (HD.out.trans (HY.out.mono HD.out.size))); have s1 := OX.out.fl.cell hlt; have s2 := OX.out.fl.frozen (k := k); have OY := Lib.hid (OX.out.it.other (g' := w.heap.size + 1) (by have := OS.out.ne; omega) (by omega) k (.float .f64 (shareU u))); have s3 := OY.out.cell hlt; have s4 := OY.out.frozen (k := k)) | fail)
      have HNX := Lib.hid (ST.out w5 (HB.out.trans ((HD.out.trans (HY.out.mono HD.out.size)).mono HB.out.size)))
      clear s1 s2 s3 s4
      go_wp2
      go_roundw
      case rel =>
        obtain ⟨V', U', h'⟩ := HNX.out
        exact ⟨k + 1, V', U', by omega, by go_num, h'⟩
      case measure => simp [intOf] <;> omega
    · obtain rfl : n = k := by omega
      have HCON := Lib.hid (sort_places A n c l w.heap.size (w.heap.size + 1) w2.heap.size (w2.heap.size + 1) V U w wr UA.out OS.out hn)
      go_wp2_with fail
      refine HCON.out.mono ?_
      rintro e w7 ⟨rfl, hb, hr⟩
      have HB7 := Lib.hid hb
      have HR7 := Lib.hid hr
      clear hb hr
      go_wp2
      go_ret
      exact ipost_mk HR7.out (fun h => by cases h) (Nat.le_refl _) HB7.out

end Go.Proofs.Ytaehhafdodoljaa
