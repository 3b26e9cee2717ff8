/- The program's closure that orders two places. Written by gen/gen_sharep.py. -/
import Derived.Test.YtaehhafdodoljaaSharePCmp
namespace Go.Proofs.Ytaehhafdodoljaa
open Go.RowKit Go.Sort

set_option maxRecDepth 100000 in
set_option maxHeartbeats 8000000 in
theorem order1_any (b off n c gs bs bl a d : Nat) (l : List Us) (W : World) (ha : a < n) (hd : d < n) (hu : UAsk W (some ⟨b, off, none⟩) n c l) (kbs : bs < W.heap.size) (kbl : bl < W.heap.size) (kgs : gs < W.heap.size)
    (hs : W.cell? ⟨bs, 0, none⟩ = some (.slice (some ⟨gs, 0, none⟩) n n)) (hl : W.cell? ⟨bl, 0, none⟩ = some (.slice (some ⟨b, off, none⟩) n c))
    (hx : ∀ k, k < n → W.cell? ⟨gs, k, none⟩ = some (.float .f64 (shareU (l.getD k us0)))) :
    Calls Try.prog 29 #[.int .i64 a, .int .i64 d, .pointer (some ⟨bs, 0, none⟩), .pointer (some ⟨bl, 0, none⟩)] W fun e w' => e = .returned (.int .i64 (cmpU l a d)) ∧ ∃ q os', w' = grow (W.drewN q) os' := by
  have ha4 := hx a ha
  have hd4 := hx d hd
  obtain ⟨b1, off1, he1, hbl, ⟨e0, -, -⟩, -⟩ := hu.one ha
  obtain ⟨b2, off2, he2, -, ⟨f0, -, -⟩, -⟩ := hu.one hd
  injection he1 with he1
  injection he1 with hb1 ho1 _
  injection he2 with he2
  injection he2 with hb2 ho2 _
  subst hb1 ho1 hb2 ho2
  have hcm : cmpU l a d = orL [zcmp (shareU (l.getD a us0) : Nat) (shareU (l.getD d us0) : Nat), zcmp (l.getD a us0).who (l.getD d us0).who, zcmp a d] := rfl
  rw [hcm]
  have hxa := shareU_le (l.getD a us0)
  have hxd := shareU_le (l.getD d us0)
  have HMX := hu.few
  unfold maxLen at HMX
  generalize shareU (l.getD a us0) = x at *
  generalize shareU (l.getD d us0) = y at *
  generalize (l.getD a us0).who = p at *
  generalize (l.getD d us0).who = q at *
  have H64 := Lib.hid (fun X => cmpf_any x y X hxa hxd)
  have HPA := Lib.hid (fun X => cmpi_any p q X)
  have HAD := Lib.hid (fun X => cmpi_any (a : Int) (d : Int) X)
  obtain ⟨u, hu1⟩ : ∃ u, zcmp (x : Int) (y : Int) = u := ⟨_, rfl⟩
  obtain ⟨v, hv1⟩ : ∃ v, zcmp p q = v := ⟨_, rfl⟩
  obtain ⟨t, ht1⟩ : ∃ t, zcmp (a : Int) (d : Int) = t := ⟨_, rfl⟩
  rw [hu1] at H64 ⊢
  rw [hv1] at HPA ⊢
  rw [ht1] at HAD ⊢
  have HKEEP : Hid (∀ wx, Below W.drew.heap.size W.drew wx → wx.cell? ⟨bs, 0, none⟩ = some (.slice (some ⟨gs, 0, none⟩) n n) ∧ wx.cell? ⟨bl, 0, none⟩ = some (.slice (some ⟨b, off, none⟩) n c) ∧ wx.cell? ⟨gs, a, none⟩ = some (.float .f64 x) ∧ wx.cell? ⟨gs, d, none⟩ = some (.float .f64 y) ∧ wx.cell? ⟨b, off + a * 3, none⟩ = some (.int .i64 p) ∧ wx.cell? ⟨b, off + d * 3, none⟩ = some (.int .i64 q)) := Lib.hid (fun wx hz' => by
    have hz := (bel_drew1 W).trans (hz'.mono (bel_drew1 W).size)
    exact ⟨keep_cell kbs hs hz, keep_cell kbl hl hz, keep_cell kgs ha4 hz, keep_cell kgs hd4 hz, keep_cell hbl e0 hz, keep_cell hbl f0 hz⟩)
  have HOR := Lib.hid (or_any (W.alloc (.cells #[.int .i64 u, .int .i64 v, .int .i64 t] 3)).heap.size (some ⟨W.heap.size, 0, none⟩) 3 3 [u, v, t] (W.alloc (.cells #[.int .i64 u, .int .i64 v, .int .i64 t] 3)).drew ((ri_any3 u v t W).next (bel_drew1 _)) (by decide))
  clear hu1 hv1 ht1 hcm hx hu hs hl ha4 hd4 e0 f0 kbs kbl kgs hbl hxa hxd
  obtain ⟨r, hr⟩ : ∃ r, orL [u, v, t] = r := ⟨_, rfl⟩
  rw [hr] at HOR ⊢
  clear hr
  go_enter Try.func29, Try.ntmps29
  go_wp2
  go_region_held3 (fun w' => w'.cell? ⟨bs, 0, none⟩ = some (.slice (some ⟨gs, 0, none⟩) n n) ∧ w'.cell? ⟨bl, 0, none⟩ = some (.slice (some ⟨b, off, none⟩) n c) ∧ w'.cell? ⟨gs, a, none⟩ = some (.float .f64 x) ∧ w'.cell? ⟨gs, d, none⟩ = some (.float .f64 y) ∧ w'.cell? ⟨b, off + a * 3, none⟩ = some (.int .i64 p) ∧ w'.cell? ⟨b, off + d * 3, none⟩ = some (.int .i64 q))
    (first | exact HKEEP.out _ (Below.refl _ _) | exact HKEEP.out _ ((Below.refl _ _).alloc (Nat.le_refl _) _) | go_keep | fail)
    (first | (go_at_call 31; (with_reducible refine (H64.out _).mono ?_); rintro e w1 ⟨rfl, rfl⟩) | (go_at_call 32; (with_reducible refine (HPA.out _).mono ?_); rintro e w1 ⟨rfl, rfl⟩) | (go_at_call 32; (with_reducible refine (HAD.out _).mono ?_); rintro e w1 ⟨rfl, rfl⟩) | (go_at_call 30; (with_reducible refine HOR.out.mono ?_); rintro e w1 ⟨rfl, rfl⟩) | fail)
  go_wp2
  go_ret
  exact ⟨rfl, 1, _, by rw [alloc_eq_grow]; rfl⟩

end Go.Proofs.Ytaehhafdodoljaa
