/- The statement GraphNodes, as a walk over the contracts: of any list of things the call returns true. -/
import Derived.Test.YtokjinihdanhbaaGraphAwake
import Derived.Test.YtokjinihdanhbaaGraphLaws
import Derived.Test.YtokjinihdanhbaaGraphArr
import Derived.Deep.RegionHeld3
import Derived.Deep.QuietTactic
import Derived.BigQuiet
import Derived.IntWalk
namespace Go.Proofs.Ytokjinihdanhbaa
open Go.RowKit

set_option maxRecDepth 100000 in
set_option maxHeartbeats 4000000 in
theorem graphNodes_long (H : GraphOk) (A : Option Addr) (n c : Nat) (w : World) (h60 : 60 < n) (hn : n ≤ maxLen) (hG : Glob w) :
    Calls Try.prog 5 #[.slice A n c] w fun e w' => e = .returned (.bool true) ∧ Below w.heap.size w w' := by
  unfold maxLen at hn
  have HG := Lib.hid hG
  clear hG
  go_enter Try.func5, Try.ntmps5
  go_wp2_with fail
  refine (graphAwake_any H _ HG.out).mono ?_
  rintro e w1 ⟨rfl, hb1⟩
  have HB1 := Lib.hid hb1
  clear hb1
  go_wp2
  go_ret
  exact ⟨rfl, HB1.out⟩
set_option maxRecDepth 100000 in
set_option maxHeartbeats 4000000 in
theorem graphNodes_none (H : GraphOk) (A : Option Addr) (n c : Nat) (g : Gr) (w : World) (hg : GAsk w A n c g) (h60 : n ≤ 60) (hG : Glob w) (hr : rightG g = false) :
    Calls Try.prog 5 #[.slice A n c] w fun e w' => e = .returned (.bool true) ∧ Below w.heap.size w w' := by
  have FG := Lib.hid hg
  have HG := Lib.hid hG
  have HR := Lib.hid hr
  have HB := Lib.hid (Below.refl w.heap.size w)
  have h60d : decide (60 < (n : Int)) = false := by simp; omega
  clear hg hG hr
  go_enter Try.func5, Try.ntmps5
  go_wp2_with fail
  refine (graphAwake_any H _ HG.out).mono ?_
  rintro e w1 ⟨rfl, hb1⟩
  have hBz := HB.out.size
  have HB2 := Lib.hid (HB.out.trans (hb1.mono hBz))
  clear HB hBz
  have HB := HB2
  clear HB2
  have HG2 := Lib.hid (HG.out.next hb1)
  clear HG
  have HG := HG2
  clear HG2
  have FG2 := Lib.hid (FG.out.next hb1)
  clear FG
  have FG := FG2
  clear FG2
  clear hb1
  go_wp2_with fail
  refine (calls_bool (H.right _ _ _ _ _ FG.out HG.out) HR.out).mono ?_
  rintro e w2 ⟨rfl, hb2⟩
  have hBz := HB.out.size
  have HB2 := Lib.hid (HB.out.trans (hb2.mono hBz))
  clear HB hBz
  have HB := HB2
  clear HB2
  have HG2 := Lib.hid (HG.out.next hb2)
  clear HG
  have HG := HG2
  clear HG2
  have FG2 := Lib.hid (FG.out.next hb2)
  clear FG
  have FG := FG2
  clear FG2
  clear hb2
  go_wp2
  go_ret
  exact ⟨rfl, HB.out⟩
theorem kVal_node {g : Gr} {x : Nat} (h : rightG g = true) (hx : x < g.length) (h2 : kc g (underL g (x : Int)) 2 = 1) :
    kVal g (underL g (x : Int)) = .agg #[.int .i64 (kc g (underL g (x : Int)) 0), .int .i64 (kc g (underL g (x : Int)) 1), .int .i64 1, .int .i64 (nodeK g 3 x : Nat), .int .i64 (nodeK g 4 x : Nat)] := by
  unfold kVal
  rw [h2, kc_under h hx 3, kc_under h hx 4]; rfl

set_option maxRecDepth 100000 in
set_option maxHeartbeats 4000000 in
theorem graphNodes_near (H : GraphOk) (A : Option Addr) (n c : Nat) (g : Gr) (w : World) (hg : GAsk w A n c g) (h60 : n ≤ 60) (hG : Glob w) (hr : rightG g = true) :
    Calls Try.prog 5 #[.slice A n c] w fun e w' => e = .returned (.bool true) ∧ Below w.heap.size w w' := by
  have FG := Lib.hid hg
  have HG := Lib.hid hG
  have HR := Lib.hid hr
  have HB := Lib.hid (Below.refl w.heap.size w)
  have h60d : decide (60 < (n : Int)) = false := by simp; omega
  have hall := all_kinds hr
  obtain ⟨L, hL⟩ : ∃ L, nodesL g = L := ⟨_, rfl⟩
  have HN : Hid (∀ k, k < L.length → ∃ x : Nat, L.getD k 0 = x ∧ x < g.length ∧ gk g x = 2 ∧ nodeG g x = x ∧ kc g (underL g (x : Int)) 2 = 1) := Lib.hid (fun k hk => by have := node_facts hr (i := k) (by rw [hL]; exact hk); rwa [hL] at this)
  have HSS : Hid (∀ k x : Nat, k < L.length → L.getD k 0 = x → sumK g 3 (k + 1) = sumK g 3 k + nodeK g 3 x ∧ sumK g 4 (k + 1) = sumK g 4 k + nodeK g 4 x) := Lib.hid (fun k x hk hx => ⟨sumK_succ (by rw [hL]; exact hk) (by rw [hL]; exact hx), sumK_succ (by rw [hL]; exact hk) (by rw [hL]; exact hx)⟩)
  have HS3 : Hid (∀ k, k ≤ L.length → sumK g 3 k ≤ 256) := Lib.hid (fun k hk => sumK_small hr (.inl rfl) (by rw [hL]; exact hk))
  have HS4 : Hid (∀ k, k ≤ L.length → sumK g 4 k ≤ 256) := Lib.hid (fun k hk => sumK_small hr (.inr rfl) (by rw [hL]; exact hk))
  have h3a := sumK_all hr (c := 3) (.inl rfl)
  have h4a := sumK_all hr (c := 4) (.inr rfl)
  have hl256 := nodesL_len (g := g)
  rw [hL] at h3a h4a hall hl256
  obtain ⟨a1, ha1⟩ : ∃ y, kc g (underL g 0) 1 = y := ⟨_, rfl⟩
  obtain ⟨a3, ha3⟩ : ∃ y, kc g (underL g 0) 3 = y := ⟨_, rfl⟩
  obtain ⟨a4, ha4⟩ : ∃ y, kc g (underL g 0) 4 = y := ⟨_, rfl⟩
  have hk0 : kVal g (underL g 0) = .agg #[.int .i64 1, .int .i64 a1, .int .i64 (L.length : Int), .int .i64 a3, .int .i64 a4] := by
    unfold kVal
    rw [hall.1, hall.2.1, ha1, ha3, ha4]
  rw [ha1, ha3, ha4, hall.1, hall.2.1] at hall
  rw [ha3] at h3a
  rw [ha4] at h4a
  have HK0 := Lib.hid hk0
  have HS3a := Lib.hid h3a
  have HS4a := Lib.hid h4a
  have hsum : 1 + a1 + (L.length : Int) + a3 + a4 = (n : Int) := by have := hall.2.2.1; rw [hg.reads.len] at this; exact this
  have hp1 := hall.2.2.2.1
  have hp3 := hall.2.2.2.2.2.1
  have hp4 := hall.2.2.2.2.2.2
  have HL := Lib.hid hL
  clear hL
  clear hg hG hr hk0 h3a h4a hall ha1 ha3 ha4
  go_enter Try.func5, Try.ntmps5
  go_wp2_with fail
  refine (graphAwake_any H _ HG.out).mono ?_
  rintro e w1 ⟨rfl, hb1⟩
  have hBz := HB.out.size
  have HB2 := Lib.hid (HB.out.trans (hb1.mono hBz))
  clear HB hBz
  have HB := HB2
  clear HB2
  have HG2 := Lib.hid (HG.out.next hb1)
  clear HG
  have HG := HG2
  clear HG2
  have FG2 := Lib.hid (FG.out.next hb1)
  clear FG
  have FG := FG2
  clear FG2
  clear hb1
  go_wp2_with fail
  refine (calls_bool (H.right _ _ _ _ _ FG.out HG.out) HR.out).mono ?_
  rintro e w2 ⟨rfl, hb2⟩
  have hBz := HB.out.size
  have HB2 := Lib.hid (HB.out.trans (hb2.mono hBz))
  clear HB hBz
  have HB := HB2
  clear HB2
  have HG2 := Lib.hid (HG.out.next hb2)
  clear HG
  have HG := HG2
  clear HG2
  have FG2 := Lib.hid (FG.out.next hb2)
  clear FG
  have FG := FG2
  clear FG2
  clear hb2
  go_wp2_with fail
  refine (calls_ipost (H.nodes _ _ _ _ _ FG.out HG.out) HL.out).mono ?_
  rintro e w3 ⟨⟨A3, c3, rfl, hr3, hnil3, hc3⟩, hb3⟩
  have hBz := HB.out.size
  have HB2 := Lib.hid (HB.out.trans (hb3.mono hBz))
  clear HB hBz
  have HB := HB2
  clear HB2
  have HG2 := Lib.hid (HG.out.next hb3)
  clear HG
  have HG := HG2
  clear HG2
  have FG2 := Lib.hid (FG.out.next hb3)
  clear FG
  have FG := FG2
  clear FG2
  clear hb3
  have FN := Lib.hid hr3
  have FNc := Lib.hid hc3
  have FNz := Lib.hid hnil3
  clear hr3 hc3 hnil3
  go_wp2_with fail
  refine (H.under _ _ _ _ 0 _ FG.out (i64_small (k := 0) (by omega)) HG.out).mono ?_
  rintro e w4 ⟨⟨A4, c4, rfl, hr4, hnil4, hc4⟩, hb4⟩
  have hBz := HB.out.size
  have HB2 := Lib.hid (HB.out.trans (hb4.mono hBz))
  clear HB hBz
  have HB := HB2
  clear HB2
  have HG2 := Lib.hid (HG.out.next hb4)
  clear HG
  have HG := HG2
  clear HG2
  have FG2 := Lib.hid (FG.out.next hb4)
  clear FG
  have FG := FG2
  clear FG2
  have FN2 := Lib.hid (FN.out.next hb4)
  clear FN
  have FN := FN2
  clear FN2
  clear hb4
  have F1 := Lib.hid hr4
  have F1c := Lib.hid hc4
  have F1z := Lib.hid hnil4
  clear hr4 hc4 hnil4
  go_wp2_with fail
  refine (calls_kinds (H.kinds _ _ _ _ _ _ _ _ _ FG.out ⟨F1.out, F1z.out, F1c.out, Nat.le_trans (underL_len _) (by omega), underL_i64 _⟩ HG.out) HK0.out).mono ?_
  rintro e w5 ⟨rfl, hb5⟩
  have hBz := HB.out.size
  have HB2 := Lib.hid (HB.out.trans (hb5.mono hBz))
  clear HB hBz
  have HB := HB2
  clear HB2
  have HG2 := Lib.hid (HG.out.next hb5)
  clear HG
  have HG := HG2
  clear HG2
  have FG2 := Lib.hid (FG.out.next hb5)
  clear FG
  have FG := FG2
  clear FG2
  have FN2 := Lib.hid (FN.out.next hb5)
  clear FN
  have FN := FN2
  clear FN2
  have F12 := Lib.hid (F1.out.next hb5)
  clear F1
  have F1 := F12
  clear F12
  clear hb5
  clear F1
  clear F1c F1z
  have HARR := Lib.hid (arr5_put w5 1 a1 (L.length : Int) a3 a4)
  have HB0 := HB
  clear HB
  go_wp2
  go_loopw [5, 6, 7] (fun s3 s4 i wr => ∃ k : Nat, k ≤ L.length ∧ i = .int .i64 k ∧ s3 = .int .i64 (sumK g 3 k : Nat) ∧ s4 = .int .i64 (sumK g 4 k : Nat) ∧ Arr5 w5 1 a1 (L.length : Int) a3 a4 wr) (fun _ _ i _ => L.length - (intOf i).toNat)
  case atStart => exact ⟨0, Nat.zero_le _, rfl, rfl, rfl, HARR.out⟩
  case round =>
    obtain ⟨k, hk, rfl, rfl, rfl, hrel⟩ := hrel
    have HA := Lib.hid hrel
    have FGr := Lib.hid (FG.out.next hrel.bel)
    have HGr := Lib.hid (HG.out.next hrel.bel)
    have FNr := Lib.hid (FN.out.next hrel.bel)
    clear hrel
    have g3 := HA.out.c3
    have g4 := HA.out.c4
    have s3 := HS3.out k hk
    have s4 := HS4.out k hk
    by_cases hlt : k < L.length
    · obtain ⟨x, hx1, hx2, hx3, hx4, hx5⟩ := HN.out k hlt
      have HX1 := Lib.hid hx1
      have HX3 := Lib.hid hx3
      have HX4 := Lib.hid hx4
      have hxn : x < n := by have := FGr.out.reads.len; omega
      have hx300 : x ≤ 300 := by have := FGr.out.few; omega
      have HK := Lib.hid (kVal_node HR.out hx2 hx5)
      have HN3 := Lib.hid (HSS.out k x hlt hx1)
      have hn3 := HS3.out (k + 1) hlt
      have hn4 := HS4.out (k + 1) hlt
      obtain ⟨k0, hk0⟩ : ∃ y, kc g (underL g (x : Int)) 0 = y := ⟨_, rfl⟩
      obtain ⟨k1, hk1⟩ : ∃ y, kc g (underL g (x : Int)) 1 = y := ⟨_, rfl⟩
      rw [hk0, hk1] at HK
      obtain ⟨b, off, rfl, _, hcx⟩ := FNr.out.one hlt
      rw [hx1] at hcx
      clear hx1 hx2 hx3 hx4 hx5 hk0 hk1
      have HB := Lib.hid (Below.refl wr.heap.size wr)
      go_wp2_with fail
      refine (H.under _ _ _ _ (x : Int) _ FGr.out (i64_small hx300) HGr.out).mono ?_
      rintro e w1 ⟨⟨A1, c1, rfl, hr1, hnil1, hc1⟩, hb1⟩
      have hBz := HB.out.size
      have HB2 := Lib.hid (HB.out.trans (hb1.mono hBz))
      clear HB hBz
      have HB := HB2
      clear HB2
      have HGr2 := Lib.hid (HGr.out.next hb1)
      clear HGr
      have HGr := HGr2
      clear HGr2
      have FGr2 := Lib.hid (FGr.out.next hb1)
      clear FGr
      have FGr := FGr2
      clear FGr2
      have FNr2 := Lib.hid (FNr.out.next hb1)
      clear FNr
      have FNr := FNr2
      clear FNr2
      clear hb1
      have F1 := Lib.hid hr1
      have F1c := Lib.hid hc1
      have F1z := Lib.hid hnil1
      clear hr1 hc1 hnil1
      go_wp2_with fail
      refine (calls_kinds (H.kinds _ _ _ _ _ _ _ _ _ FGr.out ⟨F1.out, F1z.out, F1c.out, Nat.le_trans (underL_len _) (by omega), underL_i64 _⟩ HGr.out) HK.out).mono ?_
      rintro e w2 ⟨rfl, hb2⟩
      have hBz := HB.out.size
      have HB2 := Lib.hid (HB.out.trans (hb2.mono hBz))
      clear HB hBz
      have HB := HB2
      clear HB2
      have HGr2 := Lib.hid (HGr.out.next hb2)
      clear HGr
      have HGr := HGr2
      clear HGr2
      have FGr2 := Lib.hid (FGr.out.next hb2)
      clear FGr
      have FGr := FGr2
      clear FGr2
      have FNr2 := Lib.hid (FNr.out.next hb2)
      clear FNr
      have FNr := FNr2
      clear FNr2
      have F12 := Lib.hid (F1.out.next hb2)
      clear F1
      have F1 := F12
      clear F12
      clear hb2
      clear F1
      clear F1c F1z
      have HARK := Lib.hid (arr5_put w2 k0 k1 1 (nodeK g 3 x : Int) (nodeK g 4 x : Int))
      have HA2 := Lib.hid (HA.out.next HB.out)
      have e3 := HN3.out.1
      have e4 := HN3.out.2
      obtain ⟨t3, ht3⟩ : ∃ y, sumK g 3 (k + 1) = y := ⟨_, rfl⟩
      obtain ⟨t4, ht4⟩ : ∃ y, sumK g 4 (k + 1) = y := ⟨_, rfl⟩
      rw [ht3] at e3 hn3
      rw [ht4] at e4 hn4
      have HT3 := Lib.hid ht3
      have HT4 := Lib.hid ht4
      clear ht3 ht4
      generalize sumK g 3 k = u3 at *
      generalize sumK g 4 k = u4 at *
      generalize nodeK g 3 x = v3 at *
      generalize nodeK g 4 x = v4 at *
      have hw3 : IntKind.i64.wrap ((u3 : Int) + (v3 : Int)) = (u3 : Int) + (v3 : Int) := IntWalk.i64_in _ (by omega)
      have hw4 : IntKind.i64.wrap ((u4 : Int) + (v4 : Int)) = (u4 : Int) + (v4 : Int) := IntWalk.i64_in _ (by omega)
      have k3 := HARK.out.c3
      have k4 := HARK.out.c4
      go_wp2
      go_upto_region 15 with fail
      go_cut [5, 6] (fun x5 x6 wx => x5 = .int .i64 (t3 : Nat) ∧ x6 = .int .i64 (t4 : Nat) ∧ Arr5 w2 k0 k1 1 (v3 : Int) (v4 : Int) wx)
      case first =>
        go_quiet (fail)
        go_wp2
        go_meet
        exact ⟨by rw [e3]; go_num, by rw [e4]; go_num, HARK.out.drewN _⟩
      case rest =>
        obtain ⟨rfl, rfl, hark⟩ := hcut
        clear hw3 hw4 k3 k4 HARK
        have HARK := Lib.hid hark
        have hbel := hark.bel
        have FGc := Lib.hid (FGr.out.next hbel)
        have HGc := Lib.hid (HGr.out.next hbel)
        have FNc := Lib.hid (FNr.out.next hbel)
        have HAc := Lib.hid (HA2.out.next hbel)
        clear hark hbel
        obtain ⟨b', off', e', hbl, hcx'⟩ := FNc.out.one hlt
        injection e' with e'
        injection e' with e1' e2'
        subst e1' e2'
        rw [HX1.out] at hcx'
        obtain ⟨bg, og, eg, hbg, hcg, _, _, _⟩ := FGc.out.reads.one hxn
        subst eg
        rw [HX3.out] at hcg
        have hck := HARK.out.c2
        have hlk := HARK.out.lt
        have HKEEP : Hid (∀ wx, Below wc.drew.heap.size wc.drew wx → wx.cell? ⟨b, off + k, none⟩ = some (.int .i64 (x : Int)) ∧ wx.cell? ⟨bg, og + x * 3, none⟩ = some (.int .i64 2) ∧ wx.cell? ⟨w2.heap.size, 2, none⟩ = some (.int .i64 1)) :=
          Lib.hid (fun wx hb => ⟨(hb.cell (p := ⟨b, off + k, none⟩) hbl).trans hcx', (hb.cell (p := ⟨bg, og + x * 3, none⟩) hbg).trans hcg, (hb.cell (p := ⟨w2.heap.size, 2, none⟩) hlk).trans hck⟩)
        have HND := Lib.hid (calls_int (H.node _ n c g (x : Int) wc.drew (FGc.out.next (bel_drew wc 1)) (i64_small hx300) (HGc.out.next (bel_drew wc 1))) HX4.out)
        go_wp2
        go_region_held3 (fun w' => w'.cell? ⟨b, off + k, none⟩ = some (.int .i64 (x : Int)) ∧ w'.cell? ⟨bg, og + x * 3, none⟩ = some (.int .i64 2) ∧ w'.cell? ⟨w2.heap.size, 2, none⟩ = some (.int .i64 1))
          (first | go_keep | exact HKEEP.out _ HB3.out)
          (first | (go_at_call 14; refine (HND.out).mono ?_; rintro e w3 ⟨rfl, hb3⟩; have HB3 := Lib.hid hb3; clear hb3))
        have HBC := Lib.hid (bel_und HB3.out)
        have HAe := Lib.hid (HAc.out.next HBC.out)
        clear hcx' hcg hck hcx
        go_wp2
        go_roundw
        case rel => exact ⟨k + 1, by omega, by go_num, by rw [HT3.out, e3]; go_num, by rw [HT4.out, e4]; go_num, HAe.out⟩
        case measure => simp [intOf]; omega
    · have hkl : k = L.length := by omega
      subst hkl
      have f3 := HS3a.out
      have f4 := HS4a.out
      have HBB := Lib.hid (HB0.out.trans (HA.out.bel.mono HB0.out.size))
      have q3 : (((sumK g 3 L.length : Nat) : Int) == a3) = true := by rw [f3]; simp
      have q4 : (((sumK g 4 L.length : Nat) : Int) == a4) = true := by rw [f4]; simp
      clear s3 s4 f3 f4
      go_wp2
      go_ret
      exact ⟨rfl, HBB.out⟩

theorem graphNodes_walk (H : GraphOk) (A : Option Addr) (n c : Nat) (g : Gr) (w : World) (hr : RG w w.heap.size A n g) (hnil : A = none → c = 0) (hnc : n ≤ c) (hn : n ≤ maxLen) (hG : Glob w) :
    Calls Try.prog 5 #[.slice A n c] w fun e w' => e = .returned (.bool true) ∧ Below w.heap.size w w' := by
  by_cases h60 : 60 < n
  · exact graphNodes_long H A n c w h60 hn hG
  · have hg : GAsk w A n c g := ⟨hr, hnil, hnc, by omega⟩
    have h60' : n ≤ 60 := by omega
    cases hgr : rightG g with
    | false => exact graphNodes_none H A n c g w hg h60' hG hgr
    | true => exact graphNodes_near H A n c g w hg h60' hG hgr

end Go.Proofs.Ytokjinihdanhbaa
