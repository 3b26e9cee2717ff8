/- The program's same of layer 13: a copy of a table in memory of its own. Written by gen/gen_slotp.py. Plain facts for a plan. No program's text is walked here. Written by gen/gen_slot.py. The program's Plan of layer 13. Written by gen/gen_slotp.py. The program's Busy, Get, Drop of layer 10. Written by gen/gen_heldpget.py. The program's Ends of layer 10. The program's functions of layer 10 keep their contracts. -/
import Derived.Test.YtpoalgkgomljmaaGreatDoorMg10
import Derived.Test.YtpoalgkgomljmaaGreatDoorMg05
import Derived.Test.YtpoalgkgomljmaaGreatDoorMg14
import Derived.Test.YtpoalgkgomljmaaGreatDoorMg07
import Derived.Test.YtpoalgkgomljmaaGreatDoorMg13
namespace Go.Proofs.YtpoalgkgomljmaaGreatDoor
open Go.RowKit

/-- of a row of holdings of one's own: one's things are stored anew -/
theorem on_set1 {t : TypeId} {w wr : World} {g n cap : Nat} {xs : Tb} (h : ON EH 4 t w (.slice (some ⟨g, 0, none⟩) n cap) xs wr) {i : Nat} {x : Hd} {v : Value} (hi : xs[i]? = some x)
    (hx : EH wr (fun b => b < wr.heap.size ∧ b ≠ g) x [.int .i64 x.id, v, .int .i64 x.frm, .int .i64 x.to]) : ON EH 4 t w (.slice (some ⟨g, 0, none⟩) n cap) xs (wr.setCell ⟨g, i * 4 + 1, none⟩ v) := by
  obtain ⟨fl, h1, h2, h3⟩ := h
  have hn : n = xs.length := by
    rcases h1.2 with ⟨e, _⟩ | ⟨g', cap', cur, e, _⟩
    · cases e
    · injection e
  subst hn
  have hil := (List.getElem?_eq_some_iff.1 hi).1
  have hgb : w.heap.size ≤ g := (h1.lt g rfl).1
  have hk : ∀ b, b ≠ g → (wr.setCell ⟨g, i * 4 + 1, none⟩ v).heap[b]? = wr.heap[b]? := fun b hb => Below.heap_setCell _ _ _ _ hb
  have hsz : (wr.setCell ⟨g, i * 4 + 1, none⟩ v).heap.size = wr.heap.size := by simp [World.setCell]
  refine ⟨_, (h1.stored (i * 4 + 1) v).1, h2.setCell (p := ⟨g, _, none⟩) hgb v, fun j y hy => ?_⟩
  by_cases hji : j = i
  · subst hji
    rw [hi] at hy
    have hy' : x = y := by simpa using hy
    subst hy'
    obtain ⟨A0, m0, c0, hv0, _⟩ := h3 j x hi
    have e : ((fl.set (j * 4 + 1) v).drop (j * 4)).take 4 = [.int .i64 x.id, v, .int .i64 x.frm, .int .i64 x.to] := by
      rw [List.drop_set, if_neg (by omega), List.take_set, hv0, show j * 4 + 1 - j * 4 = 1 by omega]
      rfl
    rw [e]
    exact eh_steady.keep hx (fun b hb => hk b hb.2) (fun b hb => ⟨by rw [hsz]; exact hb.1, fun e' => hb.2 (by have : g = b := by simpa [Value.ownBlock] using e'
                                                                                                              exact this.symm)⟩)
  · have e : ((fl.set (i * 4 + 1) v).drop (j * 4)).take 4 = (fl.drop (j * 4)).take 4 := by
      rw [List.drop_set]
      split
      · rfl
      · rw [List.take_set, List.set_eq_of_length_le (by rw [List.length_take]; omega)]
    rw [e]
    exact eh_steady.keep (h3 j y hy) (fun b hb => hk b (fun e' => hb.2 (by rw [e']; rfl))) (fun b hb => ⟨by rw [hsz]; exact hb.1, hb.2⟩)

set_option maxRecDepth 100000 in
set_option maxHeartbeats 8000000 in
theorem slotSame_any (A : Option Addr) (n c : Nat) (l : Tb) (w : World) (hr : RT w w.heap.size A n l) (hnil : A = none → c = 0) (hf : FewT l) :
    Calls Tryz.prog 36 #[.slice A n c] w fun e w' => ∃ v, e = .returned v ∧ ON EH 4 51 w v l w' := by
  have HL := Lib.hid hr.len
  have HF := Lib.hid hf
  have hn : n ≤ 100 := by rw [← hr.len]; exact hf.1
  have HC := Lib.hid (cloneH_any A n c l w hr hnil (by omega))
  clear hr hnil hf
  go_enter Tryz.func36, Tryz.ntmps36
  go_wp2_with fail
  refine HC.out.mono ?_
  rintro e w1 ⟨v, rfl, hon⟩
  obtain ⟨A1, c1, rfl, _, _⟩ := hon.form
  have HO := Lib.hid hon
  rw [HL.out] at HO ⊢
  clear hon
  go_wp2
  go_loopw [10] (fun i wr => ∃ k : Nat, k ≤ n ∧ i = .int .i64 k ∧ ON EH 4 51 w (.slice A1 n c1) l wr) (fun i _ => n - (intOf i).toNat)
  case atStart => exact ⟨0, Nat.zero_le _, rfl, HO.out⟩
  case round =>
    obtain ⟨k, hk, rfl, hrel⟩ := hrel
    have HK := Lib.hid hrel
    clear hrel
    by_cases hlt : k < n
    · have hkl : k < l.length := by rw [HL.out]; exact hlt
      obtain ⟨b, off, A2, m2, c2, e, hbl, c0, c1', c2', c3', hx⟩ := RT.one (HK.out.reads eh_steady (by omega) rfl) hlt
      obtain ⟨g, hg, hgb, hgl⟩ := HK.out.head (by omega)
      have hmx := HF.out.at hkl
      have hget : l[k]? = some (l.getD k hd0) := by rw [List.getD, List.getElem?_eq_getElem hkl]; rfl
      rw [hg] at e
      injection e with e
      injection e with e1 e2
      subst e1 e2 hg
      obtain ⟨x, hxx⟩ : ∃ x, l.getD k hd0 = x := ⟨_, rfl⟩
      rw [hxx] at c0 c2' c3' hx hmx hget
      have HGT := Lib.hid hget
      have hm2 : m2 ≤ 1000 := by have := hx.reads.1; omega
      have hml : x.things.length = m2 := hx.reads.1
      have HML := Lib.hid hml
      have hba : Below wr.heap.size wr (wr.alloc (.cells #[.int .i64 x.id, .slice A2 m2 c2, .int .i64 x.frm, .int .i64 x.to] 51)) := (Below.refl _ _).alloc (Nat.le_refl _) _
      have HX := Lib.hid (hx.next hba)
      have HK1 := Lib.hid (HK.out.next eh_steady hba)
      have HBX : Hid (BoxH (wr.alloc (.cells #[.int .i64 x.id, .slice A2 m2 c2, .int .i64 x.frm, .int .i64 x.to] 51)) wr.heap.size x A2 m2 c2) := Lib.hid (boxH_new wr x A2 m2 c2)
      have HGL : Hid (g < (wr.alloc (.cells #[.int .i64 x.id, .slice A2 m2 c2, .int .i64 x.frm, .int .i64 x.to] 51)).heap.size) := Lib.hid (by simp; omega)
      have q1 := HBX.out.c1
      simp only [Nat.zero_add] at c0 c1' c2' c3'
      clear hba hx hxx hmx hget hbl hgb hgl hkl hml
      go_wp2_with fail
      refine (clone_any A2 m2 c2 x.things _ HX.out.reads HX.out.nil hm2).mono ?_
      rintro e w5 ⟨v5, rfl, hon5⟩
      obtain ⟨A5, c5, rfl, hn5, hc5⟩ := hon5.form
      have HK5 := Lib.hid (HK1.out.next eh_steady hon5.below)
      have HE5 : Hid (EH w5 (fun b => b < w5.heap.size ∧ b ≠ g) x [.int .i64 x.id, .slice A5 x.things.length c5, .int .i64 x.frm, .int .i64 x.to]) := Lib.hid ⟨A5, x.things.length, c5, rfl, (rn_own (on_own hon5).1).keep ei_steady (fun _ _ => rfl) (fun b hb => ⟨hb.2, fun e => by
        have h1 := hb.1
        have h2 := HGL.out
        omega⟩), hn5, hc5, by unfold maxLen; rw [HML.out]; omega, HX.out.int⟩
      rw [HML.out] at HE5 ⊢
      have HK6 := Lib.hid (on_set1 HK5.out HGT.out HE5.out)
      obtain ⟨⟨u1, p1⟩, z1⟩ := HK5.out.block (i := k * 4 + 1) (by omega)
      clear hon5 hn5 hc5 q1 HK1 HX
      go_wp2
      go_roundw
      case rel => exact ⟨k + 1, by omega, by go_num, HK6.out⟩
      case measure => simp [intOf]; omega
    · go_wp2
      go_ret
      exact ⟨_, rfl, HK.out⟩

end Go.Proofs.YtpoalgkgomljmaaGreatDoor

namespace Go.Proofs.YtpoalgkgomljmaaGreatDoor

section
variable {g : Gr} {use : List Int} {l out : Tb} {ws : List Wn} {t u : Int} {k : Nat}
theorem wn_drop (h : k < ws.length) : ws.drop k = ws.getD k wn0 :: ws.drop (k + 1) := by
  rw [List.drop_eq_getElem_cons h, List.getD, List.getElem?_eq_getElem h]; rfl
theorem first_fits {s : Sp} (h : firstBS g use out s t u = true) : ∃ z, firstAtS g use out s t u = z ∧ firstLS g use out s t u = gotS g use out s u z ∧ FitsS g use out s u z := by
  unfold firstBS at h
  obtain ⟨z, hz⟩ := Option.isSome_iff_exists.1 h
  exact ⟨z, (first_some hz).1, (first_some hz).2.1, (firstS_some.1 hz).1.2⟩
theorem first_int {s : Sp} (h : firstBS g use out s t u = true) : I64 (firstAtS g use out s t u) ∧ I64 (endsS s (firstAtS g use out s t u)) ∧ ∀ q ∈ firstLS g use out s t u, I64 q := by
  obtain ⟨z, e1, e2, hf⟩ := first_fits h
  rw [e1, e2]
  refine ⟨by have := hf.1; unfold I64; omega, by unfold endsS plusZ nearZ I64; repeat' split; all_goals omega, fun q hq => ?_⟩
  have := right_mem (gotS_right hf) q hq
  unfold I64; omega
theorem first_len {s : Sp} (h : firstBS g use out s t u = true) : (firstLS g use out s t u).length ≤ 256 := by
  obtain ⟨z, e1, e2, hf⟩ := first_fits h
  rw [e2, gotS_is hf]
  exact findL_len (fits_spec hf).1
theorem addT_few {h : Hd} (h0 : addE out h = 0) : (addT out h).length ≤ 600 := by
  have h256 : out.length < 256 := by
    unfold addE at h0
    split at h0
    · cases h0
    · split at h0
      · cases h0
      · split at h0
        · cases h0
        · rename_i h3
          omega
  unfold addT
  rw [if_pos h0]
  unfold insT
  rw [List.length_append, List.length_cons]
  have h1 := List.length_filter_le (fun x => decide (x.id < h.id)) out
  have h2 := List.length_filter_le (fun x => decide (h.id < x.id)) out
  omega
theorem planR_pass {x : Wn} {r : List Wn} (h : firstBS g use out x.spec t u = false) : planR g use t u out (x :: r) = planR g use t u out r := by
  rw [planR, if_neg (by rw [h]; decide)]
theorem planR_add {x : Wn} {r : List Wn} (h : firstBS g use out x.spec t u = true) (h0 : addE out (heldW g use out x t u) = 0) : planR g use t u out (x :: r) = planR g use t u (addT out (heldW g use out x t u)) r := by
  rw [planR, if_pos h, if_pos h0]
  unfold addT
  rw [if_pos h0]
theorem planR_err {x : Wn} {r : List Wn} (h : firstBS g use out x.spec t u = true) (h0 : addE out (heldW g use out x t u) ≠ 0) : planR g use t u out (x :: r) = (out, addE out (heldW g use out x t u)) := by
  rw [planR, if_pos h, if_neg h0]
end
theorem findL_short {g : Gr} {F : List Int} {s : Sp} : (findL g F s).length ≤ g.length := by
  unfold findL
  split
  · unfold numsF
    rw [List.length_map]
    exact Nat.le_trans (List.length_filter_le _ _) (by rw [List.length_range]; exact Nat.le_refl _)
  · exact Nat.zero_le _

end Go.Proofs.YtpoalgkgomljmaaGreatDoor

namespace Go.Proofs.YtpoalgkgomljmaaGreatDoor
open Go.RowKit

def wnO (x : Wn) : Obj := (.cells #[.int .i64 x.id, .int .i64 x.spec.nodes, .int .i64 x.spec.cores, .int .i64 x.spec.gpus, .string x.spec.tag, .bool x.spec.whole, .int .i64 x.spec.long, .int .i64 x.spec.prio] 57)
/-- a block that holds one who would begin -/
structure BoxW (wr : World) (g : Nat) (x : Wn) : Prop where
  lt : g < wr.heap.size
  at' : wr.heap[g]? = some (wnO x)
section
variable {wr w' : World} {g : Nat} {x : Wn}
theorem BoxW.next (h : BoxW wr g x) (hb : Below wr.heap.size wr w') : BoxW w' g x := ⟨Nat.lt_of_lt_of_le h.lt hb.size, (hb.block _ h.lt).trans h.at'⟩
theorem boxW_new (w : World) (x : Wn) : BoxW (w.alloc (wnO x)) w.heap.size x := ⟨by simp, heap_alloc_new w _⟩
theorem BoxW.c0 (h : BoxW wr g x) : wr.cell? ⟨g, 0, none⟩ = some (.int .i64 x.id) := (cell_of_row wr g 0 _ _ (0, 0) h.at').trans rfl
theorem BoxW.c1 (h : BoxW wr g x) : wr.cell? ⟨g, 1, none⟩ = some (.int .i64 x.spec.nodes) := (cell_of_row wr g 1 _ _ (0, 0) h.at').trans rfl
theorem BoxW.c2 (h : BoxW wr g x) : wr.cell? ⟨g, 2, none⟩ = some (.int .i64 x.spec.cores) := (cell_of_row wr g 2 _ _ (0, 0) h.at').trans rfl
theorem BoxW.c3 (h : BoxW wr g x) : wr.cell? ⟨g, 3, none⟩ = some (.int .i64 x.spec.gpus) := (cell_of_row wr g 3 _ _ (0, 0) h.at').trans rfl
theorem BoxW.c4 (h : BoxW wr g x) : wr.cell? ⟨g, 4, none⟩ = some (.string x.spec.tag) := (cell_of_row wr g 4 _ _ (0, 0) h.at').trans rfl
theorem BoxW.c5 (h : BoxW wr g x) : wr.cell? ⟨g, 5, none⟩ = some (.bool x.spec.whole) := (cell_of_row wr g 5 _ _ (0, 0) h.at').trans rfl
theorem BoxW.c6 (h : BoxW wr g x) : wr.cell? ⟨g, 6, none⟩ = some (.int .i64 x.spec.long) := (cell_of_row wr g 6 _ _ (0, 0) h.at').trans rfl
theorem BoxW.c7 (h : BoxW wr g x) : wr.cell? ⟨g, 7, none⟩ = some (.int .i64 x.spec.prio) := (cell_of_row wr g 7 _ _ (0, 0) h.at').trans rfl
end
theorem addT_fewS {out : Tb} {h : Hd} (hf : FewT out) (h0 : addE out h = 0) (hh : h.things.length ≤ 100) (hl : out.length + 1 ≤ 100) : FewT (addT out h) ∧ (addT out h).length = out.length + 1 := by
  have hm := add_ok.1 h0
  rw [add_yes hm]
  have hlen := ins_len hm.new
  refine ⟨⟨by omega, fun x hx => ?_⟩, hlen⟩
  rcases hm.mem.1 hx with h1 | h1
  · exact hf.2 x h1
  · rw [h1]; exact hh
theorem first_short {g : Gr} {use : List Int} {l : Tb} {s : Sp} {t u : Int} (h : firstBS g use l s t u = true) : (firstLS g use l s t u).length ≤ g.length := by
  obtain ⟨z, _, e2, hf⟩ := first_fits h
  rw [e2, gotS_is hf]
  exact findL_short
set_option maxRecDepth 100000 in
set_option maxHeartbeats 8000000 in
theorem slotPlan_any (HD : HeldOk) (HM : MatchOk) (HSP : SpecOk) {A A2 A3 A4 : Option Addr} {n c n2 c2 n3 c3 n4 c4 : Nat} {g : Gr} {use : List Int} {l : Tb} {ws : List Wn} {t u : Int} {w : World} (hg : GAsk w A n c g) (hu : LAsk w A2 n2 c2 use) (hl : TAsk w A3 n3 c3 l) (hf : FewT l) (hw : WnAsk w A4 n4 c4 ws) (hn60 : n ≤ 60) (hn34 : n3 + n4 ≤ 60) (ht : I64 t) (hv : I64 u) (hG : Glob w) : Calls Tryz.prog 15 #[.slice A n c, .slice A2 n2 c2, .slice A3 n3 c3, .slice A4 n4 c4, .int .i64 t, .int .i64 u] w (TEPost (planT g use l ws t u) (planE g use l ws t u) w) := by
  have HT := Lib.hid ht
  have HV := Lib.hid hv
  have HG := Lib.hid hG
  have GA := Lib.hid hg
  have UA := Lib.hid hu
  have TA := Lib.hid hl
  have HW := Lib.hid hw
  have HF := Lib.hid hf
  have HWL := Lib.hid hw.len
  have HGL : Hid (g.length ≤ 60) := Lib.hid (by rw [hg.reads.1]; omega)
  have HTL := Lib.hid hl.reads.len
  have HB := Lib.hid (Below.refl w.heap.size w)
  cases hr : rightT l with
  | false =>
    have e1 : planE g use l ws t u = 1 := by unfold planE; rw [if_neg (by rw [hr]; decide)]
    have e2 : planT g use l ws t u = l := by unfold planT; rw [e1, if_neg (by decide)]
    rw [e1, e2]
    have HRR := Lib.hid hr
    clear hG hg hu hl hf hw ht hv hr e1 e2
    go_enter Tryz.func15, Tryz.ntmps15
    go_wp2_with fail
    refine (slotSame_any A3 n3 c3 l _ TA.out.reads TA.out.nil HF.out).mono ?_
    rintro e w1 ⟨v, rfl, hon⟩
    obtain ⟨A9, c9, rfl, hn9, hc9⟩ := hon.form
    have HO := Lib.hid hon
    have HN := Lib.hid (And.intro hn9 hc9)
    have hb := hon.below
    have TAq := Lib.hid (TA.out.next hb)
    clear TA
    have TA := TAq
    clear TAq
    have HBq := Lib.hid (HB.out.trans (hb.mono HB.out.size))
    clear HB
    have HB := HBq
    clear HBq
    clear hon hn9 hc9 hb
    go_wp2_with fail
    refine (h10_right HD TA.out HF.out HRR.out).mono ?_
    rintro e w2 ⟨rfl, hb⟩
    have HP : Hid (TEPost l 1 w (.returned (.tuple #[.slice A9 l.length c9, .int .i64 1])) w2) := Lib.hid (tepost_mk (RT.next (HO.out.reads eh_steady (by omega) rfl) hb) HN.out.1 HN.out.2 (HB.out.trans (hb.mono HB.out.size)))
    clear hb
    go_wp2
    go_ret2
    exact HP.out
  | true =>
    have hpe : planE g use l ws t u = (planR g use t u l ws).2 := by unfold planE; rw [if_pos hr]
    obtain ⟨pt, hpt⟩ : ∃ x, planT g use l ws t u = x := ⟨_, rfl⟩
    obtain ⟨pe, hpee⟩ : ∃ x, planE g use l ws t u = x := ⟨_, rfl⟩
    have HPT : Hid (∀ (o : Tb) (er : Int), planR g use t u l ws = (o, er) → pe = er ∧ pt = if er = 0 then o else l) := Lib.hid (fun o er h => by
      rw [h] at hpe
      rw [← hpee, ← hpt]
      refine ⟨hpe, ?_⟩
      unfold planT
      rw [hpe, h])
    rw [hpt, hpee]
    have HRR := Lib.hid hr
    clear hG hg hu hl hf hw ht hv hr hpe hpt hpee
    go_enter Tryz.func15, Tryz.ntmps15
    go_wp2_with fail
    refine (slotSame_any A3 n3 c3 l _ TA.out.reads TA.out.nil HF.out).mono ?_
    rintro e w1 ⟨v, rfl, hon⟩
    obtain ⟨A9, c9, rfl, hn9, hc9⟩ := hon.form
    have HO : Hid (TAsk w1 A9 l.length c9 l) := Lib.hid ⟨hon.reads eh_steady (by omega) rfl, hn9, hc9, by rw [HTL.out]; unfold maxLen; omega⟩
    have hb := hon.below
    have HGq := Lib.hid (HG.out.next hb)
    clear HG
    have HG := HGq
    clear HGq
    have GAq := Lib.hid (GA.out.next hb)
    clear GA
    have GA := GAq
    clear GAq
    have UAq := Lib.hid (UA.out.next hb)
    clear UA
    have UA := UAq
    clear UAq
    have TAq := Lib.hid (TA.out.next hb)
    clear TA
    have TA := TAq
    clear TAq
    have HWq := Lib.hid (HW.out.next hb)
    clear HW
    have HW := HWq
    clear HWq
    have HBq := Lib.hid (HB.out.trans (hb.mono HB.out.size))
    clear HB
    have HB := HBq
    clear HBq
    clear hon hn9 hc9 hb
    go_wp2_with fail
    refine (h10_right HD TA.out HF.out HRR.out).mono ?_
    rintro e w2 ⟨rfl, hb⟩
    have HGq := Lib.hid (HG.out.next hb)
    clear HG
    have HG := HGq
    clear HGq
    have GAq := Lib.hid (GA.out.next hb)
    clear GA
    have GA := GAq
    clear GAq
    have UAq := Lib.hid (UA.out.next hb)
    clear UA
    have UA := UAq
    clear UAq
    have TAq := Lib.hid (TA.out.next hb)
    clear TA
    have TA := TAq
    clear TAq
    have HWq := Lib.hid (HW.out.next hb)
    clear HW
    have HW := HWq
    clear HWq
    have HOq := Lib.hid (HO.out.next hb)
    clear HO
    have HO := HOq
    clear HOq
    have HBq := Lib.hid (HB.out.trans (hb.mono HB.out.size))
    clear HB
    have HB := HBq
    clear HBq
    clear hb
    go_wp2
    go_loopw [30, 14] (fun iv ov wr => ∃ (k : Nat) (out : Tb) (A5 : Option Addr) (n5 c5 : Nat), ov = .slice A5 n5 c5 ∧ k ≤ n4 ∧ iv = .int .i64 k ∧ TAsk wr A5 n5 c5 out ∧ (FewT out ∧ out.length ≤ n3 + k) ∧ planR g use t u l ws = planR g use t u out (ws.drop k) ∧ Below w2.heap.size w2 wr) (fun iv _ _ => n4 - (intOf iv).toNat)
    case atStart => exact ⟨0, l, A9, l.length, c9, rfl, Nat.zero_le _, rfl, HO.out, ⟨HF.out, by rw [HTL.out]; omega⟩, by simp, Below.refl _ _⟩
    case round =>
      obtain ⟨k, out, A5, n5, c5, rfl, hk, rfl, hto, hfo, hpl, hbel⟩ := hrel
      have TA5 := Lib.hid hto
      have HFO := Lib.hid hfo
      have HPL := Lib.hid hpl
      have HB6 := Lib.hid (HB.out.trans (hbel.mono HB.out.size))
      have HBL := Lib.hid hbel
      have HG5 := Lib.hid (HG.out.next hbel)
      have GA5 := Lib.hid (GA.out.next hbel)
      have UA5 := Lib.hid (UA.out.next hbel)
      have TL5 := Lib.hid (TA.out.next hbel)
      have WA5 := Lib.hid (HW.out.next hbel)
      clear hto hfo hpl hbel
      by_cases hlt : k < n4
      · have hkl : k < ws.length := by rw [HWL.out]; exact hlt
        have hdr := wn_drop hkl
        obtain ⟨bw, offw, hA4, hbw, ⟨e0, e1, e2, e3, e4, e5, e6, e7⟩, hxs, hxi⟩ := WA5.out.one hlt
        subst hA4
        obtain ⟨x, hx⟩ : ∃ x, ws.getD k wn0 = x := ⟨_, rfl⟩
        rw [hx] at e0 e1 e2 e3 e4 e5 e6 e7 hxs hxi hdr
        have HXS := Lib.hid hxs
        have HXI := Lib.hid hxi
        rw [hdr] at HPL
        have hba : Below wr.heap.size wr (wr.alloc (.cells #[.int .i64 x.id, .int .i64 x.spec.nodes, .int .i64 x.spec.cores, .int .i64 x.spec.gpus, .string x.spec.tag, .bool x.spec.whole, .int .i64 x.spec.long, .int .i64 x.spec.prio] 57)) := (Below.refl _ _).alloc (Nat.le_refl _) _
        have BW : Hid (BoxW (wr.alloc (.cells #[.int .i64 x.id, .int .i64 x.spec.nodes, .int .i64 x.spec.cores, .int .i64 x.spec.gpus, .string x.spec.tag, .bool x.spec.whole, .int .i64 x.spec.long, .int .i64 x.spec.prio] 57)) wr.heap.size x) := Lib.hid (boxW_new wr x)
        have TA5q := Lib.hid (TA5.out.next hba)
        clear TA5
        have TA5 := TA5q
        clear TA5q
        have HG5q := Lib.hid (HG5.out.next hba)
        clear HG5
        have HG5 := HG5q
        clear HG5q
        have GA5q := Lib.hid (GA5.out.next hba)
        clear GA5
        have GA5 := GA5q
        clear GA5q
        have UA5q := Lib.hid (UA5.out.next hba)
        clear UA5
        have UA5 := UA5q
        clear UA5q
        have TL5q := Lib.hid (TL5.out.next hba)
        clear TL5
        have TL5 := TL5q
        clear TL5q
        have WA5q := Lib.hid (WA5.out.next hba)
        clear WA5
        have WA5 := WA5q
        clear WA5q
        have HB6q := Lib.hid (HB6.out.trans (hba.mono HB6.out.size))
        clear HB6
        have HB6 := HB6q
        clear HB6q
        have HBLq := Lib.hid (HBL.out.trans (hba.mono HBL.out.size))
        clear HBL
        have HBL := HBLq
        clear HBLq
        clear hx hxs hxi hdr hkl hba
        have HC := Lib.hid (slotFirst_any (s := x.spec) (t := t) (u := u) HD HM HSP GA5.out UA5.out TA5.out HFO.out.1 HXS.out HT.out HV.out HG5.out)
        obtain ⟨ft, hft⟩ : ∃ y, firstAtS g use out x.spec t u = y := ⟨_, rfl⟩
        obtain ⟨fl, hfl⟩ : ∃ y, firstLS g use out x.spec t u = y := ⟨_, rfl⟩
        rw [hft, hfl] at HC
        cases hfb : firstBS g use out x.spec t u with
        | false =>
          rw [hfb] at HC
          have HN : Hid (planR g use t u l ws = planR g use t u out (ws.drop (k + 1))) := Lib.hid (by rw [HPL.out, planR_pass hfb])
          clear hfb hft hfl
          have q1 := BW.out.c1
          have q2 := BW.out.c2
          have q3 := BW.out.c3
          have q4 := BW.out.c4
          have q5 := BW.out.c5
          have q6 := BW.out.c6
          have q7 := BW.out.c7
          go_wp2_with fail
          refine HC.out.mono ?_
          rintro e w6 ⟨⟨A8, c8, rfl, _, _, _⟩, hb⟩
          have TA6 := Lib.hid (TA5.out.next hb)
          have HBN := Lib.hid (HBL.out.trans (hb.mono HBL.out.size))
          clear hb HC e0 e1 e2 e3 e4 e5 e6 e7 hbw q1 q2 q3 q4 q5 q6 q7
          go_wp2
          go_roundw
          case rel => exact ⟨k + 1, out, A5, n5, c5, rfl, by omega, by go_num, TA6.out, ⟨HFO.out.1, by have := HFO.out.2; omega⟩, HN.out, HBN.out⟩
          case measure => simp [intOf] <;> omega
        | true =>
          rw [hfb] at HC
          obtain ⟨ee, hee⟩ : ∃ y, endsS x.spec ft = y := ⟨_, rfl⟩
          have hhw : heldW g use out x t u = ⟨x.id, fl, ft, ee⟩ := by unfold heldW; rw [hft, hfl, hee]
          have HFI : Hid (I64 ft ∧ I64 ee ∧ (∀ q ∈ fl, I64 q)) := Lib.hid (by
            rw [← hft, ← hfl, ← hee, ← hft]; exact first_int hfb)
          have HFL8 : Hid (fl.length ≤ 60) := Lib.hid (by rw [← hfl]; exact Nat.le_trans (first_short hfb) HGL.out)
          have HTI := Lib.hid HFI.out.1
          have HEE := Lib.hid hee
          have HNF : Hid (addE out ⟨x.id, fl, ft, ee⟩ = 0 → FewT (addT out ⟨x.id, fl, ft, ee⟩) ∧ (addT out ⟨x.id, fl, ft, ee⟩).length = out.length + 1) := Lib.hid (fun h => addT_fewS HFO.out.1 h (Nat.le_trans HFL8.out (by decide)) (by have := HFO.out.2; omega))
          obtain ⟨nt, hnt⟩ : ∃ y, addT out ⟨x.id, fl, ft, ee⟩ = y := ⟨_, rfl⟩
          obtain ⟨er, her⟩ : ∃ y, addE out ⟨x.id, fl, ft, ee⟩ = y := ⟨_, rfl⟩
          rw [hnt, her] at HNF
          have HERR : Hid (er ≠ 0 → planR g use t u l ws = (out, er)) := Lib.hid (fun h => by rw [HPL.out, planR_err hfb (by rw [hhw, her]; exact h), hhw, her])
          have HADD2 : Hid (er = 0 → planR g use t u l ws = planR g use t u nt (ws.drop (k + 1))) := Lib.hid (fun h => by rw [HPL.out, planR_add hfb (by rw [hhw, her]; exact h), hhw, hnt])
          have HADD : Hid (∀ (A8 : Option Addr) (c8 : Nat) (W : World), TAsk W A5 n5 c5 out → HAsk W A8 fl.length c8 ⟨x.id, fl, ft, ee⟩ → Calls Tryz.prog 24 #[.slice A5 n5 c5, .agg #[.int .i64 x.id, .slice A8 fl.length c8, .int .i64 ft, .int .i64 ee]] W (TEPost nt er W)) := Lib.hid (fun A8 c8 W h1 h2 => by
            have := HD.add A5 n5 c5 out A8 fl.length c8 ⟨x.id, fl, ft, ee⟩ W h1 HFO.out.1 h2 (Nat.le_trans HFL8.out (by decide))
            rw [hnt, her] at this
            exact this)
          clear hfb hft hfl hee hhw hnt her
          have q1 := BW.out.c1
          have q2 := BW.out.c2
          have q3 := BW.out.c3
          have q4 := BW.out.c4
          have q5 := BW.out.c5
          have q6 := BW.out.c6
          have q7 := BW.out.c7
          go_wp2_with fail
          refine HC.out.mono ?_
          rintro e w6 ⟨⟨A8, c8, rfl, hr8, hn8, hc8⟩, hb⟩
          have HH8 : Hid (HAsk w6 A8 fl.length c8 ⟨x.id, fl, ft, ee⟩) := Lib.hid ⟨hr8, hn8, hc8, Nat.le_trans HFL8.out (by decide), HXI.out, HFI.out.1, HFI.out.2.1, HFI.out.2.2⟩
          have TA5q := Lib.hid (TA5.out.next hb)
          clear TA5
          have TA5 := TA5q
          clear TA5q
          have HG5q := Lib.hid (HG5.out.next hb)
          clear HG5
          have HG5 := HG5q
          clear HG5q
          have GA5q := Lib.hid (GA5.out.next hb)
          clear GA5
          have GA5 := GA5q
          clear GA5q
          have UA5q := Lib.hid (UA5.out.next hb)
          clear UA5
          have UA5 := UA5q
          clear UA5q
          have TL5q := Lib.hid (TL5.out.next hb)
          clear TL5
          have TL5 := TL5q
          clear TL5q
          have WA5q := Lib.hid (WA5.out.next hb)
          clear WA5
          have WA5 := WA5q
          clear WA5q
          have BWq := Lib.hid (BW.out.next hb)
          clear BW
          have BW := BWq
          clear BWq
          have HB6q := Lib.hid (HB6.out.trans (hb.mono HB6.out.size))
          clear HB6
          have HB6 := HB6q
          clear HB6q
          have HBLq := Lib.hid (HBL.out.trans (hb.mono HBL.out.size))
          clear HBL
          have HBL := HBLq
          clear HBLq
          clear hb hr8 hn8 hc8 HC e0 e1 e2 e3 e4 e5 e6 e7 hbw q1 q2 q3 q4 q5 q6 q7
          obtain ⟨m8, hm8⟩ : ∃ m8, fl.length = m8 := ⟨_, rfl⟩
          have HADDm := Lib.hid (HADD.out A8)
          rw [hm8] at HH8 HADDm ⊢
          clear hm8 HADD
          go_wp2_with fail
          have HKEEP : Hid (∀ wx, Below w6.drew.heap.size w6.drew wx → wx.cell? ⟨wr.heap.size, 0, none⟩ = some (.int .i64 x.id) ∧ wx.cell? ⟨wr.heap.size, 1, none⟩ = some (.int .i64 x.spec.nodes) ∧ wx.cell? ⟨wr.heap.size, 2, none⟩ = some (.int .i64 x.spec.cores) ∧ wx.cell? ⟨wr.heap.size, 3, none⟩ = some (.int .i64 x.spec.gpus) ∧ wx.cell? ⟨wr.heap.size, 4, none⟩ = some (.string x.spec.tag) ∧ wx.cell? ⟨wr.heap.size, 5, none⟩ = some (.bool x.spec.whole) ∧ wx.cell? ⟨wr.heap.size, 6, none⟩ = some (.int .i64 x.spec.long) ∧ wx.cell? ⟨wr.heap.size, 7, none⟩ = some (.int .i64 x.spec.prio)) := Lib.hid (fun wx hz' => by
            have hz := (bel_drew1 w6).trans (hz'.mono (bel_drew1 w6).size)
            exact ⟨keep_cell BW.out.lt BW.out.c0 hz, keep_cell BW.out.lt BW.out.c1 hz, keep_cell BW.out.lt BW.out.c2 hz, keep_cell BW.out.lt BW.out.c3 hz, keep_cell BW.out.lt BW.out.c4 hz, keep_cell BW.out.lt BW.out.c5 hz, keep_cell BW.out.lt BW.out.c6 hz, keep_cell BW.out.lt BW.out.c7 hz⟩)
          have hd := bel_drew1 w6
          have HB6q := Lib.hid (HB6.out.trans (hd.mono HB6.out.size))
          clear HB6
          have HB6 := HB6q
          clear HB6q
          have HBLq := Lib.hid (HBL.out.trans (hd.mono HBL.out.size))
          clear HBL
          have HBL := HBLq
          clear HBLq
          have HG5q := Lib.hid (HG5.out.next hd)
          clear HG5
          have HG5 := HG5q
          clear HG5q
          have TA5q := Lib.hid (TA5.out.next hd)
          clear TA5
          have TA5 := TA5q
          clear TA5q
          have HH8q := Lib.hid (HH8.out.next hd)
          clear HH8
          have HH8 := HH8q
          clear HH8q
          have GA5q := Lib.hid (GA5.out.next hd)
          clear GA5
          have GA5 := GA5q
          clear GA5q
          have UA5q := Lib.hid (UA5.out.next hd)
          clear UA5
          have UA5 := UA5q
          clear UA5q
          have TL5q := Lib.hid (TL5.out.next hd)
          clear TL5
          have TL5 := TL5q
          clear TL5q
          have WA5q := Lib.hid (WA5.out.next hd)
          clear WA5
          have WA5 := WA5q
          clear WA5q
          have BWq := Lib.hid (BW.out.next hd)
          clear BW
          have BW := BWq
          clear BWq
          clear hd
          have HY := Lib.hid (Below.refl w6.drew.heap.size w6.drew)
          go_region_held3 (fun w' => w'.cell? ⟨wr.heap.size, 0, none⟩ = some (.int .i64 x.id) ∧ w'.cell? ⟨wr.heap.size, 1, none⟩ = some (.int .i64 x.spec.nodes) ∧ w'.cell? ⟨wr.heap.size, 2, none⟩ = some (.int .i64 x.spec.cores) ∧ w'.cell? ⟨wr.heap.size, 3, none⟩ = some (.int .i64 x.spec.gpus) ∧ w'.cell? ⟨wr.heap.size, 4, none⟩ = some (.string x.spec.tag) ∧ w'.cell? ⟨wr.heap.size, 5, none⟩ = some (.bool x.spec.whole) ∧ w'.cell? ⟨wr.heap.size, 6, none⟩ = some (.int .i64 x.spec.long) ∧ w'.cell? ⟨wr.heap.size, 7, none⟩ = some (.int .i64 x.spec.prio))
            (first | exact HKEEP.out _ (Below.refl _ _) | exact HKEEP.out _ HY.out | exact HKEEP.out _ (HY.out.alloc HY.out.size _) | go_keep | fail)
            (first | (go_at_call 19; (with_reducible refine (s7_ends HSP HXS.out HG5.out HTI.out HEE.out).mono ?_); rintro e w7 ⟨rfl, hb⟩; have HY := Lib.hid (HY.out.trans (hb.mono HY.out.size)); have HB6 := Lib.hid (HB6.out.trans (hb.mono HB6.out.size)); have HBL := Lib.hid (HBL.out.trans (hb.mono HBL.out.size)); have HG5 := Lib.hid (HG5.out.next hb); have TA5 := Lib.hid (TA5.out.next hb); have HH8 := Lib.hid (HH8.out.next hb); have GA5 := Lib.hid (GA5.out.next hb); have UA5 := Lib.hid (UA5.out.next hb); have TL5 := Lib.hid (TL5.out.next hb); have WA5 := Lib.hid (WA5.out.next hb); have BW := Lib.hid (BW.out.next hb); clear hb) | (go_at_call 24; (with_reducible refine (HADDm.out _ w7 TA5.out HH8.out).mono ?_); rintro e w8 ⟨⟨A9, c9, rfl, hr9, hn9, hc9⟩, hb⟩; have HN9 := Lib.hid hn9; have HC9 := Lib.hid hc9; have HY := Lib.hid (HY.out.trans (hb.mono HY.out.size)); have HB6 := Lib.hid (HB6.out.trans (hb.mono HB6.out.size)); have HBL := Lib.hid (HBL.out.trans (hb.mono HBL.out.size)); have HG5 := Lib.hid (HG5.out.next hb); have TA5 := Lib.hid (TA5.out.next hb); have HH8 := Lib.hid (HH8.out.next hb); have GA5 := Lib.hid (GA5.out.next hb); have UA5 := Lib.hid (UA5.out.next hb); have TL5 := Lib.hid (TL5.out.next hb); have WA5 := Lib.hid (WA5.out.next hb); have BW := Lib.hid (BW.out.next hb); have R9 := Lib.hid hr9; clear hb) | fail)
          clear HKEEP HY
          by_cases h0 : er = 0
          · have d0 : (er != 0) = false := by rw [h0]; rfl
            have HNX := Lib.hid (HADD2.out h0)
            have HNL := Lib.hid (HNF.out h0)
            clear h0
            go_wp2
            go_roundw
            case rel => exact ⟨k + 1, nt, A9, nt.length, c9, rfl, by omega, by go_num, ⟨R9.out, HN9.out, HC9.out, by have := HNL.out.2; have := HFO.out.2; unfold maxLen; omega⟩, ⟨HNL.out.1, by have := HNL.out.2; have := HFO.out.2; omega⟩, HNX.out, HBL.out⟩
            case measure => simp [intOf] <;> omega
          · have d0 : (er != 0) = true := bne_iff_ne.2 h0
            have HX := Lib.hid (HPT.out _ _ (HERR.out h0))
            rw [if_neg h0] at HX
            clear h0 HADD2 HERR HNF
            go_wp2_with fail
            refine (slotSame_any A3 n3 c3 l _ TL5.out.reads TL5.out.nil HF.out).mono ?_
            rintro e w9 ⟨v, rfl, hon⟩
            obtain ⟨A10, c10, rfl, hn10, hc10⟩ := hon.form
            have HP : Hid (TEPost l er w (.returned (.tuple #[.slice A10 l.length c10, .int .i64 er])) w9) := Lib.hid (tepost_mk (hon.reads eh_steady (by omega) rfl) hn10 hc10 (HB6.out.trans (hon.below.mono HB6.out.size)))
            clear hon hn10 hc10
            go_wp2
            go_ret2
            rw [HX.out.1, HX.out.2]
            exact HP.out
      · have HX : Hid (pe = 0 ∧ pt = out) := Lib.hid (by
          have h1 := HPL.out
          rw [List.drop_of_length_le (by rw [HWL.out]; omega)] at h1
          exact HPT.out out 0 (by rw [h1, planR]))
        go_wp2
        go_ret2
        rw [HX.out.1, HX.out.2]
        exact tepost_mk TA5.out.reads TA5.out.nil TA5.out.cap HB6.out

end Go.Proofs.YtpoalgkgomljmaaGreatDoor

namespace Go.Proofs.YtpoalgkgomljmaaGreatDoor
open Go.RowKit

theorem heldBusy_any (A : Option Addr) (n c : Nat) (l : Tb) (a b : Int) (w : World) (hl : TAsk w A n c l) (hf : FewT l) :
    Calls Tryz.prog 22 #[.slice A n c, .int .i64 a, .int .i64 b] w (IPost (busyT l a b) w) := by
  cases h1 : rightT l with
  | false =>
    have e : busyT l a b = [] := by unfold busyT; rw [h1]; rfl
    rw [e]
    have R1 := Lib.hid h1
    have HT := Lib.hid hl
    have HF := Lib.hid hf
    clear h1 hl hf e
    go_enter Tryz.func22, Tryz.ntmps22
    go_wp2_with fail
    refine (heldRight_b HT.out.reads HT.out.nil HF.out R1.out).mono ?_
    rintro e w1 ⟨rfl, hb⟩
    have HB := Lib.hid hb
    clear hb
    go_wp2
    go_ret
    exact ipost_nil HB.out
  | true =>
    have R1 := Lib.hid h1
    have HT := Lib.hid hl
    have HF := Lib.hid hf
    obtain ⟨r, hr'⟩ : ∃ r, busyT l a b = r := ⟨_, rfl⟩
    have HRR := Lib.hid hr'
    rw [hr']
    clear h1 hl hf hr'
    go_enter Tryz.func22, Tryz.ntmps22
    go_wp2_with fail
    refine (heldRight_b HT.out.reads HT.out.nil HF.out R1.out).mono ?_
    rintro e w1 ⟨rfl, hb⟩
    have HB := Lib.hid hb
    have HT1 := Lib.hid (HT.out.next hb)
    clear hb
    go_wp2_with fail
    refine (calls_ipost (busy_any A n c l a b w1 HT1.out.reads HF.out R1.out) HRR.out).mono ?_
    rintro e w2 ⟨⟨A2, c2, rfl, hr, hnil, hc⟩, hb⟩
    have HP : Hid (IPost r w (.returned (.slice A2 r.length c2)) w2) := Lib.hid ⟨⟨A2, c2, rfl, hr, hnil, hc⟩, HB.out.trans (hb.mono HB.out.size)⟩
    clear hr hnil hc hb
    go_wp2
    go_ret
    exact HP.out

theorem BoxH.store4 {wr : World} {g : Nat} {x : Hd} {A : Option Addr} {m c : Nat} (b : BoxH wr g x A m c) (h : Hd) (A2 : Option Addr) (m2 c2 : Nat) :
    BoxH ((((wr.setCell ⟨g, 0, none⟩ (.int .i64 h.id)).setCell ⟨g, 1, none⟩ (.slice A2 m2 c2)).setCell ⟨g, 2, none⟩ (.int .i64 h.frm)).setCell ⟨g, 3, none⟩ (.int .i64 h.to)) g h A2 m2 c2 :=
  (((b.set (h' := ⟨h.id, [], x.frm, x.to⟩) rfl).set (h' := ⟨h.id, [], x.frm, x.to⟩) rfl).set (h' := ⟨h.id, [], h.frm, x.to⟩) rfl).set (h' := h) rfl
theorem below_four {B g : Nat} {w wr : World} {v0 v1 v2 v3 : Value} (hb : Below B w wr) (hg : B ≤ g) : Below B w ((((wr.setCell ⟨g, 0, none⟩ v0).setCell ⟨g, 1, none⟩ v1).setCell ⟨g, 2, none⟩ v2).setCell ⟨g, 3, none⟩ v3) :=
  (((hb.setCell (p := ⟨g, _, none⟩) hg v0).setCell (p := ⟨g, _, none⟩) hg v1).setCell (p := ⟨g, _, none⟩) hg v2).setCell (p := ⟨g, _, none⟩) hg v3
theorem four_other {b g : Nat} {wr : World} {v0 v1 v2 v3 : Value} (h : b ≠ g) : ((((wr.setCell ⟨g, 0, none⟩ v0).setCell ⟨g, 1, none⟩ v1).setCell ⟨g, 2, none⟩ v2).setCell ⟨g, 3, none⟩ v3).heap[b]? = wr.heap[b]? := by
  rw [Below.heap_setCell _ _ _ _ h, Below.heap_setCell _ _ _ _ h, Below.heap_setCell _ _ _ _ h, Below.heap_setCell _ _ _ _ h]
theorem four_size {g : Nat} {wr : World} {v0 v1 v2 v3 : Value} : ((((wr.setCell ⟨g, 0, none⟩ v0).setCell ⟨g, 1, none⟩ v1).setCell ⟨g, 2, none⟩ v2).setCell ⟨g, 3, none⟩ v3).heap.size = wr.heap.size := by simp [World.setCell]
/-- a holding as an element, as one by value -/
theorem EH.ask {w : World} {ok : Nat → Prop} {h : Hd} {A : Option Addr} {m c : Nat} (he : EH w ok h [.int .i64 h.id, .slice A m c, .int .i64 h.frm, .int .i64 h.to]) (hok : ∀ b, ok b → b < w.heap.size) : HAsk w A m c h := by
  obtain ⟨A', m', c', hv, hr, h1, h2, h3, h4⟩ := he
  injection hv with _ hv
  injection hv with hv _
  injection hv with e1 e2 e3
  subst e1 e2 e3
  exact ⟨RN.ri (hr.keep ei_steady (fun _ _ => rfl) hok), h1, h2, h3, h4⟩
theorem hd0_ask (w : World) : HAsk w none 0 0 hd0 := ⟨RI.nil, fun _ => rfl, Nat.le_refl _, Nat.zero_le _, ⟨(by unfold I64; simp [hd0]), (by unfold I64; simp [hd0]), (by unfold I64; simp [hd0]), fun n hn => by cases hn⟩⟩

set_option maxRecDepth 100000 in
set_option maxHeartbeats 8000000 in
theorem heldGet_1 (A : Option Addr) (n c : Nat) (l : Tb) (id : Int) (w : World) (hl : TAsk w A n c l) (hf : FewT l) (h1 : rightT l = false) :
    Calls Tryz.prog 26 #[.slice A n c, .int .i64 id] w (GHPost hd0 false w) := by
  obtain ⟨W, hW⟩ : ∃ W, W = w.alloc (hO hd0 none 0 0) := ⟨_, rfl⟩
  have BR : Hid (BoxH W w.heap.size hd0 none 0 0) := Lib.hid (by rw [hW]; exact boxH_new w hd0 none 0 0)
  have hb0 : Below w.heap.size w W := by rw [hW]; exact (Below.refl _ _).alloc (Nat.le_refl _) _
  have HB := Lib.hid hb0
  have HT := Lib.hid (hl.next hb0)
  have HF := Lib.hid hf
  have HLN := Lib.hid hl.reads.len
  have hn100 : n ≤ 100 := by rw [← hl.reads.len]; exact hf.1
  have R1 := Lib.hid h1
  clear h1
  unfold hO at hW
  simp only [hd0] at hW
  clear hb0 hl hf
  go_enter Tryz.func26, Tryz.ntmps26
  go_wp2_with fail
  rw [← hW]
  refine (heldRight_b HT.out.reads HT.out.nil HF.out R1.out).mono ?_
  rintro e w1 ⟨rfl, hb⟩
  have HBq := Lib.hid (HB.out.trans (hb.mono HB.out.size))
  clear HB
  have HB := HBq
  clear HBq
  have HTq := Lib.hid (HT.out.next hb)
  clear HT
  have HT := HTq
  clear HTq
  have BRq := Lib.hid (BR.out.next hb)
  clear BR
  have BR := BRq
  clear BRq
  clear hb
  clear hW
  have p0 := BR.out.c0
  have y0 := BR.out.frozen 0
  have p1 := BR.out.c1
  have y1 := BR.out.frozen 1
  have p2 := BR.out.c2
  have y2 := BR.out.frozen 2
  have p3 := BR.out.c3
  have y3 := BR.out.frozen 3
  go_wp2
  have b1 := BR.out.store4 hd0 none 0 0
  have r0 := b1.c0
  have r1 := b1.c1
  have r2 := b1.c2
  have r3 := b1.c3
  simp only [hd0] at r0 r1 r2 r3
  refine bodyPost_ret (v := .tuple #[.agg #[.int .i64 hd0.id, .slice none 0 0, .int .i64 hd0.frm, .int .i64 hd0.to], .bool false]) (by simp [results, Tryz.results26, go_sem, hd0, r0, r1, r2, r3]) rfl ⟨⟨none, 0, 0, rfl, hd0_ask _⟩, below_four HB.out (Nat.le_refl _)⟩

set_option maxRecDepth 100000 in
set_option maxHeartbeats 8000000 in
theorem heldGet_2 (A : Option Addr) (n c : Nat) (l : Tb) (id : Int) (w : World) (hl : TAsk w A n c l) (hf : FewT l) (h1 : rightT l = true) (h2 : hasT l id = false) :
    Calls Tryz.prog 26 #[.slice A n c, .int .i64 id] w (GHPost hd0 false w) := by
  obtain ⟨W, hW⟩ : ∃ W, W = w.alloc (hO hd0 none 0 0) := ⟨_, rfl⟩
  have BR : Hid (BoxH W w.heap.size hd0 none 0 0) := Lib.hid (by rw [hW]; exact boxH_new w hd0 none 0 0)
  have hb0 : Below w.heap.size w W := by rw [hW]; exact (Below.refl _ _).alloc (Nat.le_refl _) _
  have HB := Lib.hid hb0
  have HT := Lib.hid (hl.next hb0)
  have HF := Lib.hid hf
  have HLN := Lib.hid hl.reads.len
  have hn100 : n ≤ 100 := by rw [← hl.reads.len]; exact hf.1
  have R1 := Lib.hid h1
  have HHAS := Lib.hid h2
  have HIDS := Lib.hid (rightT_is.1 h1).ids
  clear h1 h2
  unfold hO at hW
  simp only [hd0] at hW
  clear hb0 hl hf
  go_enter Tryz.func26, Tryz.ntmps26
  go_wp2_with fail
  rw [← hW]
  refine (heldRight_b HT.out.reads HT.out.nil HF.out R1.out).mono ?_
  rintro e w1 ⟨rfl, hb⟩
  have HBq := Lib.hid (HB.out.trans (hb.mono HB.out.size))
  clear HB
  have HB := HBq
  clear HBq
  have HTq := Lib.hid (HT.out.next hb)
  clear HT
  have HT := HTq
  clear HTq
  have BRq := Lib.hid (BR.out.next hb)
  clear BR
  have BR := BRq
  clear BRq
  clear hb
  clear hW
  go_wp2_with fail
  refine (hfind_any A n c l id _ HT.out.reads (by omega) HIDS.out).mono ?_
  rintro e w2 ⟨⟨K, rfl, hK⟩, hb⟩
  have HK := Lib.hid hK
  have HHE : Hid (hereB l id K = false) := Lib.hid (by rw [here_has HIDS.out hK]; exact HHAS.out)
  rw [HHE.out]
  clear hK
  have HBq := Lib.hid (HB.out.trans (hb.mono HB.out.size))
  clear HB
  have HB := HBq
  clear HBq
  have HTq := Lib.hid (HT.out.next hb)
  clear HT
  have HT := HTq
  clear HTq
  have BRq := Lib.hid (BR.out.next hb)
  clear BR
  have BR := BRq
  clear BRq
  clear hb
  have p0 := BR.out.c0
  have y0 := BR.out.frozen 0
  have p1 := BR.out.c1
  have y1 := BR.out.frozen 1
  have p2 := BR.out.c2
  have y2 := BR.out.frozen 2
  have p3 := BR.out.c3
  have y3 := BR.out.frozen 3
  go_wp2
  have b1 := BR.out.store4 hd0 none 0 0
  have r0 := b1.c0
  have r1 := b1.c1
  have r2 := b1.c2
  have r3 := b1.c3
  simp only [hd0] at r0 r1 r2 r3
  refine bodyPost_ret (v := .tuple #[.agg #[.int .i64 hd0.id, .slice none 0 0, .int .i64 hd0.frm, .int .i64 hd0.to], .bool false]) (by simp [results, Tryz.results26, go_sem, hd0, r0, r1, r2, r3]) rfl ⟨⟨none, 0, 0, rfl, hd0_ask _⟩, below_four HB.out (Nat.le_refl _)⟩

set_option maxRecDepth 100000 in
set_option maxHeartbeats 8000000 in
theorem heldGet_3 (A : Option Addr) (n c : Nat) (l : Tb) (id : Int) (w : World) (hl : TAsk w A n c l) (hf : FewT l) (h1 : rightT l = true) (h2 : hasT l id = true) :
    Calls Tryz.prog 26 #[.slice A n c, .int .i64 id] w (GHPost (getT l id) true w) := by
  obtain ⟨W, hW⟩ : ∃ W, W = w.alloc (hO hd0 none 0 0) := ⟨_, rfl⟩
  have BR : Hid (BoxH W w.heap.size hd0 none 0 0) := Lib.hid (by rw [hW]; exact boxH_new w hd0 none 0 0)
  have hb0 : Below w.heap.size w W := by rw [hW]; exact (Below.refl _ _).alloc (Nat.le_refl _) _
  have HB := Lib.hid hb0
  have HT := Lib.hid (hl.next hb0)
  have HF := Lib.hid hf
  have HLN := Lib.hid hl.reads.len
  have hn100 : n ≤ 100 := by rw [← hl.reads.len]; exact hf.1
  have R1 := Lib.hid h1
  have HHAS := Lib.hid h2
  have HIDS := Lib.hid (rightT_is.1 h1).ids
  obtain ⟨gx, hgx⟩ : ∃ gx, getT l id = gx := ⟨_, rfl⟩
  have HGX := Lib.hid hgx
  rw [hgx]
  clear h1 h2 hgx
  unfold hO at hW
  simp only [hd0] at hW
  clear hb0 hl hf
  go_enter Tryz.func26, Tryz.ntmps26
  go_wp2_with fail
  rw [← hW]
  refine (heldRight_b HT.out.reads HT.out.nil HF.out R1.out).mono ?_
  rintro e w1 ⟨rfl, hb⟩
  have HBq := Lib.hid (HB.out.trans (hb.mono HB.out.size))
  clear HB
  have HB := HBq
  clear HBq
  have HTq := Lib.hid (HT.out.next hb)
  clear HT
  have HT := HTq
  clear HTq
  have BRq := Lib.hid (BR.out.next hb)
  clear BR
  have BR := BRq
  clear BRq
  clear hb
  clear hW
  go_wp2_with fail
  refine (hfind_any A n c l id _ HT.out.reads (by omega) HIDS.out).mono ?_
  rintro e w2 ⟨⟨K, rfl, hK⟩, hb⟩
  have HK := Lib.hid hK
  have HHE : Hid (hereB l id K = true) := Lib.hid (by rw [here_has HIDS.out hK]; exact HHAS.out)
  rw [HHE.out]
  clear hK
  have HBq := Lib.hid (HB.out.trans (hb.mono HB.out.size))
  clear HB
  have HB := HBq
  clear HBq
  have HTq := Lib.hid (HT.out.next hb)
  clear HT
  have HT := HTq
  clear HTq
  have BRq := Lib.hid (BR.out.next hb)
  clear BR
  have BR := BRq
  clear BRq
  clear hb
  have hKl := (here_facts HHE.out).1
  have hga := get_at R1.out HHE.out
  rw [HGX.out] at hga
  have hKn : K < n := by rw [← HLN.out]; exact hKl
  have hmx := HF.out.at hKl
  obtain ⟨b, off, A2, m2, c2, rfl, hbl, c0, c1, c2', c3, hx⟩ := HT.out.reads.one hKn
  obtain ⟨x, hxx⟩ : ∃ x, l.getD K hd0 = x := ⟨_, rfl⟩
  rw [hxx] at c0 c2' c3 hx hmx hga
  have hga2 := hga.symm
  subst hga2
  have HX := Lib.hid hx
  have hm2 : m2 ≤ 1000 := by have := hx.reads.1; omega
  clear hx hxx hmx hKl hga
  go_wp2_with fail
  refine (own_any A2 m2 c2 x _ HX.out hm2).mono ?_
  rintro e w3 ⟨⟨A5, c5, rfl, hx5, he5⟩, hb⟩
  have hlt5 := BR.out.lt
  have HE5 := Lib.hid he5
  have HLT := Lib.hid hlt5
  clear hx5 he5 hlt5
  have HBq := Lib.hid (HB.out.trans (hb.mono HB.out.size))
  clear HB
  have HB := HBq
  clear HBq
  have HTq := Lib.hid (HT.out.next hb)
  clear HT
  have HT := HTq
  clear HTq
  have BRq := Lib.hid (BR.out.next hb)
  clear BR
  have BR := BRq
  clear BRq
  clear hb
  clear c0 c1 c2' c3
  have p0 := BR.out.c0
  have y0 := BR.out.frozen 0
  have p1 := BR.out.c1
  have y1 := BR.out.frozen 1
  have p2 := BR.out.c2
  have y2 := BR.out.frozen 2
  have p3 := BR.out.c3
  have y3 := BR.out.frozen 3
  go_wp2
  have b1 := BR.out.store4 x A5 m2 c5
  have r0 := b1.c0
  have r1 := b1.c1
  have r2 := b1.c2
  have r3 := b1.c3
  refine bodyPost_ret (v := .tuple #[.agg #[.int .i64 x.id, .slice A5 m2 c5, .int .i64 x.frm, .int .i64 x.to], .bool true]) (by simp [results, Tryz.results26, go_sem, r0, r1, r2, r3]) rfl ⟨⟨A5, m2, c5, rfl, ?_⟩, below_four HB.out (Nat.le_refl _)⟩
  exact EH.ask (eh_steady.keep HE5.out (fun b hb => four_other (by have := HLT.out; omega)) (ok' := fun b => b < _) (fun b hb => by rw [four_size]; exact hb.2)) (fun _ h => h)

theorem heldGet_any (A : Option Addr) (n c : Nat) (l : Tb) (id : Int) (w : World) (hl : TAsk w A n c l) (hf : FewT l) : Calls Tryz.prog 26 #[.slice A n c, .int .i64 id] w (GHPost (getT l id) (gotT l id) w) := by
  cases h1 : rightT l with
  | false =>
    have e : gotT l id = false := by unfold gotT; rw [h1]; rfl
    rw [get_none e, e]
    exact heldGet_1 A n c l id w hl hf h1
  | true =>
    have e : gotT l id = hasT l id := by unfold gotT; rw [h1]; rfl
    rw [e]
    cases h2 : hasT l id with
    | false =>
      rw [get_none (e.trans h2)]
      exact heldGet_2 A n c l id w hl hf h1 h2
    | true => exact heldGet_3 A n c l id w hl hf h1 h2

end Go.Proofs.YtpoalgkgomljmaaGreatDoor

namespace Go.Proofs.YtpoalgkgomljmaaGreatDoor
open Go.RowKit

set_option maxRecDepth 100000 in
set_option maxHeartbeats 8000000 in
theorem heldEnds_yes (A : Option Addr) (n c : Nat) (l : Tb) (z : Int) (w : World) (hl : TAsk w A n c l) (hf : FewT l) (hrt : rightT l = true) :
    Calls Tryz.prog 18 #[.slice A n c, .int .i64 z] w (IPost (endsT l z) w) := by
  obtain ⟨i0, hi0, hz0, hz1, hz2⟩ := info_parts int64_infoH
  have HT := Lib.hid hl
  have HF := Lib.hid hf
  have R1 := Lib.hid hrt
  have HL := Lib.hid hl.reads.len
  have hn100 : n ≤ 100 := by rw [← hl.reads.len]; exact hf.1
  obtain ⟨L, hLL⟩ : ∃ L, (l.map Hd.to).filter (fun t => decide (z < t)) = L := ⟨_, rfl⟩
  have HLL := Lib.hid hLL
  have HE : Hid (endsT l z = L.foldr insZ []) := Lib.hid (by unfold endsT; rw [if_pos hrt, hLL])
  rw [HE.out]
  clear hl hf hrt hLL
  go_enter Tryz.func18, Tryz.ntmps18
  go_wp2_with fail
  refine (heldRight_b HT.out.reads HT.out.nil HF.out R1.out).mono ?_
  rintro e w1 ⟨rfl, hb1⟩
  have HB1 := Lib.hid hb1
  have HT1 := Lib.hid (HT.out.next hb1)
  clear hb1
  go_wp2
  go_loopw [5, 13] (fun v i wr => ∃ k : Nat, k ≤ n ∧ i = .int .i64 k ∧ ON EI 1 2 w1 v (((l.take k).map Hd.to).filter (fun t => decide (z < t))) wr) (fun _ i _ => n - (intOf i).toNat)
  case atStart => exact ⟨0, Nat.zero_le _, rfl, ON.nil _⟩
  case round =>
    obtain ⟨k, hk, rfl, hrel⟩ := hrel
    have HK := Lib.hid hrel
    clear hrel
    by_cases hlt : k < n
    · have hkl : k < l.length := by rw [HL.out]; exact hlt
      have HLA : Hid ((((l.take k).map Hd.to).filter (fun t => decide (z < t))).length ≤ 1000) := Lib.hid (by have := List.length_filter_le (fun t : Int => decide (z < t)) ((l.take k).map Hd.to); rw [List.length_map, List.length_take] at this; omega)
      obtain ⟨b, off, A2, m2, c2, rfl, hbl, c0, c1', c2', c3', hx⟩ := RT.one (HT1.out.reads.next HK.out.below) hlt
      have hyes := ends_take_yes (z := z) hkl
      have hno := ends_take_no (z := z) hkl
      obtain ⟨x, hxx⟩ : ∃ x, l.getD k hd0 = x := ⟨_, rfl⟩
      rw [hxx] at c0 c2' c3' hyes hno
      have hba : Below wr.heap.size wr (wr.alloc (hO x A2 m2 c2)) := (Below.refl _ _).alloc (Nat.le_refl _) _
      have HKa := Lib.hid (HK.out.next ei_steady hba)
      have HBX : Hid (BoxH (wr.alloc (hO x A2 m2 c2)) wr.heap.size x A2 m2 c2) := Lib.hid (boxH_new wr x A2 m2 c2)
      unfold hO at HKa HBX
      obtain ⟨Wa, hWa⟩ : ∃ Wa, wr.alloc (.cells #[.int .i64 x.id, .slice A2 m2 c2, .int .i64 x.frm, .int .i64 x.to] 51) = Wa := ⟨_, rfl⟩
      rw [hWa] at HKa HBX
      have q3 := HBX.out.c3
      by_cases hto : z < x.to
      · have d0 : decide (z < x.to) = true := decide_eq_true hto
        have HS := Lib.hid (hyes hto)
        clear hyes hno hx hxx hto hkl hba hbl
        go_wp2_with (at_builtin; refine append_EI rfl (.tmp 21) (.tmp 24) 44 2 rfl HKa.out i0 Tryz.underlying44 hi0 hz0 hz1 hz2 rfl _ rfl HLA.out ?_; intro v' w4 hON4; refine Hid.out ?_)
        refine Lib.hid ?_
        have HO4 := Lib.hid hON4
        clear hON4 c0 c1' c2' c3' q3
        go_wp2
        go_roundw
        case rel => exact ⟨k + 1, by omega, by go_num, by rw [HS.out]; exact HO4.out⟩
        case measure => simp [intOf]; omega
      · have d0 : decide (z < x.to) = false := decide_eq_false hto
        have HS := Lib.hid (hno hto)
        clear hyes hno hx hxx hto hkl hba hbl
        go_wp2_with (simp only [hWa])
        go_roundw
        case rel => exact ⟨k + 1, by omega, by go_num, by rw [HS.out]; exact HKa.out⟩
        case measure => simp [intOf]; omega
    · have hkn : k = n := by omega
      have htk : l.take k = l := List.take_of_length_le (by rw [HL.out]; omega)
      rw [htk, HLL.out] at HK
      obtain ⟨A1, c1, rfl, hnil1, hc1⟩ := HK.out.form
      have hLn : L.length ≤ 1000 := by
        rw [← HLL.out]
        have := List.length_filter_le (fun t : Int => decide (z < t)) (l.map Hd.to)
        rw [List.length_map, HL.out] at this
        omega
      have HC1 := Lib.hid hc1
      have HN1 := Lib.hid hnil1
      have HLn := Lib.hid hLn
      obtain ⟨len, hlen⟩ : ∃ len, L.length = len := ⟨_, rfl⟩
      have HLEN := Lib.hid hlen
      rw [hlen] at HK HC1 HLn ⊢
      clear htk hnil1 hc1 hLn hlen
      go_wp2_with fail
      refine (sortTimes_any A1 len c1 L w1 wr HK.out HLEN.out HLn.out).mono ?_
      rintro e w5 ⟨rfl, hb5, hs⟩
      have HB5 := Lib.hid hb5
      rcases hs with h0 | ⟨g, rfl, hgb, hgl, hH⟩
      · subst h0
        have HE0 : Hid (L.foldr insZ [] = []) := Lib.hid (by
          have : L = [] := List.eq_nil_of_length_eq_zero HLEN.out
          rw [this]
          rfl)
        clear hb5
        go_wp2_with fail
        refine (compact_short A1 0 c1 w5 (by omega)).mono ?_
        rintro e w6 ⟨rfl, rfl⟩
        have HP : Hid (IPost (L.foldr insZ []) w (.returned (.slice A1 0 c1)) w6) := Lib.hid (by
          rw [HE0.out]
          exact ipost_mk RI.nil HN1.out HC1.out (HB1.out.trans (HB5.out.mono HB1.out.size)))
        go_wp2
        go_ret
        exact HP.out
      · have HS5 := Lib.hid (compactTimes_any g len c1 (L.mergeSort fun x y => decide (x ≤ y)) w1 w5 hb5 hgb hgl hH (by rw [List.length_mergeSort, HLEN.out]) HLn.out HC1.out)
        rw [compact_sort] at HS5
        clear hb5 hgb hgl hH
        go_wp2_with fail
        refine HS5.out.mono ?_
        rintro e w6 ⟨⟨A6, c6, rfl, hr6, hn6, hc6⟩, hb6⟩
        have HP : Hid (IPost (L.foldr insZ []) w (.returned (.slice A6 (L.foldr insZ []).length c6)) w6) := Lib.hid ⟨⟨A6, c6, rfl, hr6, hn6, hc6⟩, HB1.out.trans (hb6.mono HB1.out.size)⟩
        obtain ⟨r, hr⟩ : ∃ r, (L.foldr insZ []).length = r := ⟨_, rfl⟩
        rw [hr] at HP ⊢
        clear hr6 hn6 hc6 hb6 hr
        go_wp2
        go_ret
        exact HP.out
theorem heldEnds_any (A : Option Addr) (n c : Nat) (l : Tb) (z : Int) (w : World) (hl : TAsk w A n c l) (hf : FewT l) :
    Calls Tryz.prog 18 #[.slice A n c, .int .i64 z] w (IPost (endsT l z) w) := by
  cases h1 : rightT l with
  | true => exact heldEnds_yes A n c l z w hl hf h1
  | false =>
    have e : endsT l z = [] := by unfold endsT; rw [h1, if_neg (by simp)]
    rw [e]
    have R1 := Lib.hid h1
    have HT := Lib.hid hl
    have HF := Lib.hid hf
    clear h1 hl hf e
    go_enter Tryz.func18, Tryz.ntmps18
    go_wp2_with fail
    refine (heldRight_b HT.out.reads HT.out.nil HF.out R1.out).mono ?_
    rintro e w1 ⟨rfl, hb⟩
    have HB := Lib.hid hb
    clear hb
    go_wp2
    go_ret
    exact ipost_nil HB.out

end Go.Proofs.YtpoalgkgomljmaaGreatDoor

namespace Go.Proofs.YtpoalgkgomljmaaGreatDoor
open Go.RowKit

theorem heldOk_is : HeldOk where
  right A n c l w hl hf := heldRight_any A n c l w hl.reads hl.nil hf
  busy A n c l a b w hl hf := heldBusy_any A n c l a b w hl hf
  ends A n c l z w hl hf := heldEnds_any A n c l z w hl hf
  get A n c l id w hl hf := heldGet_any A n c l id w hl hf
  add A n c l A2 m c2 h w hl hf hh hm := heldAdd_any A n c l A2 m c2 h w hl hf hh hm

end Go.Proofs.YtpoalgkgomljmaaGreatDoor
