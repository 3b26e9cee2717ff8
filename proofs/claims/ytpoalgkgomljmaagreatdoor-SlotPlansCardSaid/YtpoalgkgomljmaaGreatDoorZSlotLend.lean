/- The reference's Lend: a table of its own. Written by gen/gen_slot.py. -/
import Derived.Deep.QuietTactic
import Derived.LoopTactic
import Derived.Test.YtpoalgkgomljmaaGreatDoorMg04
import Derived.Test.YtpoalgkgomljmaaGreatDoorZReadStep
namespace Go.Proofs.YtpoalgkgomljmaaGreatDoor
open Go.RowKit

theorem BoxH.setL {wr : World} {g j : Nat} {h h' : Hd} {A A' : Option Addr} {m c m' c' : Nat} {v : Value} (x : BoxH wr g h A m c) (e : (#[.int .i64 h.id, .slice A m c, .int .i64 h.frm, .int .i64 h.to] : Array Value).setIfInBounds j v = #[.int .i64 h'.id, .slice A' m' c', .int .i64 h'.frm, .int .i64 h'.to]) : BoxH (wr.setCell ⟨g, j, none⟩ v) g h' A' m' c' := by
  refine ⟨by simpa [World.setCell] using x.lt, ?_⟩
  show (wr.heap.modify g _)[g]? = _
  rw [Array.getElem?_modify, if_pos rfl, x.at']
  unfold hO
  simp only [Option.map_some]
  rw [← e]
  rfl
set_option maxRecDepth 100000 in
set_option maxHeartbeats 8000000 in
theorem refLend_any {A : Option Addr} {n c : Nat} {l : Tb} {w : World} (hl : TAsk w A n c l) (hn : n ≤ 1000) (hf : ∀ k, k < n → (l.getD k hd0).things.length ≤ 1000) :
    Calls Tryz.prog 14 #[.slice A n c] w fun e w' => (∃ A1 c1, e = .returned (.slice A1 n c1) ∧ TAsk w' A1 n c1 l) ∧ Below w.heap.size w w' := by
  obtain ⟨i0, hi0, hz0, hz1, hz2⟩ := info_parts int_info
  obtain ⟨j0, hj0, hy0, hy1, hy2⟩ := info_parts held_info
  have TA := Lib.hid hl
  have HL := Lib.hid hl.reads.len
  have HF := Lib.hid hf
  clear hl hf
  go_enter Tryz.func14, Tryz.ntmps14
  go_wp2
  go_loopw [3, 4] (fun ov iv wr => ∃ (k : Nat) (v0 : Value), v0 = ov ∧ k ≤ n ∧ iv = .int .i64 k ∧ ON EH 4 51 w v0 (l.take k) wr) (fun _ iv _ => n - (intOf iv).toNat)
  case atStart => exact ⟨0, _, rfl, Nat.zero_le _, rfl, by simpa using ON.nil _⟩
  case round =>
    obtain ⟨k, v0, rfl, hk, rfl, hrel⟩ := hrel
    have HK := Lib.hid hrel
    clear hrel
    by_cases hlt : k < n
    · have hkl : k < l.length := by rw [HL.out]; exact hlt
      have TAI := Lib.hid (TA.out.next HK.out.below)
      have HFK := Lib.hid (HF.out k hlt)
      obtain ⟨b, off, A2, m2, c2, rfl, hb1, e0, e1, e2, e3, hh⟩ := TAI.out.reads.one hlt
      obtain ⟨x, hx⟩ : ∃ x, l.getD k hd0 = x := ⟨_, rfl⟩
      have HTK : Hid (l.take (k + 1) = l.take k ++ [x]) := Lib.hid (by rw [List.take_succ_eq_append_getElem hkl, ← hx, List.getD, List.getElem?_eq_getElem hkl]; rfl)
      rw [hx] at hh e0 e2 e3 HFK
      have hba : Below wr.heap.size wr (wr.alloc (.cells #[.int .i64 x.id, .slice A2 m2 c2, .int .i64 x.frm, .int .i64 x.to] 51)) := (Below.refl _ _).alloc (Nat.le_refl _) _
      have hbb : Below (wr.alloc (.cells #[.int .i64 x.id, .slice A2 m2 c2, .int .i64 x.frm, .int .i64 x.to] 51)).heap.size (wr.alloc (.cells #[.int .i64 x.id, .slice A2 m2 c2, .int .i64 x.frm, .int .i64 x.to] 51)) ((wr.alloc (.cells #[.int .i64 x.id, .slice A2 m2 c2, .int .i64 x.frm, .int .i64 x.to] 51)).alloc (.cells #[] 3)) := (Below.refl _ _).alloc (Nat.le_refl _) _
      have BX : Hid (BoxH (wr.alloc (.cells #[.int .i64 x.id, .slice A2 m2 c2, .int .i64 x.frm, .int .i64 x.to] 51)) wr.heap.size x A2 m2 c2) := Lib.hid (boxH_new wr x A2 m2 c2)
      have HHL := Lib.hid hh.reads.1
      have hmz : m2 ≤ 1000 := by rw [← hh.reads.1]; exact HFK.out
      have HR2 := Lib.hid ((hh.next hba).next hbb)
      have HHI := Lib.hid hh.int
      have HKA := Lib.hid (HK.out.next eh_steady hba)
      have HLA : Hid ((l.take k).length + 1 ≤ maxLen) := Lib.hid (by rw [List.length_take]; unfold maxLen; omega)
      have HLB : Hid (((l.take k).length + 1) * 48 ≤ 140737488355328) := Lib.hid (by rw [List.length_take]; omega)
      have HVO := Lib.hid (fun b hb => (HK.out.own b hb).2)
      have q0 := BX.out.c0
      have q1 := BX.out.c1
      have q2 := BX.out.c2
      have q3 := BX.out.c3
      have BXB := Lib.hid (BX.out.next hbb)
      have q1' := BXB.out.c1
      clear hba hbb hx hh hkl hb1
      go_wp2_with (at_builtin; refine wpList_append_RI _ rfl _ _ 23 rfl (wr.alloc (.cells #[.int .i64 x.id, .slice A2 m2 c2, .int .i64 x.frm, .int .i64 x.to] 51)).heap.size 3 i0 (.int .i64 0) 8 Tryz.underlying23 hi0 hz0 hz1 hz2 rfl (.slice (some ⟨(wr.alloc (.cells #[.int .i64 x.id, .slice A2 m2 c2, .int .i64 x.frm, .int .i64 x.to] 51)).heap.size, 0, none⟩) 0 0) 0 [] (by simp; rfl) (World.ownsRow_made (wr.alloc (.cells #[.int .i64 x.id, .slice A2 m2 c2, .int .i64 x.frm, .int .i64 x.to] 51)) #[] 0 (Nat.le_refl _) (Nat.zero_le _) rfl) _ A2 m2 c2 x.things rfl HR2.out.reads HR2.out.nil (by unfold maxLen; omega) (by omega) (by simp) ?_; intro v' w1 hown hgrow; refine Hid.out ?_)
      refine Lib.hid ?_
      have HO : Hid (ON EI 1 3 (wr.alloc (.cells #[.int .i64 x.id, .slice A2 m2 c2, .int .i64 x.frm, .int .i64 x.to] 51)) v' x.things w1) := Lib.hid (own_on (by have h := hown; rw [Nat.zero_add, List.nil_append] at h; rw [HHL.out]; exact h) (((Below.refl _ (wr.alloc (.cells #[.int .i64 x.id, .slice A2 m2 c2, .int .i64 x.frm, .int .i64 x.to] 51))).alloc (Nat.le_refl _) _).grown hgrow (by simp) (by intro q hq; have hq' : (wr.alloc (.cells #[.int .i64 x.id, .slice A2 m2 c2, .int .i64 x.frm, .int .i64 x.to] 51)).heap.size = q := (by simpa [Value.ownBlock] using hq); omega)))
      clear hown hgrow
      obtain ⟨A5, c5, rfl, hn5, hc5⟩ := HO.out.form
      have hb1 := HO.out.below
      have BX1 := Lib.hid (BX.out.next hb1)
      have hsz : (wr.alloc (.cells #[.int .i64 x.id, .slice A2 m2 c2, .int .i64 x.frm, .int .i64 x.to] 51)).heap.size = wr.heap.size + 1 := by simp
      have hbw : Below wr.heap.size wr w1 := ((Below.refl wr.heap.size wr).alloc (Nat.le_refl _) (.cells #[.int .i64 x.id, .slice A2 m2 c2, .int .i64 x.frm, .int .i64 x.to] 51)).trans (hb1.mono (by simp))
      have HB2 : Hid (Below wr.heap.size wr (w1.setCell ⟨wr.heap.size, 1, none⟩ (.slice A5 x.things.length c5))) := Lib.hid (hbw.setCell (p := ⟨wr.heap.size, 1, none⟩) (Nat.le_refl _) _)
      have HK2 := Lib.hid (HK.out.next eh_steady HB2.out)
      have BX2 : Hid (BoxH (w1.setCell ⟨wr.heap.size, 1, none⟩ (.slice A5 x.things.length c5)) wr.heap.size x A5 x.things.length c5) := Lib.hid (BX1.out.setL rfl)
      have OW : Hid ((w1.setCell ⟨wr.heap.size, 1, none⟩ (.slice A5 x.things.length c5)).ownsRow (wr.alloc (.cells #[.int .i64 x.id, .slice A2 m2 c2, .int .i64 x.frm, .int .i64 x.to] 51)).heap.size 3 1 (.slice A5 x.things.length c5) x.things.length (x.things.map (Value.int .i64))) := Lib.hid (ownsRow_setCell_below (on_own HO.out).1 (by rw [hsz]; exact Nat.lt_succ_self _) _)
      have HH2 : Hid (HAsk (w1.setCell ⟨wr.heap.size, 1, none⟩ (.slice A5 x.things.length c5)) A5 x.things.length c5 x) := Lib.hid ⟨RI.of_own OW.out, hn5, hc5, by rw [HHL.out]; unfold maxLen; omega, HHI.out⟩
      have HE : Hid (EH (w1.setCell ⟨wr.heap.size, 1, none⟩ (.slice A5 x.things.length c5)) (fun b => b < (w1.setCell ⟨wr.heap.size, 1, none⟩ (.slice A5 x.things.length c5)).heap.size ∧ v0.ownBlock ≠ some b) x [.int .i64 x.id, .slice A5 x.things.length c5, .int .i64 x.frm, .int .i64 x.to]) := Lib.hid (by
        obtain ⟨A6, m6, c6, hv, hr6, h6⟩ := HAsk.el HH2.out (Below.refl _ _)
        refine ⟨A6, m6, c6, hv, ⟨hr6.1, fun h0 => ?_⟩, h6⟩
        obtain ⟨b', off', e6, hlt6, hc6⟩ := hr6.2 h0
        refine ⟨b', off', e6, ⟨hlt6, fun e7 => ?_⟩, hc6⟩
        have h8 := HVO.out b' e7
        have hA : A5 = A6 := by
          simp only [List.cons.injEq, Value.slice.injEq] at hv
          exact hv.2.1.1
        have h9 := (OW.out.lt b' (by rw [hA, e6]; rfl)).1
        rw [hsz] at h9
        omega)
      have H1C : Hid (∀ u ∈ (#[.int .i64 x.id, .slice A5 x.things.length c5, .int .i64 x.frm, .int .i64 x.to] : Array Value).toList, u.oneCell' = true) := Lib.hid (fun u hu => by
        simp only [List.mem_cons, List.not_mem_nil, or_false] at hu
        rcases hu with rfl | rfl | rfl | rfl <;> rfl)
      have y1 := BX1.out.c1
      have z1 := BX1.out.frozen 1
      have r0 := BX2.out.c0
      have r1 := BX2.out.c1
      have r2 := BX2.out.c2
      have r3 := BX2.out.c3
      clear hb1 hbw hsz hn5 hc5 q0 q1 q2 q3 q1' BXB BX e0 e1 e2 e3
      go_wp2_with (at_builtin; refine wpList_append_ON rfl (.tmp 21) (.tmp 23) 24 rfl eh_steady HK2.out j0 (.agg #[.int .i64 0, .slice none 0 0, .int .i64 0, .int .i64 0]) 48 Tryz.underlying24 hj0 hy0 hy1 hy2 rfl (by decide) rfl x #[.int .i64 x.id, .slice A5 x.things.length c5, .int .i64 x.frm, .int .i64 x.to] (by first | rfl | (simp; rfl)) rfl H1C.out HE.out HLA.out HLB.out ?_; intro v' w6 hON6; refine Hid.out ?_)
      refine Lib.hid ?_
      rw [← HTK.out] at hON6
      have HO6 := Lib.hid hON6
      clear hON6
      go_wp2
      go_roundw
      case rel => exact ⟨k + 1, _, rfl, by omega, by go_num, HO6.out⟩
      case measure => simp [intOf] <;> omega
    · have HK2 : Hid (ON EH 4 51 w v0 l wr) := Lib.hid (by
        have h1 := HK.out
        rw [List.take_of_length_le (by rw [HL.out]; omega)] at h1
        exact h1)
      clear HK
      obtain ⟨A9, c9, rfl, hn9, hc9⟩ := HK2.out.form
      have HT : Hid (TAsk wr A9 n c9 l) := Lib.hid (by rw [← HL.out]; exact ⟨HK2.out.reads eh_steady (by omega) rfl, hn9, hc9, by rw [HL.out]; unfold maxLen; omega⟩)
      have HB := Lib.hid HK2.out.below
      rw [HL.out]
      clear hn9 hc9 HK2
      go_wp2
      go_ret
      exact ⟨⟨A9, c9, rfl, HT.out⟩, HB.out⟩

end Go.Proofs.YtpoalgkgomljmaaGreatDoor
