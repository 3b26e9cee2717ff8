/- The program's Right of layer 10. Written by gen/gen_heldpright.py. Words for memory: several rows of one's own that grow beside one another, whose elements read older memory alone. General: nothing of the program stands here. 'copy(dst, src)' as a step of a walk, for elements of several cells, dst lying in a row that is known whole. General: nothing of the program stands here. slices.Insert and slices.Delete of holdings (the library's own text), in a row of one's own: there is room or not, at the end or ahead of it. slices.Delete of one holding (the library's own text), in a row of one's own. -/
import Derived.Test.YtbiofikijehlcaaDoorMg07
import Derived.Test.YtbiofikijehlcaaDoorMg04
import Derived.Test.YtbiofikijehlcaaDoorMg01
import Derived.Laws.CopyOwn
import Derived.Lib.Overlaps
import Derived.Lib.AppendZerosOnto
import Derived.Deep.RegionLaw
import Derived.Laws.NewBlocks
import Derived.IntWalk
import Derived.LoopTactic
import Derived.Test.YtbiofikijehlcaaDoorMg05
import Derived.Shelf.GgSortFunc.RowK
import Derived.Lib.SliceRun
import Derived.Laws.Rows
namespace Go.Proofs.YtbiofikijehlcaaDoor
open Go.RowKit

set_option maxRecDepth 100000 in
set_option maxHeartbeats 8000000 in
theorem heldRight_any (A : Option Addr) (n c : Nat) (l : Tb) (w : World) (hr : RT w w.heap.size A n l) (hnil : A = none → c = 0) (hf : FewT l) :
    Calls Tryd.prog 14 #[.slice A n c] w fun e w' => e = .returned (.bool (rightT l)) ∧ Below w.heap.size w w' := by
  have HR0 := Lib.hid hr
  have HL := Lib.hid hr.len
  have HNIL := Lib.hid hnil
  have HF := Lib.hid hf
  have hn : n ≤ 100 := by rw [← hr.len]; exact hf.1
  obtain ⟨rv, hrv⟩ : ∃ v, rightT l = v := ⟨_, rfl⟩
  have HV := Lib.hid hrv
  rw [hrv]
  clear hr hnil hf hrv
  go_enter Tryd.func14, Tryd.ntmps14
  go_wp2
  go_loopw [10] (fun iv wr => ∃ i : Nat, i ≤ n ∧ iv = .int .i64 i ∧ Rise l i ∧ Below w.heap.size w wr) (fun iv _ => n - (intOf iv).toNat)
  case atStart => exact ⟨0, Nat.zero_le _, rfl, rise_zero l, Below.refl _ _⟩
  case round =>
    obtain ⟨i, hi, rfl, hrp, hbel⟩ := hrel
    have HRP := Lib.hid hrp
    have HB := Lib.hid hbel
    have HR := Lib.hid (HR0.out.next hbel)
    clear hrp hbel
    by_cases hlt : i < n
    · obtain ⟨b, off, A2, m2, c2, rfl, hbl, c0, c1, c2', c3, hx⟩ := HR.out.one hlt
      obtain ⟨x, hxx⟩ : ∃ x, l.getD i hd0 = x := ⟨_, rfl⟩
      rw [hxx] at c0 c2' c3 hx
      have HXX := Lib.hid hxx
      have hil : i < l.length := by rw [HL.out]; exact hlt
      have hba : Below wr.heap.size wr (wr.alloc (hO x A2 m2 c2)) := (Below.refl _ _).alloc (Nat.le_refl _) _
      have HXa := Lib.hid (hx.next hba)
      have HRa := Lib.hid (HR.out.next hba)
      have HBa := Lib.hid (HB.out.trans (hba.mono HB.out.size))
      have HBX : Hid (BoxH (wr.alloc (hO x A2 m2 c2)) wr.heap.size x A2 m2 c2) := Lib.hid (boxH_new wr x A2 m2 c2)
      have hbl' : b < (wr.alloc (hO x A2 m2 c2)).heap.size := by simp; omega
      unfold hO at HXa HRa HBa HBX hbl'
      obtain ⟨Wa, hWa⟩ : ∃ Wa, wr.alloc (.cells #[.int .i64 x.id, .slice A2 m2 c2, .int .i64 x.frm, .int .i64 x.to] 37) = Wa := ⟨_, rfl⟩
      rw [hWa] at HXa HRa HBa HBX hbl'
      clear hx hxx hba HR HB
      have HB := Lib.hid HBa.out
      have HX := Lib.hid HXa.out
      have HR := Lib.hid HRa.out
      clear HBa HXa HRa
      by_cases hm : MayH x
      · have HMX := Lib.hid hm
        have EM : Hid (mayH x = true) := Lib.hid (decide_eq_true hm)
        clear hm
        by_cases h0 : 0 < i
        · obtain ⟨b', off', A4, m4, c4, e1, hbl2, e0, _, _, _, _⟩ := HR.out.one (show i - 1 < n by omega)
          injection e1 with e1
          injection e1 with e2 e3
          subst e2 e3
          obtain ⟨y, hy⟩ : ∃ y, (l.getD (i - 1) hd0).id = y := ⟨_, rfl⟩
          rw [hy] at e0
          have HYI := Lib.hid hy
          have g0 : decide (0 < i) = true := decide_eq_true h0
          have g1 : ((i : Int) - 1) = ((i - 1 : Nat) : Int) := by omega
          have hiz : (0 : Int) ≤ (i : Int) - 1 := by omega
          have hin : (i : Int) - 1 < (n : Int) := by omega
          clear hy hbl2
          by_cases h1 : x.id ≤ y
          · have g2 : decide (x.id ≤ y) = true := decide_eq_true h1
            have HNO : Hid (rightT l = false) := Lib.hid (Rise.bad_id hil h0 (by rw [HXX.out, HYI.out]; exact h1))
            clear h1
            go_wp2_with (simp only [hWa])
            clear hWa c0 c1 c2' c3
            have zc0 : ∀ p : Later Wa, p.now.cell? ⟨wr.heap.size, 0, none⟩ = some (.int .i64 x.id) := fun _ => Later.cell HBX.out.lt HBX.out.c0
            have zc1 : ∀ p : Later Wa, p.now.cell? ⟨wr.heap.size, 1, none⟩ = some (.slice A2 m2 c2) := fun _ => Later.cell HBX.out.lt HBX.out.c1
            have zc2 : ∀ p : Later Wa, p.now.cell? ⟨wr.heap.size, 2, none⟩ = some (.int .i64 x.frm) := fun _ => Later.cell HBX.out.lt HBX.out.c2
            have zc3 : ∀ p : Later Wa, p.now.cell? ⟨wr.heap.size, 3, none⟩ = some (.int .i64 x.to) := fun _ => Later.cell HBX.out.lt HBX.out.c3
            have zc4 : ∀ p : Later Wa, p.now.cell? ⟨b, off + (i - 1) * 4, none⟩ = some (.int .i64 y) := fun _ => Later.cell hbl' e0
            refine wp_region_later (by kernel_rfl) (by kernel_rfl) ?_
            repeat (first | go_big_quiet_skip | (go_big_quiet_want; go_big_quiet_op; first | go_big_quiet_on | (apply Exists.intro; refine ⟨fun pz => ?_, ?_⟩; (first | (go_at_call 23; exact Calls.later_of (may_any (HX.out.next pz.bel) EM.out)) | fail); go_big_quiet_on)))
            refine wpQuiet_nil ?_
            intro _ hw'
            obtain ⟨pz, rfl⟩ := hw'
            obtain ⟨w1, hb⟩ := pz
            try dsimp only
            clear zc0 zc1 zc2 zc3 zc4
            have HBq := Lib.hid (HB.out.trans (hb.mono HB.out.size))
            clear HB
            have HB := HBq
            clear HBq
            have HXq := Lib.hid (HX.out.next hb)
            clear HX
            have HX := HXq
            clear HXq
            have HRq := Lib.hid (HR.out.next hb)
            clear HR
            have HR := HRq
            clear HRq
            clear hb
            go_wp2
            go_ret
            exact ⟨by rw [← HV.out, HNO.out]; rfl, HB.out⟩
          · have g2 : decide (x.id ≤ y) = false := decide_eq_false h1
            have HID : Hid (0 < i → (l.getD (i - 1) hd0).id < (l.getD i hd0).id) := Lib.hid (fun _ => by rw [HYI.out, HXX.out]; omega)
            clear h1
            go_wp2_with (simp only [hWa])
            clear hWa c0 c1 c2' c3
            have zc0 : ∀ p : Later Wa, p.now.cell? ⟨wr.heap.size, 0, none⟩ = some (.int .i64 x.id) := fun _ => Later.cell HBX.out.lt HBX.out.c0
            have zc1 : ∀ p : Later Wa, p.now.cell? ⟨wr.heap.size, 1, none⟩ = some (.slice A2 m2 c2) := fun _ => Later.cell HBX.out.lt HBX.out.c1
            have zc2 : ∀ p : Later Wa, p.now.cell? ⟨wr.heap.size, 2, none⟩ = some (.int .i64 x.frm) := fun _ => Later.cell HBX.out.lt HBX.out.c2
            have zc3 : ∀ p : Later Wa, p.now.cell? ⟨wr.heap.size, 3, none⟩ = some (.int .i64 x.to) := fun _ => Later.cell HBX.out.lt HBX.out.c3
            have zc4 : ∀ p : Later Wa, p.now.cell? ⟨b, off + (i - 1) * 4, none⟩ = some (.int .i64 y) := fun _ => Later.cell hbl' e0
            refine wp_region_later (by kernel_rfl) (by kernel_rfl) ?_
            repeat (first | go_big_quiet_skip | (go_big_quiet_want; go_big_quiet_op; first | go_big_quiet_on | (apply Exists.intro; refine ⟨fun pz => ?_, ?_⟩; (first | (go_at_call 23; exact Calls.later_of (may_any (HX.out.next pz.bel) EM.out)) | fail); go_big_quiet_on)))
            refine wpQuiet_nil ?_
            intro _ hw'
            obtain ⟨pz, rfl⟩ := hw'
            obtain ⟨w1, hb⟩ := pz
            try dsimp only
            clear zc0 zc1 zc2 zc3 zc4
            have HBq := Lib.hid (HB.out.trans (hb.mono HB.out.size))
            clear HB
            have HB := HBq
            clear HBq
            have HXq := Lib.hid (HX.out.next hb)
            clear HX
            have HX := HXq
            clear HXq
            have HRq := Lib.hid (HR.out.next hb)
            clear HR
            have HR := HRq
            clear HRq
            clear hb
            go_wp2
            go_roundw
            case rel => exact ⟨i + 1, by omega, by go_num, HRP.out.next (by rw [HL.out]; exact hlt) (by rw [HXX.out]; exact HMX.out) HID.out, HB.out⟩
            case measure => simp [intOf]; omega
        · have g0 : decide (0 < i) = false := decide_eq_false h0
          have HID : Hid (0 < i → (l.getD (i - 1) hd0).id < (l.getD i hd0).id) := Lib.hid (fun h => absurd h h0)
          go_wp2_with (simp only [hWa])
          clear hWa c0 c1 c2' c3
          have zc0 : ∀ p : Later Wa, p.now.cell? ⟨wr.heap.size, 0, none⟩ = some (.int .i64 x.id) := fun _ => Later.cell HBX.out.lt HBX.out.c0
          have zc1 : ∀ p : Later Wa, p.now.cell? ⟨wr.heap.size, 1, none⟩ = some (.slice A2 m2 c2) := fun _ => Later.cell HBX.out.lt HBX.out.c1
          have zc2 : ∀ p : Later Wa, p.now.cell? ⟨wr.heap.size, 2, none⟩ = some (.int .i64 x.frm) := fun _ => Later.cell HBX.out.lt HBX.out.c2
          have zc3 : ∀ p : Later Wa, p.now.cell? ⟨wr.heap.size, 3, none⟩ = some (.int .i64 x.to) := fun _ => Later.cell HBX.out.lt HBX.out.c3
          refine wp_region_later (by kernel_rfl) (by kernel_rfl) ?_
          repeat (first | go_big_quiet_skip | (go_big_quiet_want; go_big_quiet_op; first | go_big_quiet_on | (apply Exists.intro; refine ⟨fun pz => ?_, ?_⟩; (first | (go_at_call 23; exact Calls.later_of (may_any (HX.out.next pz.bel) EM.out)) | fail); go_big_quiet_on)))
          refine wpQuiet_nil ?_
          intro _ hw'
          obtain ⟨pz, rfl⟩ := hw'
          obtain ⟨w1, hb⟩ := pz
          try dsimp only
          clear zc0 zc1 zc2 zc3
          have HBq := Lib.hid (HB.out.trans (hb.mono HB.out.size))
          clear HB
          have HB := HBq
          clear HBq
          have HXq := Lib.hid (HX.out.next hb)
          clear HX
          have HX := HXq
          clear HXq
          have HRq := Lib.hid (HR.out.next hb)
          clear HR
          have HR := HRq
          clear HRq
          clear hb
          go_wp2
          go_roundw
          case rel => exact ⟨i + 1, by omega, by go_num, HRP.out.next (by rw [HL.out]; exact hlt) (by rw [HXX.out]; exact HMX.out) HID.out, HB.out⟩
          case measure => simp [intOf]; omega
      · have EM : Hid (mayH x = false) := Lib.hid (decide_eq_false hm)
        have HNO : Hid (rightT l = false) := Lib.hid (Rise.bad_may hil (by rw [HXX.out]; exact EM.out))
        clear hm
        go_wp2_with (simp only [hWa])
        clear hWa c0 c1 c2' c3
        have zc0 : ∀ p : Later Wa, p.now.cell? ⟨wr.heap.size, 0, none⟩ = some (.int .i64 x.id) := fun _ => Later.cell HBX.out.lt HBX.out.c0
        have zc1 : ∀ p : Later Wa, p.now.cell? ⟨wr.heap.size, 1, none⟩ = some (.slice A2 m2 c2) := fun _ => Later.cell HBX.out.lt HBX.out.c1
        have zc2 : ∀ p : Later Wa, p.now.cell? ⟨wr.heap.size, 2, none⟩ = some (.int .i64 x.frm) := fun _ => Later.cell HBX.out.lt HBX.out.c2
        have zc3 : ∀ p : Later Wa, p.now.cell? ⟨wr.heap.size, 3, none⟩ = some (.int .i64 x.to) := fun _ => Later.cell HBX.out.lt HBX.out.c3
        refine wp_region_later (by kernel_rfl) (by kernel_rfl) ?_
        repeat (first | go_big_quiet_skip | (go_big_quiet_want; go_big_quiet_op; first | go_big_quiet_on | (apply Exists.intro; refine ⟨fun pz => ?_, ?_⟩; (first | (go_at_call 23; exact Calls.later_of (may_any (HX.out.next pz.bel) EM.out)) | fail); go_big_quiet_on)))
        refine wpQuiet_nil ?_
        intro _ hw'
        obtain ⟨pz, rfl⟩ := hw'
        obtain ⟨w1, hb⟩ := pz
        try dsimp only
        clear zc0 zc1 zc2 zc3
        have HBq := Lib.hid (HB.out.trans (hb.mono HB.out.size))
        clear HB
        have HB := HBq
        clear HBq
        have HXq := Lib.hid (HX.out.next hb)
        clear HX
        have HX := HXq
        clear HXq
        have HRq := Lib.hid (HR.out.next hb)
        clear HR
        have HR := HRq
        clear HRq
        clear hb
        go_wp2
        go_ret
        exact ⟨by rw [← HV.out, HNO.out]; rfl, HB.out⟩
    · have hin : i = n := by omega
      have hil : i = l.length := by rw [HL.out]; exact hin
      have HRE : Hid (Rise l l.length) := Lib.hid (by rw [← hil]; exact HRP.out)
      have HE : Hid (rv = !twiceB l) := Lib.hid (by rw [← HV.out]; exact HRE.out.end (by rw [HL.out]; omega))
      clear hil
      go_wp2_with fail
      refine (twice_any A n c l wr HR.out HNIL.out HF.out (fun x hx => HRE.out.may x (by rw [List.take_length]; exact hx))).mono ?_
      rintro e w2 ⟨rfl, hb⟩
      have HB2 := Lib.hid (HB.out.trans (hb.mono HB.out.size))
      obtain ⟨tv, htv⟩ : ∃ v, twiceB l = v := ⟨_, rfl⟩
      rw [htv] at HE ⊢
      clear hb htv
      go_wp2
      go_ret
      exact ⟨by rw [HE.out]; rfl, HB2.out⟩
theorem heldRight_b {A : Option Addr} {n c : Nat} {l : Tb} {w : World} {v : Bool} (hr : RT w w.heap.size A n l) (hnil : A = none → c = 0) (hf : FewT l) (h : rightT l = v) :
    Calls Tryd.prog 14 #[.slice A n c] w fun e w' => e = .returned (.bool v) ∧ Below w.heap.size w w' := by
  subst h; exact heldRight_any A n c l w hr hnil hf

end Go.Proofs.YtbiofikijehlcaaDoor

namespace Go.Proofs.YtbiofikijehlcaaDoor
open Go.RowKit

/-- a row that grows keeps all that is not its own -/
structure Keeps (wr : World) (v : Value) (w' : World) (v' : Value) : Prop where
  block : ∀ b, b < wr.heap.size → v.ownBlock ≠ some b → w'.heap[b]? = wr.heap[b]?
  size : wr.heap.size ≤ w'.heap.size
  own : v'.ownBlock = v.ownBlock ∨ ∀ b, v'.ownBlock = some b → wr.heap.size ≤ b
theorem Keeps.refl (w : World) (v : Value) : Keeps w v w v := ⟨fun _ _ _ => rfl, Nat.le_refl _, .inl rfl⟩
theorem Keeps.trans {w w1 w2 : World} {v v1 v2 : Value} (h : Keeps w v w1 v1) (k : Keeps w1 v1 w2 v2) : Keeps w v w2 v2 := by
  refine ⟨fun b hb hv => (k.block b (Nat.lt_of_lt_of_le hb h.size) (fun e => ?_)).trans (h.block b hb hv), Nat.le_trans h.size k.size, ?_⟩
  · rcases h.own with h1 | h1
    · exact hv (h1.symm.trans e)
    · have := h1 b e; omega
  · rcases k.own with h2 | h2
    · rcases h.own with h1 | h1
      · exact .inl (h2.trans h1)
      · exact .inr fun b hb => h1 b (by rw [← h2]; exact hb)
    · exact .inr fun b hb => Nat.le_trans h.size (h2 b hb)

/-- an owned row that reads as xs, in a world that keeps all that was there in w; what its elements reach was there in w -/
def OB {α : Type} (E : Elem α) (C : Nat) (t : TypeId) (w : World) (v : Value) (xs : List α) (wr : World) : Prop :=
  ∃ fl : List Value, wr.ownsRow w.heap.size t C v xs.length fl ∧ Below w.heap.size w wr ∧
    ∀ j x, xs[j]? = some x → E wr (Lt w.heap.size) x ((fl.drop (j * C)).take C)
section
variable {α : Type} {E : Elem α} {C : Nat} {t : TypeId} {w w1 w2 wr : World} {v v' v2 : Value} {xs ys : List α}
theorem OB.nil (w : World) (hb : Below w.heap.size w wr) : OB E C t w (.slice none 0 0) [] wr := ⟨[], by simpa using World.ownsRow_nil wr w.heap.size t C, hb, fun j x h => by simp at h⟩
theorem OB.below (h : OB E C t w v xs wr) : Below w.heap.size w wr := let ⟨_, _, h2, _⟩ := h; h2
theorem OB.on (hE : Steady E) (h : OB E C t w v xs wr) : ON E C t w v xs wr := by
  obtain ⟨fl, h1, h2, h3⟩ := h
  refine ⟨fl, h1, h2, fun j x hx => hE.keep (h3 j x hx) (fun _ _ => rfl) (fun b (hb : b < w.heap.size) => ⟨Nat.lt_of_lt_of_le hb h2.size, fun e => ?_⟩)⟩
  have := (h1.lt b e).1
  omega
/-- another row has grown, or new memory was made -/
theorem OB.keep (hE : Steady E) (h : OB E C t w v xs wr) (hb : Below w.heap.size w w1) (hk : ∀ g, v.ownBlock = some g → w1.heap[g]? = wr.heap[g]?) : OB E C t w v xs w1 := by
  obtain ⟨fl, h1, h2, h3⟩ := h
  refine ⟨fl, ⟨h1.1, h1.2.imp id ?_⟩, hb, fun j x hx => hE.keep (h3 j x hx) (fun b (hb' : b < w.heap.size) => (hb.block b hb').trans (h2.block b hb').symm) (fun _ hb' => hb')⟩
  rintro ⟨g, cap, cur, e1, e2, e3, e4⟩
  exact ⟨g, cap, cur, e1, e2, (hk g (by rw [e1]; rfl)).trans e3, e4⟩
theorem OB.next (hE : Steady E) (h : OB E C t w v xs wr) (hb : Below wr.heap.size wr w1) : OB E C t w v xs w1 :=
  h.keep hE (h.below.trans (hb.mono h.below.size)) fun g hg => by
    obtain ⟨fl, h1, _⟩ := h
    exact hb.block g (h1.lt g hg).2
/-- the rows' blocks are two -/
def Apart2 (v v2 : Value) : Prop := ∀ g, v.ownBlock = some g → v2.ownBlock ≠ some g
theorem Apart2.comm (h : Apart2 v v2) : Apart2 v2 v := fun g h1 h2 => h g h2 h1
theorem OB.keeps (hE : Steady E) (h2 : OB E C t w v2 ys wr) (hb : Below w.heap.size w w1) (hk : Keeps wr v w1 v') (ha : Apart2 v v2) : OB E C t w v2 ys w1 ∧ Apart2 v' v2 := by
  obtain ⟨fl, h3, _⟩ := id h2
  refine ⟨h2.keep hE hb fun g hg => hk.block g (h3.lt g hg).2 (fun e => ha g e hg), fun g hg hg2 => ?_⟩
  rcases hk.own with e | e
  · rw [e] at hg; exact ha g hg hg2
  · have := e g hg
    have := (h3.lt g hg2).2
    omega
/-- 'out = append(out, x)': x has been laid into a block of its own -/
theorem wpList_append_OB {P : Program} {ops : Array Oper} {rest : List Oper} {o : Oper} {a : Act} {Q : Exit → Act → World → Prop} (hgd : o.guard = none) (s x : Operand) (ty : TypeId)
    (ho : o.op = .call { callee := .builtin .append, args := #[s, x], argTypes := #[ty, ty] })
    (hE : Steady E) (h : OB E C t w v xs wr) (i : TypeInfo) (z : Value) (bytes : Nat) (ht : P.underlying ty = some (.slice t)) (hi : P.info? t = some i) (hz : i.zero = some z)
    (hsize : i.size = C) (hby : i.bytes = bytes) (hzs : z.cells.size = C) (hsz : 0 < C)
    (hs : a.eval s = v) (x0 : α) (cs : Array Value) (hx : a.eval x = .slice (some ⟨wr.heap.size, 0, none⟩) 1 1) (hl : cs.toList.length = C) (h1 : ∀ u ∈ cs.toList, u.oneCell' = true)
    (he : E wr (Lt w.heap.size) x0 cs.toList)
    (h63 : xs.length + 1 ≤ maxLen) (hbytes : (xs.length + 1) * bytes ≤ 140737488355328)
    (hk : ∀ v' w', OB E C t w v' (xs ++ [x0]) w' → Keeps wr v w' v' → wpList P ops Q rest (a.put o.dst v') w') : wpList P ops Q (o :: rest) a (wr.alloc (.cells cs t)) := by
  have hB := h.below
  obtain ⟨fl, h2, _, h4⟩ := id h
  refine wpList_append_lies (wr.alloc (.cells cs t)) hgd s x ty ho w.heap.size t i z C bytes ht hi hz hsize hby hzs hsz v xs.length fl hs (h2.alloc _) ⟨wr.heap.size, 0, none⟩ 1 1 cs.toList hx (by rw [hl]; omega)
    (World.news_of_block (cs := cs) (t := t) (fr := (0, 0)) (heap_alloc_new wr _)) h1 (by omega) h63 hbytes (by have := hB.size; simp; omega) _ rfl ?_
  intro g cap w2 hown' hgrow hat hlt
  have hsw : wr.heap.size ≤ w2.heap.size := by have := hgrow.size; simp at this; omega
  have hbel : Below w.heap.size w w2 := (hB.alloc hB.size _).grown hgrow (by have := hB.size; simp; omega) (fun j hj => (h2.lt j hj).1)
  refine hk _ _ ⟨fl ++ cs.toList, by rw [List.length_append]; exact hown', hbel, fun j y hy => ?_⟩ ⟨fun b hb hv => (hgrow.block b (by simp; omega) (fun e => hv e.symm)).trans (Below.heap_alloc wr _ b hb), hsw, ?_⟩
  · have keep : ∀ {y : α} {us : List Value}, E wr (Lt w.heap.size) y us → E w2 (Lt w.heap.size) y us := fun h => hE.keep h (fun b (hb : b < w.heap.size) => (hbel.block b hb).trans (hB.block b hb).symm) (fun _ hb => hb)
    have hfll := h2.1
    rcases Nat.lt_trichotomy j xs.length with hj | hj | hj
    · rw [List.getElem?_append_left hj] at hy
      have e := keep (h4 j y hy)
      have hlen : j * C + C ≤ fl.length := by rw [hfll, ← Nat.succ_mul]; exact Nat.mul_le_mul_right C hj
      rw [List.drop_append_of_le_length (by omega), List.take_append_of_le_length (by rw [List.length_drop]; omega)]
      exact e
    · subst hj
      rw [List.getElem?_append_right (Nat.le_refl _)] at hy
      simp at hy
      subst hy
      rw [← hfll, List.drop_append_of_le_length (Nat.le_refl _), List.drop_length, List.nil_append, List.take_of_length_le (by omega)]
      exact keep he
    · rw [List.getElem?_eq_none (by rw [List.length_append]; simp; omega)] at hy
      cases hy
  · rcases hat with h5 | h5
    · exact .inl h5.symm
    · refine .inr fun b hb => ?_
      have hb' : g = b := by simpa [Value.ownBlock] using hb
      rw [← hb', h5]; simp
end

end Go.Proofs.YtbiofikijehlcaaDoor

namespace Go.Proofs.YtbiofikijehlcaaDoor
open Go.RowKit

theorem run_copy_rowN {P : Program} (w : World) (dT sT ty elem : TypeId) (g o dLen dCap : Nat) (a : Addr) (sLen sCap : Nat) (cur : Array Value) (t : TypeId) (cs : List Value) (size : Nat)
    (hu : P.underlying dT = some (.slice elem)) (hs : (P.info? elem).map (·.size) = some size)
    (hg : w.heap[g]? = some (.cells cur t (0, 0))) (hn : cs.length = Nat.min sLen dLen * size)
    (hsrc : ∀ j v, cs[j]? = some v → w.cell? (a.add j) = some v) (hfit : o + cs.length ≤ cur.size) (h1 : ∀ v ∈ cs, v.oneCell' = true) :
    (Builtin.copy_ #[dT, sT] ty #[.slice (some ⟨g, o, none⟩) dLen dCap, .slice (some a) sLen sCap]).run P w =
      .ok (goInt (Nat.min sLen dLen : Nat)) (w.setRow g (cur.toList.take o ++ cs ++ cur.toList.drop (o + cs.length)).toArray) := by
  have hl := run_loadCells_list (P := P) w a cs hsrc
  have hst := run_storeCells_at P g o t cs 0 cur w hg (by simpa using hfit) h1
  cases hq : P.info? elem with
  | none => simp [hq] at hs
  | some i =>
    have hi : i.size = size := by simpa [hq] using hs
    have hl' : (loadCells a (Nat.min sLen dLen * size)).run P w = .ok cs.toArray w := by rw [← hn]; exact hl
    simp [Builtin.copy_, run_underlying hu, Builtin.lenOf, Builtin.firstCells, sizeOf, typeInfo, hq, hi, hl', hst]

/-- what is known behind a copy: the row, all other blocks, and what lies below -/
structure Copied (B : Nat) (w0 w : World) (g : Nat) (L : List Value) (t : TypeId) (w' : World) : Prop where
  row : w'.heap[g]? = some (.cells L.toArray t (0, 0))
  other : ∀ k, k ≠ g → w'.heap[k]? = w.heap[k]?
  below : Below B w0 w'
  size : w'.heap.size = w.heap.size
theorem copied_row {B : Nat} {w0 w : World} {g : Nat} {L : List Value} {t : TypeId} {cur : List Value} (hg : w.heap[g]? = some (.cells cur.toArray t (0, 0))) (hb : Below B w0 w) (hBg : B ≤ g) : Copied B w0 w g L t (w.setRow g L.toArray) :=
  ⟨setRow_heap w g _ _ t _ hg, fun k hk => setRow_other w g k _ hk, below_setRow hb hBg _, by simp [World.setRow]⟩

theorem wpList_copy_rowN {P : Program} {w : World} {ops : Array Oper} {rest : List Oper} {o : Oper} {a : Act} {Q : Exit → Act → World → Prop} (hgd : o.guard = none) (d s : Operand) (dT sT : TypeId)
    (ho : o.op = .call { callee := .builtin .copy, args := #[d, s], argTypes := #[dT, sT] }) (elem : TypeId) (hu : P.underlying dT = some (.slice elem)) (size : Nat) (hsz : (P.info? elem).map (·.size) = some size)
    (g off dLen dCap : Nat) (ad : Addr) (sLen sCap : Nat) (hd : a.eval d = .slice (some ⟨g, off, none⟩) dLen dCap) (hs : a.eval s = .slice (some ad) sLen sCap)
    (cur : List Value) (t : TypeId) (hg : w.heap[g]? = some (.cells cur.toArray t (0, 0))) (cs : List Value) (hn : cs.length = Nat.min sLen dLen * size)
    (hsrc : ∀ j v, cs[j]? = some v → w.cell? (ad.add j) = some v) (hfit : off + cs.length ≤ cur.length) (h1 : ∀ v ∈ cs, v.oneCell' = true) (B : Nat) (w0 : World) (hb : Below B w0 w) (hBg : B ≤ g)
    (off' : Nat) (hoff : off = off')
    (h : ∀ w', Hid (Copied B w0 w g (splice cur off' cs) t w') → wpList P ops Q rest (a.put o.dst (goInt (Nat.min sLen dLen : Nat))) w') : wpList P ops Q (o :: rest) a w := by
  subst hoff
  refine wpList_plain hgd fun K hK => ?_
  have hrun := run_copy_rowN (P := P) w dT sT o.type elem g off dLen dCap ad sLen sCap cur.toArray t cs size hu hsz hg hn hsrc (by simpa using hfit) h1
  unfold Oper.wp
  simp only [execOp, ho, resolve, invoke, builtin, Sem.run_bind, Sem.run_pure, Result.andThen_ok, List.map_toArray, List.map_cons, List.map_nil, hd, hs, hrun]
  refine hK _ _ (h _ (Lib.hid ?_))
  have := copied_row (L := splice cur off cs) hg hb hBg
  simpa [splice] using this
theorem step_copy_rowN {P : Program} {ops : Array Oper} {o : Oper} {a : Act} {w : World} {K : Act → World → Prop} {Q : Exit → Act → World → Prop} {E : Prop} (hgd : o.guard = none) (d s : Operand) (dT sT : TypeId)
    (ho : o.op = .call { callee := .builtin .copy, args := #[d, s], argTypes := #[dT, sT] }) (elem : TypeId) (hu : P.underlying dT = some (.slice elem)) (size : Nat) (hsz : (P.info? elem).map (·.size) = some size)
    (g off dLen dCap : Nat) (ad : Addr) (sLen sCap : Nat) (hd : a.eval d = .slice (some ⟨g, off, none⟩) dLen dCap) (hs : a.eval s = .slice (some ad) sLen sCap)
    (cur : List Value) (t : TypeId) (hg : w.heap[g]? = some (.cells cur.toArray t (0, 0))) (cs : List Value) (hn : cs.length = Nat.min sLen dLen * size)
    (hsrc : ∀ j v, cs[j]? = some v → w.cell? (ad.add j) = some v) (hfit : off + cs.length ≤ cur.length) (h1 : ∀ v ∈ cs, v.oneCell' = true) (B : Nat) (w0 : World) (hb : Below B w0 w) (hBg : B ≤ g)
    (off' : Nat) (hoff : off = off')
    (h : ∀ w', Hid (Copied B w0 w g (splice cur off' cs) t w') → K (a.put o.dst (goInt (Nat.min sLen dLen : Nat))) w') :
    if Region.wanted o (yielded ops a.tmps) = true then Oper.wp P o a w K Q else E := by
  subst hoff
  have hw : Region.wanted o (yielded ops a.tmps) = true := by simp [Region.wanted, hgd]
  rw [if_pos hw]
  have hrun := run_copy_rowN (P := P) w dT sT o.type elem g off dLen dCap ad sLen sCap cur.toArray t cs size hu hsz hg hn hsrc (by simpa using hfit) h1
  unfold Oper.wp
  simp only [execOp, ho, resolve, invoke, builtin, Sem.run_bind, Sem.run_pure, Result.andThen_ok, List.map_toArray, List.map_cons, List.map_nil, hd, hs, hrun]
  refine h _ (Lib.hid ?_)
  have := copied_row (L := splice cur off cs) hg hb hBg
  simpa [splice] using this

/-- a row whose tail goes up to make room, and what comes is laid there -/
theorem splice_shift {α : Type} {L c v : List α} {m : Nat} (hc : L.take c.length = c) (hm : m ≤ c.length) (hfit : c.length + v.length ≤ L.length) :
    (splice (splice L (m + v.length) (c.drop m)) m v).take (c.length + v.length) = c.take m ++ (v ++ c.drop m) := by
  have e1 : (splice L (m + v.length) (c.drop m)).take m = c.take m := by
    unfold splice
    rw [List.take_append_of_le_length (by rw [List.length_take]; omega), List.take_take, Nat.min_eq_left (by omega)]
    have := congrArg (List.take m) hc
    rwa [List.take_take, Nat.min_eq_left hm] at this
  have hl : (L.take (m + v.length)).length = m + v.length := by rw [List.length_take]; omega
  have e2 : (splice L (m + v.length) (c.drop m)).drop (m + v.length) = c.drop m ++ L.drop (m + v.length + (c.drop m).length) := by
    unfold splice
    rw [List.drop_append_of_le_length (by omega), List.drop_of_length_le (by omega), List.nil_append]
  show ((splice L (m + v.length) (c.drop m)).take m ++ (v ++ (splice L (m + v.length) (c.drop m)).drop (m + v.length))).take (c.length + v.length) = _
  rw [e1, e2, ← List.append_assoc v, ← List.append_assoc, ← List.append_assoc]
  rw [List.take_append_of_le_length (by simp; omega), List.take_of_length_le (by simp; omega), List.append_assoc]
/-- a new row's head, with what comes and the rest laid behind it -/
theorem splice_fill {α : Type} {L a v d : List α} (ha : L.take a.length = a) (_ : a.length + v.length + d.length ≤ L.length) :
    (splice (splice L a.length v) (a.length + v.length) d).take (a.length + v.length + d.length) = a ++ (v ++ d) := by
  have e1 : (splice L a.length v).take (a.length + v.length) = a ++ v := by
    unfold splice
    rw [ha, ← List.append_assoc, List.take_append_of_le_length (by simp), List.take_of_length_le (by simp)]
  show ((splice L a.length v).take (a.length + v.length) ++ (d ++ _)).take _ = _
  rw [e1, ← List.append_assoc, List.take_append_of_le_length (by simp; omega), List.take_of_length_le (by simp; omega), List.append_assoc]

end Go.Proofs.YtbiofikijehlcaaDoor

namespace Go.Proofs.YtbiofikijehlcaaDoor
open Go.RowKit

/-- the row behind an Insert or a Delete; all other blocks are kept -/
def InsQ (base n : Nat) (fl : List Value) (v : Value) (w : World) (e : Ending) (w' : World) : Prop :=
  ∃ v', e = .returned v' ∧ w'.ownsRow base 37 4 v' n fl ∧ Below base w w' ∧ Keeps w v w' v'
theorem held_size : (Tryd.prog.info? 37).map (·.size) = some 4 := by kernel_rfl
theorem add_off (b j k : Nat) : (⟨b, j, none⟩ : Addr).add k = ⟨b, j + k, none⟩ := by unfold Addr.add; split <;> simp_all

section
variable {base g cap n i vb : Nat} {fl cur : List Value} {v0 v1 v2 v3 : Value} {w : World}
theorem four_at {W : World} (hv : W.heap[vb]? = some (.cells #[v0, v1, v2, v3] 37 (0, 0))) : ∀ j u, ([v0, v1, v2, v3] : List Value)[j]? = some u → W.cell? ((⟨vb, 0, none⟩ : Addr).add j) = some u := by
  intro j u hj
  rw [add_off, cell_of_row W vb (0 + j) _ _ (0, 0) hv, Nat.zero_add]
  match j, hj with
  | 0, hj => exact hj
  | 1, hj => exact hj
  | 2, hj => exact hj
  | 3, hj => exact hj

set_option maxHeartbeats 4000000 in
set_option maxRecDepth 100000 in
/-- at the end -/
theorem insertH_end (hn : n ≤ 3000) (hown : w.ownsRow base 37 4 (.slice (some ⟨g, 0, none⟩) n cap) n fl)
    (hv : w.heap[vb]? = some (.cells #[v0, v1, v2, v3] 37 (0, 0))) (h4 : ∀ u ∈ ([v0, v1, v2, v3] : List Value), u.oneCell' = true) :
    Calls Tryd.prog 26 #[.slice (some ⟨g, 0, none⟩) n cap, .int .i64 n, .slice (some ⟨vb, 0, none⟩) 1 1] w (InsQ base (n + 1) (fl ++ [v0, v1, v2, v3]) (.slice (some ⟨g, 0, none⟩) n cap) w) := by
  obtain ⟨i0, hi0, hz0, hz1, hz2⟩ : ∃ i, Tryd.prog.info? 37 = some i ∧ i.zero = some (.agg #[.int .i64 0, .slice none 0 0, .int .i64 0, .int .i64 0]) ∧ i.size = 4 ∧ i.bytes = 48 := info_parts held_info
  have HO := Lib.hid hown
  have HG : Hid (base ≤ g ∧ g < w.heap.size) := Lib.hid (hown.lt g rfl)
  have HV := Lib.hid hv
  have H4 := Lib.hid h4
  clear hown hv h4
  go_enter Tryd.func26, Tryd.ntmps26
  go_wp2_with (at_builtin; refine wpList_append_lies _ rfl _ _ 22 rfl base 37 i0 (.agg #[.int .i64 0, .slice none 0 0, .int .i64 0, .int .i64 0]) 4 48 Tryd.underlying22 hi0 hz0 hz1 hz2 rfl (by decide) (.slice (some ⟨g, 0, none⟩) n cap) n _ rfl HO.out ⟨vb, 0, none⟩ 1 1 [v0, v1, v2, v3] rfl rfl (World.news_of_block HV.out) H4.out (by omega) (by unfold maxLen; omega) (by omega) (by have := HG.out; omega) _ rfl ?_; intro g' cap' w1 hown' hgrow hat _; refine Hid.out ?_)
  all_goals refine Lib.hid ?_
  all_goals have R := Lib.hid hown'
  all_goals have HB : Hid (Below base w w1) := Lib.hid ((Below.refl _ _).grown hgrow (by have := HG.out; omega) (fun k hk => (HO.out.lt k hk).1))
  all_goals have HK : Hid (Keeps w (.slice (some ⟨g, 0, none⟩) n cap) w1 (.slice (some ⟨g', 0, none⟩) (n + 1) cap')) := Lib.hid ⟨fun b hb hne => hgrow.block b hb (fun e => hne e.symm), hgrow.size, hat.imp (fun e => e.symm) (fun e b hb => by
      have hb' : g' = b := by simpa [Value.ownBlock] using hb
      rw [← hb', e]; exact Nat.le_refl _)⟩
  all_goals clear hown' hgrow hat
  all_goals go_wp2
  all_goals go_ret
  all_goals exact ⟨_, rfl, R.out, HB.out, HK.out⟩
end
theorem overlapsH_no (w : World) (vb g o lb cb : Nat) (a b c d : Value) (cur : List Value) (hg : w.heap[g]? = some (.cells cur.toArray 37 (0, 0))) (hpos : cur.length ≠ 0) (hv : w.heap[vb]? = some (.cells #[a, b, c, d] 37 (0, 0))) (hne : vb ≠ g) :
    (callFunc 42 #[.slice (some ⟨vb, 0, none⟩) 1 1, .slice (some ⟨g, o, none⟩) lb cb]).run Tryd.prog w = .ok (.value (.bool false)) w := by
  rw [run_callFunc_extern Tryd.func42 (by kernel_rfl) (by kernel_rfl) (by kernel_rfl) (e := Extern.SlicesOverlaps.overlaps #[22, 22] #[4]) (by kernel_rfl),
    Lib.run_overlaps_apart w 22 4 37 Tryd.underlying22 4 (fun _ => Tryd.sizeOf37 _) ⟨vb, 0, none⟩ ⟨g, o, none⟩ 1 1 lb cb hne 37 37 4 cur.length (by simp [World.shape?, hv]) (by simp [World.shape?, hg]) hpos (by simp [World.frozen?, hv]) (by simp [World.frozen?, hv])]
  rfl

set_option maxHeartbeats 4000000 in
set_option maxRecDepth 100000 in
/-- ahead of the end, and there is room -/
theorem insertH_room (base g cap n i vb : Nat) (cur : List Value) (fl : List Value) (v0 v1 v2 v3 : Value) (w : World) (hi : i < n) (hn : n ≤ 3000) (hg : w.heap[g]? = some (.cells cur.toArray 37 (0, 0))) (hroom : n + 1 ≤ cap) (hcm : cap ≤ maxLen) (hcs : cur.length = cap * 4)
    (htake : cur.take (n * 4) = fl) (hlc : fl.length = n * 4) (h1c : ∀ u ∈ fl, u.oneCell' = true) (h41 : ∀ u ∈ ([v0, v1, v2, v3] : List Value), u.oneCell' = true) (hb : base ≤ g) (hv : w.heap[vb]? = some (.cells #[v0, v1, v2, v3] 37 (0, 0))) (hne : vb ≠ g) :
    Calls Tryd.prog 26 #[.slice (some ⟨g, 0, none⟩) n cap, .int .i64 i, .slice (some ⟨vb, 0, none⟩) 1 1] w (InsQ base (n + 1) (fl.take (i * 4) ++ ([v0, v1, v2, v3] ++ fl.drop (i * 4))) (.slice (some ⟨g, 0, none⟩) n cap) w) := by
  have HOV : Hid (∀ o lb cb, (callFunc 42 #[.slice (some ⟨vb, 0, none⟩) 1 1, .slice (some ⟨g, o, none⟩) lb cb]).run Tryd.prog w = .ok (.value (.bool false)) w) := Lib.hid fun o lb cb => overlapsH_no w vb g o lb cb _ _ _ _ cur hg (by omega) hv hne
  have HG := Lib.hid hg
  have HV := Lib.hid hv
  have HT := Lib.hid htake
  have H1C := Lib.hid h1c
  have H41 := Lib.hid h41
  have HCS := Lib.hid hcs
  have HB := Lib.hid hb
  have HLC := Lib.hid hlc
  have s1 : Hid ((fl.drop (i * 4)).length = Nat.min (n + 1 - i) (n + 1 - (i + 1)) * 4) := Lib.hid (by
    rw [List.length_drop, hlc]
    show _ = min (n + 1 - i) (n + 1 - (i + 1)) * 4
    omega)
  have s2 : Hid (∀ j v, (fl.drop (i * 4))[j]? = some v → w.cell? ((⟨g, i * 4, none⟩ : Addr).add j) = some v) := Lib.hid (fun j v hj => by
    rw [add_off, cell_of_row w g (i * 4 + j) _ _ (0, 0) hg]
    rw [List.getElem?_drop, ← htake, List.getElem?_take] at hj
    split at hj
    · simpa using hj
    · cases hj)
  have s3 : Hid ((i + 1) * 4 + (fl.drop (i * 4)).length ≤ cur.length) := Lib.hid (by rw [List.length_drop, hlc, hcs]; omega)
  have s4 : Hid (∀ u ∈ fl.drop (i * 4), u.oneCell' = true) := Lib.hid (fun u hu => h1c u (List.mem_of_mem_drop hu))
  clear hg hv htake h1c h41 hcs hb hlc
  unfold maxLen at hcm
  have hb2 : ¬ (cap = i + 1) := by omega
  have hb4 : ¬ (cap = i) := by omega
  go_enter Tryd.func26, Tryd.ntmps26
  go_wp2_with (simp only [HOV.out])
  have hw1 : IntKind.i64.wrap ((i : Int) + 1) = (i : Int) + 1 := IntWalk.i64_in _ (by omega)
  have hb1 : (0 : Int) ≤ (i : Int) + 1 := by omega
  have htn : ((i : Int) + 1).toNat = i + 1 := by omega
  have hin : i ≤ n := by omega
  have hb3 : (i : Int) ≤ (n : Int) + 1 := by omega
  go_region_law (refine step_copy_rowN rfl (.tmp 73) (.tmp 76) 22 22 rfl 37 Tryd.underlying22 4 held_size g ((i + 1) * 4) (n + 1 - (i + 1)) (cap - (i + 1)) ⟨g, i * 4, none⟩ (n + 1 - i) (cap - i) (by simp [Act.eval, Act.put]) (by simp [Act.eval, Act.put]) cur 37 HG.out (fl.drop (i * 4)) s1.out s2.out s3.out s4.out base w ⟨rfl, rfl, rfl, Nat.le_refl _, fun _ _ => rfl⟩ HB.out _ rfl ?_; intro w4 H4)
  clear hw1 hb1 htn hb3
  obtain ⟨L1, hL1⟩ : ∃ L1, splice cur ((i + 1) * 4) (fl.drop (i * 4)) = L1 := ⟨_, rfl⟩
  have HL1 := Lib.hid hL1
  rw [hL1] at H4
  clear hL1
  have r1 : Hid (([v0, v1, v2, v3] : List Value).length = Nat.min 1 (n + 1 - i) * 4) := Lib.hid (by
    show 4 = min 1 (n + 1 - i) * 4
    omega)
  have r2 : Hid (∀ j v, ([v0, v1, v2, v3] : List Value)[j]? = some v → w4.cell? ((⟨vb, 0, none⟩ : Addr).add j) = some v) := Lib.hid (fun j v hj => by
    exact four_at ((H4.out.other vb hne).trans HV.out) j v hj)
  have r3 : Hid (i * 4 + ([v0, v1, v2, v3] : List Value).length ≤ L1.length) := Lib.hid (by
    have := s3.out
    rw [← HL1.out, length_splice _ _ _ s3.out, HCS.out]
    show i * 4 + 4 ≤ _
    omega)
  have r4 : Hid (∀ u ∈ ([v0, v1, v2, v3] : List Value), u.oneCell' = true) := H41
  go_wp2_with (with_reducible refine wpList_copy_rowN rfl (.tmp 80) (.tmp 81) 22 22 rfl 37 Tryd.underlying22 4 held_size g (i * 4) (n + 1 - i) (cap - i) ⟨vb, 0, none⟩ 1 1 rfl rfl L1 37 H4.out.row [v0, v1, v2, v3] r1.out r2.out r3.out r4.out base w H4.out.below HB.out _ rfl ?_; intro w5 H5; refine Hid.out ?_)
  refine Lib.hid ?_
  go_wp2
  go_ret
  have hlc := HLC.out
  refine ⟨_, rfl, ⟨by simp only [List.length_append, List.length_cons, List.length_take, List.length_drop, hlc]; omega, .inr ⟨g, cap, _, rfl, HB.out, H5.out.row, hroom, by unfold maxLen; omega, ?_, ?_⟩⟩, H5.out.below, ⟨fun b _ hne => (H5.out.other b (fun e => hne (by rw [e]; rfl))).trans (H4.out.other b (fun e => hne (by rw [e]; rfl))), by rw [H5.out.size, H4.out.size]; exact Nat.le_refl _, .inl rfl⟩⟩
  · have h3 := r3.out
    have h4 := s3.out
    rw [← HL1.out] at h3 ⊢
    rw [List.size_toArray, length_splice _ _ _ h3, length_splice _ _ _ h4, HCS.out]
  · have e1 : (i + 1) * 4 = i * 4 + ([v0, v1, v2, v3] : List Value).length := by simp; omega
    have e2 : (n + 1) * 4 = fl.length + ([v0, v1, v2, v3] : List Value).length := by rw [hlc]; simp; omega
    rw [← HL1.out, e1, e2, List.toList_toArray, splice_shift (by rw [hlc]; exact HT.out) (by omega) (by rw [hlc, HCS.out]; simp; omega)]
    rfl

set_option maxHeartbeats 4000000 in
set_option maxRecDepth 100000 in
/-- ahead of the end, and there is no room: a new row -/
theorem insertH_grow (base g n i vb : Nat) (fl : List Value) (v0 v1 v2 v3 : Value) (w : World) (hi : i < n) (hn : n ≤ 3000) (hg : w.heap[g]? = some (.cells fl.toArray 37 (0, 0)))
    (hlc : fl.length = n * 4) (h1c : ∀ u ∈ fl, u.oneCell' = true) (h41 : ∀ u ∈ ([v0, v1, v2, v3] : List Value), u.oneCell' = true) (hb : base ≤ g) (hv : w.heap[vb]? = some (.cells #[v0, v1, v2, v3] 37 (0, 0))) :
    Calls Tryd.prog 26 #[.slice (some ⟨g, 0, none⟩) n n, .int .i64 i, .slice (some ⟨vb, 0, none⟩) 1 1] w (InsQ base (n + 1) (fl.take (i * 4) ++ ([v0, v1, v2, v3] ++ fl.drop (i * 4))) (.slice (some ⟨g, 0, none⟩) n n) w) := by
  obtain ⟨i0, hi0, hz0, hz1, hz2⟩ : ∃ i, Tryd.prog.info? 37 = some i ∧ i.zero = some (.agg #[.int .i64 0, .slice none 0 0, .int .i64 0, .int .i64 0]) ∧ i.size = 4 ∧ i.bytes = 48 := info_parts held_info
  have hgw : g < w.heap.size := (Array.getElem?_eq_some_iff.1 hg).1
  have hvw : vb < w.heap.size := (Array.getElem?_eq_some_iff.1 hv).1
  have hcell : ∀ j v, fl[j]? = some v → w.cell? ⟨g, j, none⟩ = some v := fun j v hj => by
    rw [cell_of_row w g j _ _ (0, 0) hg]
    simpa using hj
  have hold : (Builtin.firstCells i0.size i (.slice (some ⟨g, 0, none⟩) i n)).run Tryd.prog w.drew = .ok (fl.take (i * 4)).toArray w.drew := by
    rw [hz1]
    exact run_firstCells_some w.drew 4 i ⟨g, 0, none⟩ i n (fl.take (i * 4)) (by rw [List.length_take]; omega) (fun j v hj => by
      rw [add_off, Nat.zero_add]
      rw [List.getElem?_take] at hj
      split at hj
      · exact hcell j v hj
      · cases hj)
  obtain ⟨G, hG⟩ : ∃ G, grownCap w (n + 1) n 37 = G := ⟨_, rfl⟩
  have hGn : n + 1 ≤ G := by rw [← hG]; exact grownCap_ge w _ _ _
  have hGm : G ≤ maxLen := by rw [← hG]; exact grownCap_le_maxLen w (n + 1) n 37 (by unfold maxLen; omega)
  obtain ⟨R, hR⟩ : ∃ R : List Value, ((fl.take (i * 4)).toArray ++ Builtin.zeroCells (Value.agg #[.int .i64 0, .slice none 0 0, .int .i64 0, .int .i64 0]).cells (n + 1 - i) ++ Builtin.zeroCells (Value.agg #[.int .i64 0, .slice none 0 0, .int .i64 0, .int .i64 0]).cells (G - (n + 1))).toList = R := ⟨_, rfl⟩
  have hRl : R.length = G * 4 := by
    rw [← hR, Array.length_toList, Array.size_append, Array.size_append, size_zeroCells, size_zeroCells]
    show (fl.take (i * 4)).toArray.size + (n + 1 - i) * 4 + (G - (n + 1)) * 4 = _
    rw [List.size_toArray, List.length_take]
    omega
  have hRt : R.take (i * 4) = fl.take (i * 4) := by
    rw [← hR, Array.toList_append, Array.toList_append, List.append_assoc, List.take_append_of_le_length (by simp; omega), List.take_of_length_le (by simp; omega)]
  obtain ⟨W1, hW1⟩ : ∃ W1, W1 = w.drew.alloc (.cells R.toArray 37) := ⟨_, rfl⟩
  have HRZ : Hid (∀ ty, (Builtin.append_ #[22, 3] ty #[.slice (some ⟨g, 0, none⟩) i n, .int .i64 ((n : Int) + 1 - (i : Int))]).run Tryd.prog w = .ok (.slice (some ⟨w.heap.size, 0, none⟩) (n + 1) G) W1) := Lib.hid (fun ty => by
    have h := Lib.run_append_grow_zeros w 22 3 ty 37 i0 _ .i64 .i64 Tryd.underlying22 Tryd.underlying3 hi0 hz0 (some ⟨g, 0, none⟩) i n (fl.take (i * 4)) hold (n + 1 - i) (by omega) (by rw [hz1]; omega) (by omega) (by omega) (by rw [hz2]; omega) (by rw [hz2, show i + (n + 1 - i) = n + 1 by omega]; exact growslice_fits (by omega) (by omega))
    rw [show i + (n + 1 - i) = n + 1 by omega, hG] at h
    rw [show ((n : Int) + 1 - (i : Int)) = ((n + 1 - i : Nat) : Int) by omega, h, hW1, ← hR])
  have HR1 : Hid (W1.heap[w.heap.size]? = some (.cells R.toArray 37 (0, 0))) := Lib.hid (by rw [hW1]; exact heap_alloc_new w.drew _)
  have HB1 : Hid (Below w.heap.size w W1) := Lib.hid (by rw [hW1]; exact (⟨rfl, rfl, rfl, Nat.le_refl _, fun _ _ => rfl⟩ : Below w.heap.size w w.drew).alloc (Nat.le_refl _) _)
  have HC := Lib.hid hcell
  have HV := Lib.hid hv
  have H1C := Lib.hid h1c
  have H41 := Lib.hid h41
  have HLC := Lib.hid hlc
  have HB := Lib.hid hb
  have HGW : Hid (g < w.heap.size ∧ vb < w.heap.size) := Lib.hid ⟨hgw, hvw⟩
  have HRL := Lib.hid hRl
  have HRT := Lib.hid hRt
  obtain ⟨N, hN⟩ : ∃ N, w.heap.size = N := ⟨_, rfl⟩
  have HN := Lib.hid hN
  rw [hN] at HRZ HR1 HB1 HGW
  clear hN hg hv h1c h41 hb hlc hcell hold hG hR hRl hRt hW1 hgw hvw hi0 hz0 hz1 hz2
  unfold maxLen at hGm
  have r1 : Hid (([v0, v1, v2, v3] : List Value).length = Nat.min 1 (n + 1 - i) * 4) := Lib.hid (by
    show 4 = min 1 (n + 1 - i) * 4
    omega)
  have r2 : Hid (∀ j v, ([v0, v1, v2, v3] : List Value)[j]? = some v → W1.cell? ((⟨vb, 0, none⟩ : Addr).add j) = some v) := Lib.hid (fun j v hj => by
    exact four_at ((HB1.out.block vb HGW.out.2).trans HV.out) j v hj)
  have r3 : Hid (i * 4 + ([v0, v1, v2, v3] : List Value).length ≤ R.length) := Lib.hid (by
    rw [HRL.out]
    show i * 4 + 4 ≤ _
    omega)
  have r4 : Hid (∀ u ∈ ([v0, v1, v2, v3] : List Value), u.oneCell' = true) := H41
  have hBN : base ≤ N := by have := HB.out; have := HGW.out; omega
  have HBN := Lib.hid hBN
  clear hBN
  have hc1 : ¬ (n = i) := by omega
  have hc2 : ¬ (G = i) := by omega
  have hc3 : ¬ (G = i + 1) := by omega
  go_enter Tryd.func26, Tryd.ntmps26
  go_wp2_with (at_builtin; refine Lib.wpList_append_run _ rfl _ _ _ _ rfl _ _ rfl rfl _ _ (HRZ.out _) ?_; refine Hid.out ?_)
  refine Lib.hid ?_
  go_wp2_with (with_reducible refine wpList_copy_rowN rfl (.tmp 43) (.tmp 44) 22 22 rfl 37 Tryd.underlying22 4 held_size N (i * 4) (n + 1 - i) (G - i) ⟨vb, 0, none⟩ 1 1 rfl rfl R 37 HR1.out [v0, v1, v2, v3] r1.out r2.out r3.out r4.out base w (HB1.out.mono HBN.out) HBN.out _ rfl ?_; intro w4 H4; refine Hid.out ?_)
  refine Lib.hid ?_
  go_wp2
  have q1 : Hid ((fl.drop (i * 4)).length = Nat.min (n - i) (n + 1 - (i + 1)) * 4) := Lib.hid (by
    rw [List.length_drop, HLC.out]
    show _ = min (n - i) (n + 1 - (i + 1)) * 4
    omega)
  have q2 : Hid (∀ j v, (fl.drop (i * 4))[j]? = some v → w4.cell? ((⟨g, i * 4, none⟩ : Addr).add j) = some v) := Lib.hid (fun j v hj => by
    have h4 : w4.heap[g]? = w.heap[g]? := (H4.out.other g (by have := HGW.out; omega)).trans (HB1.out.block g HGW.out.1)
    rw [add_off]
    have h5 : w4.cell? ⟨g, i * 4 + j, none⟩ = w.cell? ⟨g, i * 4 + j, none⟩ := World.cell?_of_block h4
    rw [h5]
    exact HC.out (i * 4 + j) v (by rwa [List.getElem?_drop] at hj))
  obtain ⟨L1, hL1⟩ : ∃ L1, splice R (i * 4) ([v0, v1, v2, v3] : List Value) = L1 := ⟨_, rfl⟩
  have HL1 := Lib.hid hL1
  rw [hL1] at H4
  clear hL1
  have q3 : Hid ((i + 1) * 4 + (fl.drop (i * 4)).length ≤ L1.length) := Lib.hid (by
    rw [← HL1.out, length_splice _ _ _ r3.out, HRL.out, List.length_drop, HLC.out]
    omega)
  have q4 : Hid (∀ u ∈ fl.drop (i * 4), u.oneCell' = true) := Lib.hid (fun u hu => H1C.out u (List.mem_of_mem_drop hu))
  have hw1 : IntKind.i64.wrap ((i : Int) + 1) = (i : Int) + 1 := IntWalk.i64_in _ (by omega)
  have hb1 : (0 : Int) ≤ (i : Int) + 1 := by omega
  have htn : ((i : Int) + 1).toNat = i + 1 := by omega
  have hin : i ≤ n := by omega
  have hb3 : (i : Int) ≤ (n : Int) + 1 := by omega
  have hb4 : (i : Int) ≤ (n : Int) := by omega
  go_region_law (refine step_copy_rowN rfl (.tmp 50) (.tmp 53) 22 22 rfl 37 Tryd.underlying22 4 held_size N ((i + 1) * 4) (n + 1 - (i + 1)) (G - (i + 1)) ⟨g, i * 4, none⟩ (n - i) (n - i) (by simp [Act.eval, Act.put]) (by simp [Act.eval, Act.put]) L1 37 H4.out.row (fl.drop (i * 4)) q1.out q2.out q3.out q4.out base w (H4.out.below.trans ⟨rfl, rfl, rfl, Nat.le_refl _, fun _ _ => rfl⟩) HBN.out _ rfl ?_; intro w5 H5)
  clear hw1 hb1 htn hb3 hb4
  go_wp2
  go_ret
  refine ⟨_, rfl, ⟨by simp only [List.length_append, List.length_cons, List.length_take, List.length_drop, HLC.out]; omega, .inr ⟨N, G, _, rfl, HBN.out, H5.out.row, hGn, by unfold maxLen; omega, ?_, ?_⟩⟩, H5.out.below, ⟨fun b hb _ => ((H5.out.other b (by have := HN.out; omega)).trans (H4.out.other b (by have := HN.out; omega))).trans (HB1.out.block b (by have := HN.out; omega)), by rw [H5.out.size]; show _ ≤ w4.heap.size; rw [H4.out.size]; exact HB1.out.size, .inr fun b hb => by
    have hb' : N = b := by simpa [Value.ownBlock] using hb
    have := HN.out
    omega⟩⟩
  · have h3 := q3.out
    have h4 := r3.out
    rw [← HL1.out] at h3 ⊢
    rw [List.size_toArray, length_splice _ _ _ h3, length_splice _ _ _ h4, HRL.out]
  · have ea : (fl.take (i * 4)).length = i * 4 := by rw [List.length_take, HLC.out]; omega
    have e0 : R.take (fl.take (i * 4)).length = fl.take (i * 4) := by rw [ea]; exact HRT.out
    have ed : (fl.drop (i * 4)).length = n * 4 - i * 4 := by rw [List.length_drop, HLC.out]
    have h := splice_fill (v := ([v0, v1, v2, v3] : List Value)) (d := fl.drop (i * 4)) e0 (by rw [ea, ed, HRL.out]; simp; omega)
    rw [ea, HL1.out] at h
    have e1 : (i + 1) * 4 = i * 4 + ([v0, v1, v2, v3] : List Value).length := by simp; omega
    have e2 : (n + 1) * 4 = i * 4 + ([v0, v1, v2, v3] : List Value).length + (fl.drop (i * 4)).length := by rw [ed]; simp; omega
    rw [e1, e2, List.toList_toArray, h]
    rfl

/-- slices.Insert of one holding into a row of one's own -/
theorem insertH_any (base i vb n : Nat) (A : Option Addr) (c : Nat) (fl : List Value) (v0 v1 v2 v3 : Value) (w : World) (h0 : 0 < n) (hi : i ≤ n) (hn : n ≤ 3000) (hown : w.ownsRow base 37 4 (.slice A n c) n fl) (h1c : ∀ u ∈ fl, u.oneCell' = true)
    (hv : w.heap[vb]? = some (.cells #[v0, v1, v2, v3] 37 (0, 0))) (h41 : ∀ u ∈ ([v0, v1, v2, v3] : List Value), u.oneCell' = true) (hne : ∀ g, A = some ⟨g, 0, none⟩ → vb ≠ g) :
    Calls Tryd.prog 26 #[.slice A n c, .int .i64 i, .slice (some ⟨vb, 0, none⟩) 1 1] w (InsQ base (n + 1) (fl.take (i * 4) ++ ([v0, v1, v2, v3] ++ fl.drop (i * 4))) (.slice A n c) w) := by
  have hlc : fl.length = n * 4 := hown.1
  rcases id hown.2 with ⟨_, h⟩ | ⟨g, cap, cur, e, hb, hg, hnc, hcm, hcs, htake⟩
  · omega
  · injection e with e1 e2 e3
    subst e1 e3
    by_cases hin : i = n
    · have e4 : fl.take (i * 4) ++ ([v0, v1, v2, v3] ++ fl.drop (i * 4)) = fl ++ [v0, v1, v2, v3] := by rw [hin, ← hlc, List.take_length, List.drop_length, List.append_nil]
      rw [e4, hin]
      exact insertH_end hn hown hv h41
    · have hg' : w.heap[g]? = some (.cells cur.toList.toArray 37 (0, 0)) := by simpa using hg
      by_cases hroom : n + 1 ≤ c
      · exact insertH_room base g c n i vb cur.toList fl v0 v1 v2 v3 w (by omega) hn hg' hroom hcm (by simpa using hcs) htake hlc h1c h41 hb hv (hne g rfl)
      · obtain rfl : c = n := by omega
        have e5 : cur.toList = fl := by rw [← htake, List.take_of_length_le (by simp; omega)]
        rw [e5] at hg'
        exact insertH_grow base g c i vb fl v0 v1 v2 v3 w (by omega) hn hg' hlc h1c h41 hb hv

end Go.Proofs.YtbiofikijehlcaaDoor

namespace Go.Proofs.YtbiofikijehlcaaDoor
open Go.RowKit

theorem setCells_row {g : Nat} {T : TypeId} : ∀ (vs : List Value) (o : Nat) (cur : Array Value) (w : World), w.heap[g]? = some (.cells cur T (0, 0)) → (w.setCells g o vs).heap[g]? = some (.cells (Go.Sort.setMany cur o vs) T (0, 0))
  | [], _, _, _, h => h
  | v :: r, o, cur, w, h => by
    rw [World.setCells, Go.Sort.setMany]
    exact setCells_row r (o + 1) _ _ (by
      show (w.heap.modify g _)[g]? = _
      rw [Array.getElem?_modify, if_pos rfl, h]
      rfl)
theorem setCells_other {g b : Nat} (hb : b ≠ g) : ∀ (vs : List Value) (o : Nat) (w : World), (w.setCells g o vs).heap[b]? = w.heap[b]?
  | [], _, _ => rfl
  | v :: r, o, w => by
    rw [World.setCells, setCells_other hb r]
    exact Below.heap_setCell _ _ _ _ hb
theorem setCells_size {g : Nat} : ∀ (vs : List Value) (o : Nat) (w : World), (w.setCells g o vs).heap.size = w.heap.size
  | [], _, _ => rfl
  | v :: r, o, w => by
    rw [World.setCells, setCells_size r]
    simp [World.setCell]
theorem setCells_below {B g : Nat} {w0 : World} (hg : B ≤ g) : ∀ (vs : List Value) (o : Nat) (w : World), Below B w0 w → Below B w0 (w.setCells g o vs)
  | [], _, _, h => h
  | v :: r, o, w, h => by
    rw [World.setCells]
    exact setCells_below hg r (o + 1) _ (h.setCell (p := ⟨g, o, none⟩) hg v)
/-- one holding is cleared -/
theorem clear_held (w : World) (ty : TypeId) {b o n c : Nat} (hn : n = 1) (hc : ∀ j, j < 4 → (w.cell? ⟨b, o + j, none⟩).isSome = true) (hf : ∀ j, j < 4 → w.frozen? ⟨b, o + j, none⟩ = false) :
    (Builtin.clear_ #[22] ty #[.slice (some ⟨b, o, none⟩) n c]).run Tryd.prog w = .ok (.tuple #[]) (w.setCells b o [.int .i64 0, .slice none 0 0, .int .i64 0, .int .i64 0]) := by
  subst hn
  have hst := run_storeCells_cells (P := Tryd.prog) b o [.int .i64 0, .slice none 0 0, .int .i64 0, .int .i64 0] 0 w (by simpa using hc) (by simpa using hf) (by intro v hv; simp at hv; rcases hv with rfl | rfl | rfl | rfl <;> rfl)
  simp only [Nat.add_zero] at hst
  have hzc : (Builtin.zeroCells (Value.agg #[.int .i64 0, .slice none 0 0, .int .i64 0, .int .i64 0]).cells 1).toList = [.int .i64 0, .slice none 0 0, .int .i64 0, .int .i64 0] := by
    apply List.ext_getElem?
    intro t
    match t with
    | 0 => simp [Builtin.zeroCells, Value.cells]
    | 1 => simp [Builtin.zeroCells, Value.cells]
    | 2 => simp [Builtin.zeroCells, Value.cells]
    | 3 => simp [Builtin.zeroCells, Value.cells]
    | t + 4 => simp [Builtin.zeroCells, Value.cells]
  have hz : ∀ w, (zeroValue 37).run Tryd.prog w = .ok (.agg #[.int .i64 0, .slice none 0 0, .int .i64 0, .int .i64 0]) w := Tryd.zeroValue37
  simp [Builtin.clear_, run_underlying Tryd.underlying22, hz, hzc, hst]


end Go.Proofs.YtbiofikijehlcaaDoor
