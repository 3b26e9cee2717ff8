/- The reference's Ready and Lost of layer 12: the walks. Written by gen/gen_queue.py. -/
import Derived.Test.YtimgdlddfnglaaaZQueueRefD
namespace Go.Proofs.Ytimgdlddfnglaaa
open Go.RowKit

theorem bool_info : (Try.prog.info? 4).map (fun i => (i.zero, i.size, i.bytes)) = some (some (.bool false), 1, 1) := by kernel_rfl
theorem made_bools (n : Nat) : (madeCells (Value.bool false).cells (n * 1)).toList = (List.replicate n false).map Value.bool := by
  have e : (Value.bool false).cells = #[.bool false] := rfl
  rw [e]
  apply List.ext_getElem?
  intro i
  by_cases hi : i < n * 1
  · unfold madeCells
    simp only [Array.toList_map, Array.toList_range, List.getElem?_map, List.getElem?_range hi, Option.map_some]
    rw [List.getElem?_replicate, if_pos (by omega)]
    show some (#[Value.bool false][i % 1]!) = _
    rw [Nat.mod_one]; rfl
  · rw [List.getElem?_eq_none (by rw [Array.length_toList, size_madeCells]; omega), List.getElem?_eq_none (by simp; omega)]
theorem append_QI {P : Program} {ops : Array Oper} {rest : List Oper} {o : Oper} {a : Act} {Q : Exit → Act → World → Prop} {w wr : World} {v : Value} {xs : List Int} (hgd : o.guard = none) (s x : Operand) (ty t : TypeId)
    (ho : o.op = .call { callee := .builtin .append, args := #[s, x], argTypes := #[ty, ty] })
    (h : ON EI 1 t w v xs wr) (i : TypeInfo) (ht : P.underlying ty = some (.slice t)) (hi : P.info? t = some i) (hz : i.zero = some (.int .i64 0)) (hsize : i.size = 1) (hby : i.bytes = 8)
    (hs : a.eval s = v) (x0 : Int) (hx : a.eval x = .slice (some ⟨wr.heap.size, 0, none⟩) 1 1) (hl : xs.length ≤ 1000)
    (hk : ∀ v' w', ON EI 1 t w v' (xs ++ [x0]) w' → wpList P ops Q rest (a.put o.dst v') w') : wpList P ops Q (o :: rest) a (wr.alloc (.cells #[.int .i64 x0] t)) :=
  wpList_append_ON hgd s x ty ho ei_steady h i (.int .i64 0) 8 ht hi hz hsize hby rfl (by decide) hs x0 #[.int .i64 x0] hx rfl (by intro u hu; simp at hu; subst hu; rfl) rfl (by unfold maxLen; omega) (by omega) hk

set_option maxRecDepth 100000 in
set_option maxHeartbeats 8000000 in
theorem refReady_no {A : Option Addr} {n c : Nat} {l : Qu} {w : World} (hl : QAsk w A n c l) (hr : rightQ l = false) : Calls Try.prog 12 #[.slice A n c] w (IPost [] w) := by
  have QA := Lib.hid hl
  have RR := Lib.hid hr
  clear hl hr
  go_enter Try.func12, Try.ntmps12
  go_wp2_with fail
  refine (refRightQ_b QA.out RR.out).mono ?_
  rintro e w1 ⟨rfl, hb⟩
  have HB := Lib.hid hb
  clear hb
  go_wp2
  go_ret
  exact ipost_nil HB.out
set_option maxRecDepth 100000 in
set_option maxHeartbeats 8000000 in
theorem refReady_yes {A : Option Addr} {n c : Nat} {l : Qu} {w : World} (hl : QAsk w A n c l) (hr : RightQ l) : Calls Try.prog 12 #[.slice A n c] w (IPost ((readyL l).map Jb.id) w) := by
  obtain ⟨i0, hi0, hz0, hz1, hz2⟩ := info_parts bool_info
  have QA := Lib.hid hl
  have HL := Lib.hid hl.reads.len
  have HR := Lib.hid hr
  have RR : Hid (rightQ l = true) := Lib.hid (decide_eq_true hr)
  have hn64 : n ≤ 64 := by rw [← hl.reads.len]; exact hr.1
  have HLR : Hid ((readyL l).length ≤ 64) := Lib.hid (Nat.le_trans readyL_len hr.1)
  clear hl hr
  go_enter Try.func12, Try.ntmps12
  go_wp2_with fail
  refine (refRightQ_b QA.out RR.out).mono ?_
  rintro e w1 ⟨rfl, hb⟩
  have HB := Lib.hid hb
  have Q1 := Lib.hid (QA.out.next hb)
  clear hb QA
  go_wp2_with (at_make; refine wpList_make_full _ rfl _ _ 55 rfl w1.heap.size 4 i0 (.bool false) 1 Try.underlying55 hi0 hz0 hz1 .i64 .i64 _ _ n rfl rfl rfl rfl (by rw [hz2]; omega) (by unfold maxLen; omega) (Nat.le_refl _) ?_; intro w2 hown hgrow; refine Hid.out ?_)
  refine Lib.hid ?_
  rw [made_bools] at hown
  have HK0 := Lib.hid (RdR.made (g := w1.heap.size) hown ((Below.refl _ _).grown hgrow (Nat.le_refl _) (fun k hk => by cases hk)))
  have HT0 := Lib.hid (told_start (l := l) (fl := List.replicate n false) (by rw [HL.out]))
  clear hown hgrow
  obtain ⟨gb, hgb⟩ : ∃ g, w1.heap.size = g := ⟨_, rfl⟩
  rw [hgb] at HK0
  rw [hgb]
  have HGB := Lib.hid hgb
  clear hgb
  go_wp2
  go_loopg [3] ((readyL l).length) (fun g ov wr => ∃ (k : Nat) (fl : List Bool) (v0 : Value), v0 = ov ∧ g = (readyL l).length - k ∧ k ≤ (readyL l).length ∧ Told l k fl ∧ RdR w1 gb n fl v0 (((readyL l).take k).map Jb.id) wr)
  case atStart => exact ⟨0, _, _, rfl, by omega, Nat.zero_le _, HT0.out, by simpa using HK0.out⟩
  case round =>
    clear HK0 HT0
    obtain ⟨k, fl, v0, rfl, rfl, hk, ht, hrel⟩ := hrel
    have HT := Lib.hid ht
    have HK := Lib.hid hrel
    clear ht hrel
    go_wp2
    go_loopw [5, 6] (fun bv iv wi => ∃ (i : Nat) (best : Int), i ≤ n ∧ iv = .int .i64 i ∧ bv = .int .i64 best ∧ BestAt l fl i best ∧ RdR w1 gb n fl v0 (((readyL l).take k).map Jb.id) wi) (fun _ iv _ => n - (intOf iv).toNat)
    case atStart => exact ⟨0, -1, Nat.zero_le _, rfl, rfl, best_start, HK.out⟩
    case round =>
      clear HK
      obtain ⟨i, best, hi, rfl, rfl, hbe, hrel⟩ := hrel
      have HBE := Lib.hid hbe
      have HK := Lib.hid hrel
      clear hbe hrel
      have QAI := Lib.hid (Q1.out.next HK.out.bel)
      by_cases hlt : i < n
      · have hil : Hid (i < l.length) := Lib.hid (by rw [HL.out]; exact hlt)
        have ct := HK.out.cell hlt
        have hgl := HK.out.lt.2
        have HBi := Lib.hid (Below.refl wr.heap.size wr)
        obtain ⟨tv, htv⟩ : ∃ v, fl.getD i false = v := ⟨_, rfl⟩
        rw [htv] at ct
        have HTV := Lib.hid htv
        clear htv
        cases tv with
        | true =>
          have HN := Lib.hid (best_skip HBE.out (.inl HTV.out))
          go_wp2
          have zc0 : ∀ p : Later wr, p.now.cell? ⟨gb, i, none⟩ = some (.bool true) := fun _ => Later.cell hgl ct
          refine wp_region_later (by kernel_rfl) (by kernel_rfl) ?_
          repeat (first | go_big_quiet_skip | (go_big_quiet_want; go_big_quiet_op; first | go_big_quiet_on | (apply Exists.intro; refine ⟨fun pz => ?_, ?_⟩; (fail); go_big_quiet_on)))
          refine wpQuiet_nil ?_
          intro _ hw'
          obtain ⟨pz, rfl⟩ := hw'
          obtain ⟨w5, hb⟩ := pz
          try dsimp only
          clear zc0
          have HBiq := Lib.hid (HBi.out.trans (hb.mono HBi.out.size))
          clear HBi
          have HBi := HBiq
          clear HBiq
          have HKq := Lib.hid (HK.out.next hb)
          clear HK
          have HK := HKq
          clear HKq
          clear hb
          go_wp2
          go_roundw
          case rel => exact ⟨i + 1, best, by omega, by go_num, rfl, HN.out, HK.out⟩
          case measure => simp [intOf]; omega
        | false =>
          obtain ⟨b, off, A3, m3, c3, rfl, hb1, ⟨e0, e1, e2, e3, e4, e5, e6, e7, e8, e9, e10, e11, e12⟩, ja⟩ := QAI.out.reads.one hlt
          obtain ⟨x, hx⟩ : ∃ x, jAt l i = x := ⟨_, rfl⟩
          rw [hx] at ja e0 e1 e2 e3 e4 e5 e6 e7 e9 e10 e11 e12
          have HX := Lib.hid hx
          have JA := Lib.hid ja
          have HNX : Hid (∀ k, k < x.needs.length → HasQ l (x.needs.getD k 0)) := Lib.hid (by
            have h1 := HR.out.needs (i := i) (by rw [HL.out]; exact hlt)
            unfold NeedsAt at h1
            rw [hx] at h1; exact h1)
          clear hx ja
          cases hv : readyB l x with
          | false =>
            have RV := Lib.hid hv
            have HN := Lib.hid (best_skip HBE.out (.inr (by rw [HX.out]; exact hv)))
            clear hv
            go_wp2
            have zc0 : ∀ p : Later wr, p.now.cell? ⟨gb, i, none⟩ = some (.bool false) := fun _ => Later.cell hgl ct
            have zc1 : ∀ p : Later wr, p.now.cell? ⟨b, off + i * 13, none⟩ = some (.int .i64 x.id) := fun _ => Later.cell hb1 e0
            have zc2 : ∀ p : Later wr, p.now.cell? ⟨b, off + i * 13 + 1, none⟩ = some (.int .i64 x.spec.nodes) := fun _ => Later.cell hb1 e1
            have zc3 : ∀ p : Later wr, p.now.cell? ⟨b, off + i * 13 + 2, none⟩ = some (.int .i64 x.spec.cores) := fun _ => Later.cell hb1 e2
            have zc4 : ∀ p : Later wr, p.now.cell? ⟨b, off + i * 13 + 3, none⟩ = some (.int .i64 x.spec.gpus) := fun _ => Later.cell hb1 e3
            have zc5 : ∀ p : Later wr, p.now.cell? ⟨b, off + i * 13 + 4, none⟩ = some (.string x.spec.tag) := fun _ => Later.cell hb1 e4
            have zc6 : ∀ p : Later wr, p.now.cell? ⟨b, off + i * 13 + 5, none⟩ = some (.bool x.spec.whole) := fun _ => Later.cell hb1 e5
            have zc7 : ∀ p : Later wr, p.now.cell? ⟨b, off + i * 13 + 6, none⟩ = some (.int .i64 x.spec.long) := fun _ => Later.cell hb1 e6
            have zc8 : ∀ p : Later wr, p.now.cell? ⟨b, off + i * 13 + 7, none⟩ = some (.int .i64 x.spec.prio) := fun _ => Later.cell hb1 e7
            have zc9 : ∀ p : Later wr, p.now.cell? ⟨b, off + i * 13 + 8, none⟩ = some (.slice A3 m3 c3) := fun _ => Later.cell hb1 e8
            have zc10 : ∀ p : Later wr, p.now.cell? ⟨b, off + i * 13 + 9, none⟩ = some (.int .i64 x.state) := fun _ => Later.cell hb1 e9
            have zc11 : ∀ p : Later wr, p.now.cell? ⟨b, off + i * 13 + 10, none⟩ = some (.int .i64 x.came) := fun _ => Later.cell hb1 e10
            have zc12 : ∀ p : Later wr, p.now.cell? ⟨b, off + i * 13 + 11, none⟩ = some (.int .i64 x.frm) := fun _ => Later.cell hb1 e11
            have zc13 : ∀ p : Later wr, p.now.cell? ⟨b, off + i * 13 + 12, none⟩ = some (.int .i64 x.to) := fun _ => Later.cell hb1 e12
            refine wp_region_later (by kernel_rfl) (by kernel_rfl) ?_
            repeat (first | go_big_quiet_skip | (go_big_quiet_want; go_big_quiet_op; first | go_big_quiet_on | (apply Exists.intro; refine ⟨fun pz => ?_, ?_⟩; (first | (go_at_call 29; exact Calls.later_of (refIsReady_b (QAI.out.next pz.bel) (JA.out.next pz.bel) HNX.out RV.out)) | fail); go_big_quiet_on)))
            refine wpQuiet_nil ?_
            intro _ hw'
            obtain ⟨pz, rfl⟩ := hw'
            obtain ⟨w5, hb⟩ := pz
            try dsimp only
            clear zc0 zc1 zc2 zc3 zc4 zc5 zc6 zc7 zc8 zc9 zc10 zc11 zc12 zc13
            have HBiq := Lib.hid (HBi.out.trans (hb.mono HBi.out.size))
            clear HBi
            have HBi := HBiq
            clear HBiq
            have HKq := Lib.hid (HK.out.next hb)
            clear HK
            have HK := HKq
            clear HKq
            clear hb
            clear e0 e1 e2 e3 e4 e5 e6 e7 e8 e9 e10 e11 e12 hb1 JA HNX
            go_wp2
            go_roundw
            case rel => exact ⟨i + 1, best, by omega, by go_num, rfl, HN.out, HK.out⟩
            case measure => simp [intOf]; omega
          | true =>
            have RV := Lib.hid hv
            by_cases hb0 : best < 0
            · have hbm : best = -1 := by
                rcases HBE.out with ⟨h1, _⟩ | ⟨q, h1, _⟩
                · exact h1
                · omega
              subst hbm
              have HN := Lib.hid (best_first HBE.out HTV.out (by rw [HX.out]; exact hv))
              clear hv hb0
              go_wp2
              have zc0 : ∀ p : Later wr, p.now.cell? ⟨gb, i, none⟩ = some (.bool false) := fun _ => Later.cell hgl ct
              have zc1 : ∀ p : Later wr, p.now.cell? ⟨b, off + i * 13, none⟩ = some (.int .i64 x.id) := fun _ => Later.cell hb1 e0
              have zc2 : ∀ p : Later wr, p.now.cell? ⟨b, off + i * 13 + 1, none⟩ = some (.int .i64 x.spec.nodes) := fun _ => Later.cell hb1 e1
              have zc3 : ∀ p : Later wr, p.now.cell? ⟨b, off + i * 13 + 2, none⟩ = some (.int .i64 x.spec.cores) := fun _ => Later.cell hb1 e2
              have zc4 : ∀ p : Later wr, p.now.cell? ⟨b, off + i * 13 + 3, none⟩ = some (.int .i64 x.spec.gpus) := fun _ => Later.cell hb1 e3
              have zc5 : ∀ p : Later wr, p.now.cell? ⟨b, off + i * 13 + 4, none⟩ = some (.string x.spec.tag) := fun _ => Later.cell hb1 e4
              have zc6 : ∀ p : Later wr, p.now.cell? ⟨b, off + i * 13 + 5, none⟩ = some (.bool x.spec.whole) := fun _ => Later.cell hb1 e5
              have zc7 : ∀ p : Later wr, p.now.cell? ⟨b, off + i * 13 + 6, none⟩ = some (.int .i64 x.spec.long) := fun _ => Later.cell hb1 e6
              have zc8 : ∀ p : Later wr, p.now.cell? ⟨b, off + i * 13 + 7, none⟩ = some (.int .i64 x.spec.prio) := fun _ => Later.cell hb1 e7
              have zc9 : ∀ p : Later wr, p.now.cell? ⟨b, off + i * 13 + 8, none⟩ = some (.slice A3 m3 c3) := fun _ => Later.cell hb1 e8
              have zc10 : ∀ p : Later wr, p.now.cell? ⟨b, off + i * 13 + 9, none⟩ = some (.int .i64 x.state) := fun _ => Later.cell hb1 e9
              have zc11 : ∀ p : Later wr, p.now.cell? ⟨b, off + i * 13 + 10, none⟩ = some (.int .i64 x.came) := fun _ => Later.cell hb1 e10
              have zc12 : ∀ p : Later wr, p.now.cell? ⟨b, off + i * 13 + 11, none⟩ = some (.int .i64 x.frm) := fun _ => Later.cell hb1 e11
              have zc13 : ∀ p : Later wr, p.now.cell? ⟨b, off + i * 13 + 12, none⟩ = some (.int .i64 x.to) := fun _ => Later.cell hb1 e12
              refine wp_region_later (by kernel_rfl) (by kernel_rfl) ?_
              repeat (first | go_big_quiet_skip | (go_big_quiet_want; go_big_quiet_op; first | go_big_quiet_on | (apply Exists.intro; refine ⟨fun pz => ?_, ?_⟩; (first | (go_at_call 29; exact Calls.later_of (refIsReady_b (QAI.out.next pz.bel) (JA.out.next pz.bel) HNX.out RV.out)) | fail); go_big_quiet_on)))
              refine wpQuiet_nil ?_
              intro _ hw'
              obtain ⟨pz, rfl⟩ := hw'
              obtain ⟨w5, hb⟩ := pz
              try dsimp only
              clear zc0 zc1 zc2 zc3 zc4 zc5 zc6 zc7 zc8 zc9 zc10 zc11 zc12 zc13
              have HBiq := Lib.hid (HBi.out.trans (hb.mono HBi.out.size))
              clear HBi
              have HBi := HBiq
              clear HBiq
              have HKq := Lib.hid (HK.out.next hb)
              clear HK
              have HK := HKq
              clear HKq
              clear hb
              clear e0 e1 e2 e3 e4 e5 e6 e7 e8 e9 e10 e11 e12 hb1 JA HNX
              go_wp2
              go_roundw
              case rel => exact ⟨i + 1, i, by omega, by go_num, rfl, HN.out, HK.out⟩
              case measure => simp [intOf]; omega
            · obtain ⟨q, hq, hql⟩ : ∃ q : Nat, best = q ∧ q < n := by
                rcases HBE.out with ⟨h1, _⟩ | ⟨q, h1, h2, _⟩
                · omega
                · exact ⟨q, h1, by omega⟩
              subst hq
              have db : decide ((q : Int) < 0) = false := decide_eq_false hb0
              have hqz : (q : Int) < (n : Int) := by omega
              obtain ⟨b', off', A4, m4, c4, eA, _, ⟨f0, f1, f2, f3, f4, f5, f6, f7, f8, f9, f10, f11, f12⟩, _⟩ := QAI.out.reads.one hql
              injection eA with eA
              injection eA with eB eO _
              subst eB eO
              clear f0 f1 f2 f3 f4 f5 f6 f8 f9 f10 f11 f12
              obtain ⟨py, hpy⟩ : ∃ p, (jAt l q).spec.prio = p := ⟨_, rfl⟩
              rw [hpy] at f7
              have HPY := Lib.hid hpy
              clear hpy hb0
              by_cases hp : py < x.spec.prio
              · have dp : decide (py < x.spec.prio) = true := decide_eq_true hp
                have HN := Lib.hid (best_more HR.out hil.out HBE.out HTV.out (by rw [HX.out]; exact hv) (by rw [HX.out, HPY.out]; exact hp))
                clear hv hp
                go_wp2
                have zc0 : ∀ p : Later wr, p.now.cell? ⟨gb, i, none⟩ = some (.bool false) := fun _ => Later.cell hgl ct
                have zc1 : ∀ p : Later wr, p.now.cell? ⟨b, off + i * 13, none⟩ = some (.int .i64 x.id) := fun _ => Later.cell hb1 e0
                have zc2 : ∀ p : Later wr, p.now.cell? ⟨b, off + i * 13 + 1, none⟩ = some (.int .i64 x.spec.nodes) := fun _ => Later.cell hb1 e1
                have zc3 : ∀ p : Later wr, p.now.cell? ⟨b, off + i * 13 + 2, none⟩ = some (.int .i64 x.spec.cores) := fun _ => Later.cell hb1 e2
                have zc4 : ∀ p : Later wr, p.now.cell? ⟨b, off + i * 13 + 3, none⟩ = some (.int .i64 x.spec.gpus) := fun _ => Later.cell hb1 e3
                have zc5 : ∀ p : Later wr, p.now.cell? ⟨b, off + i * 13 + 4, none⟩ = some (.string x.spec.tag) := fun _ => Later.cell hb1 e4
                have zc6 : ∀ p : Later wr, p.now.cell? ⟨b, off + i * 13 + 5, none⟩ = some (.bool x.spec.whole) := fun _ => Later.cell hb1 e5
                have zc7 : ∀ p : Later wr, p.now.cell? ⟨b, off + i * 13 + 6, none⟩ = some (.int .i64 x.spec.long) := fun _ => Later.cell hb1 e6
                have zc8 : ∀ p : Later wr, p.now.cell? ⟨b, off + i * 13 + 7, none⟩ = some (.int .i64 x.spec.prio) := fun _ => Later.cell hb1 e7
                have zc9 : ∀ p : Later wr, p.now.cell? ⟨b, off + i * 13 + 8, none⟩ = some (.slice A3 m3 c3) := fun _ => Later.cell hb1 e8
                have zc10 : ∀ p : Later wr, p.now.cell? ⟨b, off + i * 13 + 9, none⟩ = some (.int .i64 x.state) := fun _ => Later.cell hb1 e9
                have zc11 : ∀ p : Later wr, p.now.cell? ⟨b, off + i * 13 + 10, none⟩ = some (.int .i64 x.came) := fun _ => Later.cell hb1 e10
                have zc12 : ∀ p : Later wr, p.now.cell? ⟨b, off + i * 13 + 11, none⟩ = some (.int .i64 x.frm) := fun _ => Later.cell hb1 e11
                have zc13 : ∀ p : Later wr, p.now.cell? ⟨b, off + i * 13 + 12, none⟩ = some (.int .i64 x.to) := fun _ => Later.cell hb1 e12
                have zc14 : ∀ p : Later wr, p.now.cell? ⟨b, off + q * 13 + 7, none⟩ = some (.int .i64 py) := fun _ => Later.cell hb1 f7
                refine wp_region_later (by kernel_rfl) (by kernel_rfl) ?_
                repeat (first | go_big_quiet_skip | (go_big_quiet_want; go_big_quiet_op; first | go_big_quiet_on | (apply Exists.intro; refine ⟨fun pz => ?_, ?_⟩; (first | (go_at_call 29; exact Calls.later_of (refIsReady_b (QAI.out.next pz.bel) (JA.out.next pz.bel) HNX.out RV.out)) | fail); go_big_quiet_on)))
                refine wpQuiet_nil ?_
                intro _ hw'
                obtain ⟨pz, rfl⟩ := hw'
                obtain ⟨w5, hb⟩ := pz
                try dsimp only
                clear zc0 zc1 zc2 zc3 zc4 zc5 zc6 zc7 zc8 zc9 zc10 zc11 zc12 zc13 zc14
                have HBiq := Lib.hid (HBi.out.trans (hb.mono HBi.out.size))
                clear HBi
                have HBi := HBiq
                clear HBiq
                have HKq := Lib.hid (HK.out.next hb)
                clear HK
                have HK := HKq
                clear HKq
                clear hb
                clear e0 e1 e2 e3 e4 e5 e6 e7 e8 e9 e10 e11 e12 hb1 JA HNX f7
                go_wp2
                go_roundw
                case rel => exact ⟨i + 1, i, by omega, by go_num, rfl, HN.out, HK.out⟩
                case measure => simp [intOf]; omega
              · have dp : decide (py < x.spec.prio) = false := decide_eq_false hp
                have HN := Lib.hid (best_less HR.out hil.out HBE.out (by rw [HX.out, HPY.out]; exact hp))
                clear hv hp
                go_wp2
                have zc0 : ∀ p : Later wr, p.now.cell? ⟨gb, i, none⟩ = some (.bool false) := fun _ => Later.cell hgl ct
                have zc1 : ∀ p : Later wr, p.now.cell? ⟨b, off + i * 13, none⟩ = some (.int .i64 x.id) := fun _ => Later.cell hb1 e0
                have zc2 : ∀ p : Later wr, p.now.cell? ⟨b, off + i * 13 + 1, none⟩ = some (.int .i64 x.spec.nodes) := fun _ => Later.cell hb1 e1
                have zc3 : ∀ p : Later wr, p.now.cell? ⟨b, off + i * 13 + 2, none⟩ = some (.int .i64 x.spec.cores) := fun _ => Later.cell hb1 e2
                have zc4 : ∀ p : Later wr, p.now.cell? ⟨b, off + i * 13 + 3, none⟩ = some (.int .i64 x.spec.gpus) := fun _ => Later.cell hb1 e3
                have zc5 : ∀ p : Later wr, p.now.cell? ⟨b, off + i * 13 + 4, none⟩ = some (.string x.spec.tag) := fun _ => Later.cell hb1 e4
                have zc6 : ∀ p : Later wr, p.now.cell? ⟨b, off + i * 13 + 5, none⟩ = some (.bool x.spec.whole) := fun _ => Later.cell hb1 e5
                have zc7 : ∀ p : Later wr, p.now.cell? ⟨b, off + i * 13 + 6, none⟩ = some (.int .i64 x.spec.long) := fun _ => Later.cell hb1 e6
                have zc8 : ∀ p : Later wr, p.now.cell? ⟨b, off + i * 13 + 7, none⟩ = some (.int .i64 x.spec.prio) := fun _ => Later.cell hb1 e7
                have zc9 : ∀ p : Later wr, p.now.cell? ⟨b, off + i * 13 + 8, none⟩ = some (.slice A3 m3 c3) := fun _ => Later.cell hb1 e8
                have zc10 : ∀ p : Later wr, p.now.cell? ⟨b, off + i * 13 + 9, none⟩ = some (.int .i64 x.state) := fun _ => Later.cell hb1 e9
                have zc11 : ∀ p : Later wr, p.now.cell? ⟨b, off + i * 13 + 10, none⟩ = some (.int .i64 x.came) := fun _ => Later.cell hb1 e10
                have zc12 : ∀ p : Later wr, p.now.cell? ⟨b, off + i * 13 + 11, none⟩ = some (.int .i64 x.frm) := fun _ => Later.cell hb1 e11
                have zc13 : ∀ p : Later wr, p.now.cell? ⟨b, off + i * 13 + 12, none⟩ = some (.int .i64 x.to) := fun _ => Later.cell hb1 e12
                have zc14 : ∀ p : Later wr, p.now.cell? ⟨b, off + q * 13 + 7, none⟩ = some (.int .i64 py) := fun _ => Later.cell hb1 f7
                refine wp_region_later (by kernel_rfl) (by kernel_rfl) ?_
                repeat (first | go_big_quiet_skip | (go_big_quiet_want; go_big_quiet_op; first | go_big_quiet_on | (apply Exists.intro; refine ⟨fun pz => ?_, ?_⟩; (first | (go_at_call 29; exact Calls.later_of (refIsReady_b (QAI.out.next pz.bel) (JA.out.next pz.bel) HNX.out RV.out)) | fail); go_big_quiet_on)))
                refine wpQuiet_nil ?_
                intro _ hw'
                obtain ⟨pz, rfl⟩ := hw'
                obtain ⟨w5, hb⟩ := pz
                try dsimp only
                clear zc0 zc1 zc2 zc3 zc4 zc5 zc6 zc7 zc8 zc9 zc10 zc11 zc12 zc13 zc14
                have HBiq := Lib.hid (HBi.out.trans (hb.mono HBi.out.size))
                clear HBi
                have HBi := HBiq
                clear HBiq
                have HKq := Lib.hid (HK.out.next hb)
                clear HK
                have HK := HKq
                clear HKq
                clear hb
                clear e0 e1 e2 e3 e4 e5 e6 e7 e8 e9 e10 e11 e12 hb1 JA HNX f7
                go_wp2
                go_roundw
                case rel => exact ⟨i + 1, q, by omega, by go_num, rfl, HN.out, HK.out⟩
                case measure => simp [intOf]; omega
      · obtain rfl : i = n := by omega
        by_cases hb0 : best < 0
        · have hbm : best = -1 := by
            rcases HBE.out with ⟨h1, _⟩ | ⟨q, h1, _⟩
            · exact h1
            · omega
          subst hbm
          have hkk := best_none HR.out HT.out hk (by rw [HL.out]; exact HBE.out)
          have HP : Hid (IPost ((readyL l).map Jb.id) w (.returned v0) wr) := Lib.hid (by
            have h1 := HK.out.post
            rw [hkk, List.take_length] at h1
            exact h1.trans HB.out)
          clear hkk hb0
          go_wp2
          go_ret
          exact HP.out
        · obtain ⟨q, hq, hql⟩ : ∃ q : Nat, best = q ∧ q < i := by
            rcases HBE.out with ⟨h1, _⟩ | ⟨q, h1, h2, _⟩
            · omega
            · exact ⟨q, h1, h2⟩
          subst hq
          have db : decide ((q : Int) < 0) = false := decide_eq_false hb0
          obtain ⟨hk1, hk2, hk3⟩ := best_next HR.out HT.out (by rw [HL.out]; exact hql) (by rw [HL.out]; exact HBE.out)
          have HT2 := Lib.hid hk3
          have HTK := Lib.hid (ready_take hk2)
          have hqz : (q : Int) < (i : Int) := by omega
          have ct := HK.out.cell hql
          have hf := HK.out.frozen q
          have HK2 := Lib.hid (HK.out.set q true)
          have QA2 := Lib.hid (Q1.out.next HK2.out.bel)
          obtain ⟨b, off, A3, m3, c3, rfl, hb1, ⟨e0, e1, e2, e3, e4, e5, e6, e7, e8, e9, e10, e11, e12⟩, _⟩ := QA2.out.reads.one hql
          clear e1 e2 e3 e4 e5 e6 e7 e8 e9 e10 e11 e12
          obtain ⟨jd, hjd⟩ : ∃ x, (jAt l q).id = x := ⟨_, rfl⟩
          rw [hjd] at HTK e0
          have HLA : Hid ((((readyL l).take k).map Jb.id).length ≤ 1000) := Lib.hid (by rw [List.length_map, List.length_take]; have := HLR.out; omega)
          clear hk2 hk3 hb0 hjd hb1
          go_wp2_with (at_builtin; refine wpList_append_RdR rfl (.tmp 58) (.tmp 64) rfl HK2.out rfl _ (by first | rfl | (simp; rfl)) HLA.out ?_; intro v' w4 hR4; refine Hid.out ?_)
          refine Lib.hid ?_
          rw [← HTK.out] at hR4
          have HK4 := Lib.hid hR4
          clear hR4
          go_wp2
          go_roundg ((readyL l).length - (k + 1))
          case measure => omega
          case rel => exact ⟨k + 1, _, _, rfl, rfl, by omega, HT2.out, HK4.out⟩
theorem refReady_any {A : Option Addr} {n c : Nat} {l : Qu} {w : World} (hl : QAsk w A n c l) : Calls Try.prog 12 #[.slice A n c] w (IPost (readyQ l) w) := by
  unfold readyQ
  cases hr : rightQ l with
  | true =>
    have h := of_decide_eq_true hr
    rw [if_pos h]
    exact refReady_yes hl h
  | false =>
    rw [if_neg (of_decide_eq_false hr)]
    exact refReady_no hl hr
theorem refReady_b {A : Option Addr} {n c : Nat} {l : Qu} {w : World} {r : List Int} (hl : QAsk w A n c l) (e : readyQ l = r) : Calls Try.prog 12 #[.slice A n c] w (IPost r w) := by
  subst e; exact refReady_any hl

set_option maxRecDepth 100000 in
set_option maxHeartbeats 8000000 in
theorem refLost_no {A : Option Addr} {n c : Nat} {l : Qu} {w : World} (hl : QAsk w A n c l) (hr : rightQ l = false) : Calls Try.prog 14 #[.slice A n c] w (IPost [] w) := by
  have QA := Lib.hid hl
  have RR := Lib.hid hr
  clear hl hr
  go_enter Try.func14, Try.ntmps14
  go_wp2_with fail
  refine (refRightQ_b QA.out RR.out).mono ?_
  rintro e w1 ⟨rfl, hb⟩
  have HB := Lib.hid hb
  clear hb
  go_wp2
  go_ret
  exact ipost_nil HB.out
set_option maxRecDepth 100000 in
set_option maxHeartbeats 8000000 in
theorem refLost_yes {A : Option Addr} {n c : Nat} {l : Qu} {w : World} (hl : QAsk w A n c l) (hr : RightQ l) : Calls Try.prog 14 #[.slice A n c] w (IPost ((l.filter (lostB l)).map Jb.id) w) := by
  obtain ⟨i0, hi0, hz0, hz1, hz2⟩ := info_parts int_info
  have QA := Lib.hid hl
  have HL := Lib.hid hl.reads.len
  have HR := Lib.hid hr
  have RR : Hid (rightQ l = true) := Lib.hid (decide_eq_true hr)
  have hn64 : n ≤ 64 := by rw [← hl.reads.len]; exact hr.1
  clear hl hr
  go_enter Try.func14, Try.ntmps14
  go_wp2_with fail
  refine (refRightQ_b QA.out RR.out).mono ?_
  rintro e w1 ⟨rfl, hb⟩
  have HB := Lib.hid hb
  have Q1 := Lib.hid (QA.out.next hb)
  clear hb QA
  go_wp2
  go_loopw [3, 4] (fun ov iv wr => ∃ (k : Nat) (v0 : Value), v0 = ov ∧ k ≤ n ∧ iv = .int .i64 k ∧ ON EI 1 3 w1 v0 (((l.take k).filter (lostB l)).map Jb.id) wr) (fun _ iv _ => n - (intOf iv).toNat)
  case atStart => exact ⟨0, _, rfl, Nat.zero_le _, rfl, by simpa using ON.nil _⟩
  case round =>
    obtain ⟨k, v0, rfl, hk, rfl, hrel⟩ := hrel
    have HK := Lib.hid hrel
    clear hrel
    by_cases hlt : k < n
    · have hkl : k < l.length := by rw [HL.out]; exact hlt
      have QAI := Lib.hid (Q1.out.next HK.out.below)
      obtain ⟨b, off, A3, m3, c3, rfl, hb1, ⟨e0, e1, e2, e3, e4, e5, e6, e7, e8, e9, e10, e11, e12⟩, ja⟩ := QAI.out.reads.one hlt
      have HTK : Hid (l.take (k + 1) = l.take k ++ [jAt l k]) := Lib.hid (by rw [jAt_lt hkl, List.take_succ_eq_append_getElem hkl])
      have HLL := Lib.hid (show ∀ v, lostB l (jAt l k) = v → Calls Try.prog 31 #[.slice (some ⟨b, off, none⟩) n c, .agg #[.int .i64 (jAt l k).id, .int .i64 (jAt l k).spec.nodes, .int .i64 (jAt l k).spec.cores, .int .i64 (jAt l k).spec.gpus, .string (jAt l k).spec.tag, .bool (jAt l k).spec.whole, .int .i64 (jAt l k).spec.long, .int .i64 (jAt l k).spec.prio, .slice A3 m3 c3, .int .i64 (jAt l k).state, .int .i64 (jAt l k).came, .int .i64 (jAt l k).frm, .int .i64 (jAt l k).to]] wr fun e w' => e = .returned (.bool v) ∧ Below wr.heap.size wr w' from fun v hv => refIsLost_b HR.out hkl rfl QAI.out ja hv)
      obtain ⟨x, hx⟩ : ∃ x, jAt l k = x := ⟨_, rfl⟩
      rw [hx] at e0 e1 e2 e3 e4 e5 e6 e7 e9 e10 e11 e12 HTK HLL
      have HLA : Hid ((((l.take k).filter (lostB l)).map Jb.id).length ≤ 1000) := Lib.hid (by
        rw [List.length_map]
        have := List.length_filter_le (lostB l) (l.take k)
        rw [List.length_take] at this; omega)
      have E0 := Lib.hid (CellK.mk (p := ⟨b, off + k * 13, none⟩) hb1 e0)
      clear hx ja hkl hb1
      cases hv : lostB l x with
      | true =>
        have HC := Lib.hid (HLL.out true hv)
        have HTN : Hid (((l.take (k + 1)).filter (lostB l)).map Jb.id = ((l.take k).filter (lostB l)).map Jb.id ++ [x.id]) := Lib.hid (by rw [HTK.out, List.filter_append, List.map_append, List.filter_cons, if_pos hv]; rfl)
        clear hv HLL
        go_wp2_with fail
        refine HC.out.mono ?_
        rintro e w3 ⟨rfl, hb⟩
        have HK3 := Lib.hid (HK.out.next ei_steady hb)
        have E3 := Lib.hid (E0.out.next hb)
        clear hb HC HK E0 e0 e1 e2 e3 e4 e5 e6 e7 e8 e9 e10 e11 e12
        have e0 := E3.out.at'
        go_wp2_with (at_builtin; refine append_QI rfl (.tmp 20) (.tmp 26) 28 3 rfl HK3.out i0 Try.underlying28 hi0 hz0 hz1 hz2 rfl _ rfl HLA.out ?_; intro v' w4 hON4; refine Hid.out ?_)
        refine Lib.hid ?_
        rw [← HTN.out] at hON4
        have HO4 := Lib.hid hON4
        clear hON4
        go_wp2
        go_roundw
        case rel => exact ⟨k + 1, _, rfl, by omega, by go_num, HO4.out⟩
        case measure => simp [intOf]; omega
      | false =>
        have HC := Lib.hid (HLL.out false hv)
        have HTN : Hid (((l.take (k + 1)).filter (lostB l)).map Jb.id = ((l.take k).filter (lostB l)).map Jb.id) := Lib.hid (by rw [HTK.out, List.filter_append, List.map_append, List.filter_cons, if_neg (by rw [hv]; decide)]; simp)
        clear hv HLL
        go_wp2_with fail
        refine HC.out.mono ?_
        rintro e w3 ⟨rfl, hb⟩
        have HK3 : Hid (ON EI 1 3 w1 v0 (((l.take (k + 1)).filter (lostB l)).map Jb.id) w3) := Lib.hid (by rw [HTN.out]; exact HK.out.next ei_steady hb)
        clear hb HC HK E0 e0 e1 e2 e3 e4 e5 e6 e7 e8 e9 e10 e11 e12
        go_wp2
        go_roundw
        case rel => exact ⟨k + 1, _, rfl, by omega, by go_num, HK3.out⟩
        case measure => simp [intOf]; omega
    · have HP : Hid (IPost ((l.filter (lostB l)).map Jb.id) w (.returned v0) wr) := Lib.hid (by
        have h1 := HK.out.ipost
        rw [List.take_of_length_le (by rw [HL.out]; omega)] at h1
        exact h1.trans HB.out)
      clear HK
      go_wp2
      go_ret
      exact HP.out
theorem refLost_any {A : Option Addr} {n c : Nat} {l : Qu} {w : World} (hl : QAsk w A n c l) : Calls Try.prog 14 #[.slice A n c] w (IPost (lostQ l) w) := by
  unfold lostQ
  cases hr : rightQ l with
  | true =>
    have h := of_decide_eq_true hr
    rw [if_pos h]
    exact refLost_yes hl h
  | false =>
    rw [if_neg (of_decide_eq_false hr)]
    exact refLost_no hl hr
theorem refLost_b {A : Option Addr} {n c : Nat} {l : Qu} {w : World} {r : List Int} (hl : QAsk w A n c l) (e : lostQ l = r) : Calls Try.prog 14 #[.slice A n c] w (IPost r w) := by
  subst e; exact refLost_any hl

end Go.Proofs.Ytimgdlddfnglaaa
