/- The program's List, ReadSpec, ReadSet, ReadList, and the list of contracts that the statements' walks lean on, held. What the statements' frames of layers without listed variables share: a law's frame, from its walk to what the row says. An argument that is a slice, opened: of any elements of which it is known how one reads. General. Arguments that are numbers, or lists of numbers, opened. -/
import Derived.Test.YtlpogkcfjbabaaaMg07
import Derived.Test.YtlpogkcfjbabaaaMg14
import Derived.Test.YtlpogkcfjbabaaaMg15
import Derived.Test.YtlpogkcfjbabaaaRows
import Derived.ProofKit
import Derived.OpenShut
import Derived.HandedShaped
import Derived.Deep.Slices
import Derived.Deep.Fields
import Derived.Below
import Derived.ChangeSame
import Derived.Test.YtlpogkcfjbabaaaMg01
import Derived.Test.YtlpogkcfjbabaaaMg02
import Derived.Test.YtlpogkcfjbabaaaMg03
namespace Go.Proofs.Ytlpogkcfjbabaaa
open Go.RowKit

theorem flat_take {ps : List Bs} {k : Nat} {p : Bs} (h : ps[k]? = some p) : (ps.take (k + 1)).flatten = (ps.take k).flatten ++ p := by
  rw [List.take_add_one, h, List.flatten_append]
  simp
theorem flat_len (ps : List Bs) (k : Nat) : (ps.take k).flatten.length ≤ ps.flatten.length := by
  have h := congrArg (fun l => l.flatten.length) (List.take_append_drop k ps)
  simp only [List.flatten_append, List.length_append] at h
  omega
set_option maxRecDepth 100000 in
set_option maxHeartbeats 8000000 in
theorem codeList_any (HS : SpecOk) (A : Option Addr) (n c : Nat) (ps : List Bs) (w : World) (h : PAsk w A n c ps) (hf : ps.flatten.length ≤ 100000) (hG : Glob w) :
    Calls Try.prog 13 #[.slice A n c] w (BPost (ptList ps).1 (ptList ps).2 w) := by
  have HA := Lib.hid h
  have HL := Lib.hid h.reads.len
  have HF := Lib.hid hf
  have HG := Lib.hid hG
  clear h hf hG
  by_cases hn : n ≤ 1000
  · have hd : decide ((1000 : Int) < (n : Int)) = false := by simp; omega
    have hd2 : decide (1000 < n) = false := by simp; omega
    have HP : Hid (ptList ps = if ps.all partOk = true then (listB ps, 0) else ([], 3)) := Lib.hid (by unfold ptList; rw [if_neg (by rw [HL.out]; omega)])
    have HO0 : Hid (ON EB 1 5 w (.slice (some ⟨w.heap.size, 0, none⟩) 1 1) [3] (w.alloc (.cells #[.int .u8 3] 5))) := Lib.hid (onb_one (t := 5) w 3 (by omega))
    go_enter Try.func13, Try.ntmps13
    go_wp2_with fail
    refine (putNumber_any n (by omega) w _ _ [3] HO0.out (by simp)).mono ?_
    rintro e w1 ⟨v1, rfl, h1⟩
    have HO1 := Lib.hid h1
    have HNL : Hid (([3] ++ numB n : Bs).length ≤ 21) := Lib.hid (by have := numB_few (n := n) (by omega); simp; omega)
    clear h1
    go_wp2_with fail
    go_loopw [18, 4] (fun i b wr => ∃ (k : Nat), k ≤ n ∧ i = .int .i64 (k : Int) ∧ (ps.take k).all partOk = true ∧ ON EB 1 5 w b ([3] ++ numB n ++ (ps.take k).flatten) wr) (fun i _ _ => n - (intOf i).toNat)
    case atStart => exact ⟨0, by omega, rfl, rfl, by simpa using HO1.out⟩
    case round =>
      obtain ⟨k, hk, rfl, hall, hon⟩ := hrel
      have HO := Lib.hid hon
      have HALL := Lib.hid hall
      clear hon hall
      by_cases hkn : k < n
      · have hdk : decide ((k : Int) < (n : Int)) = true := by simp; omega
        have hdk2 : decide (k < n) = true := by simp; omega
        obtain ⟨b, off, A2, m, c2, hA, hbl, hcell, hask⟩ := (HA.out.next HO.out.below).one hkn
        subst hA
        have hkl : k < ps.length := by rw [HL.out]; exact hkn
        obtain ⟨p, hp⟩ : ∃ p, ps[k]? = some p := ⟨_, List.getElem?_eq_getElem hkl⟩
        have hgd : ps.getD k [] = p := by rw [List.getD, hp]; rfl
        rw [hgd] at hask
        have HASK := Lib.hid hask
        have HFT := Lib.hid (flat_take hp)
        have HFL : Hid (([3] ++ numB n ++ (ps.take k).flatten).length + m ≤ 1000000) := Lib.hid (by
          have h1 := HNL.out
          have h2 := flat_len ps (k + 1)
          rw [HFT.out, List.length_append, hask.reads.len] at h2
          have h3 := HF.out
          rw [List.length_append]
          omega)
        have HNX : Hid (([3] ++ numB n ++ (ps.take k).flatten) ++ p = [3] ++ numB n ++ (ps.take (k + 1)).flatten) := Lib.hid (by rw [HFT.out, List.append_assoc])
        obtain ⟨er, her⟩ : ∃ er, (wholeOf [] partQ p).2 = er := ⟨_, rfl⟩
        have HW := Lib.hid (whole3_any HS A2 m c2 p wr HASK.out (HG.out.next HO.out.below))
        rw [her] at HW
        have hpk := part_okQ (p := p)
        rw [her] at hpk
        have HPK := Lib.hid hpk
        have HTA : Hid ((ps.take (k + 1)).all partOk = ((ps.take k).all partOk && partOk p)) := Lib.hid (by rw [List.take_add_one, hp]; simp)
        have HIN : Hid (ps.all partOk = true → partOk p = true) := Lib.hid (fun ha => List.all_eq_true.1 ha p (List.mem_of_getElem? hp))
        clear hask hgd hkl hp her hbl hpk
        by_cases h0 : er = 0
        · subst h0
          have HPT : Hid (partOk p = true) := Lib.hid (HPK.out.1 rfl)
          obtain ⟨i0, hi0, hz0, hz1, hz2⟩ := info_parts byte_info
          go_wp2_with fail
          refine HW.out.mono ?_
          rintro e w5 ⟨⟨v5, rfl⟩, hb5⟩
          have HO5 := Lib.hid (HO.out.next eb_steady hb5)
          have HASK5 := Lib.hid (HASK.out.next hb5)
          clear hb5
          go_wp2_with (at_builtin; refine wpList_append_RB rfl _ _ 28 5 rfl HO5.out i0 Try.underlying28 hi0 hz0 hz1 hz2 rfl _ A2 m c2 rfl HASK5.out.reads HASK5.out.nil HFL.out ?_; intro v' w6 hon6; refine Hid.out ?_)
          refine Lib.hid ?_
          have HO6 : Hid (ON EB 1 5 w v' ([3] ++ numB n ++ (ps.take (k + 1)).flatten) w6) := Lib.hid (by rw [← HNX.out]; exact hon6)
          clear hon6
          go_wp2_with fail
          exact ⟨⟨k + 1, by omega, by go_num, by rw [HTA.out, HALL.out, HPT.out]; rfl, HO6.out⟩, by simp [intOf]; omega⟩
        · have h0d : (er != 0) = true := by simpa using h0
          have HPF : Hid (ptList ps = ([], 3)) := Lib.hid (by
            rw [HP.out, if_neg (fun ha => h0 (HPK.out.2 (HIN.out ha)))])
          clear h0
          go_wp2_with fail
          refine HW.out.mono ?_
          rintro e w5 ⟨⟨v5, rfl⟩, hb5⟩
          have HB5 := Lib.hid (HO.out.below.trans (hb5.mono HO.out.below.size))
          clear hb5
          go_wp2_with fail
          go_ret2
          rw [HPF.out]
          exact bpost_nil HB5.out
      · have hdk : decide ((k : Int) < (n : Int)) = false := by simp; omega
        have hdk2 : decide (k < n) = false := by simp; omega
        have hkn' : k = n := by omega
        subst hkn'
        have HE : Hid (ptList ps = ([3] ++ numB k ++ (ps.take k).flatten, 0)) := Lib.hid (by
          have ht : ps.take k = ps := List.take_of_length_le (by rw [HL.out]; exact Nat.le_refl _)
          have ha := HALL.out
          rw [ht] at ha
          rw [HP.out, if_pos ha, ht]
          unfold listB
          rw [HL.out]
          simp)
        go_wp2_with fail
        go_ret2
        rw [HE.out]
        exact bpost_own HO.out
  · have hd : decide ((1000 : Int) < (n : Int)) = true := by simp; omega
    have hd2 : decide (1000 < n) = true := by simp; omega
    have HP : Hid (ptList ps = ([], 4)) := Lib.hid (by unfold ptList; rw [if_pos (by rw [HL.out]; omega)])
    go_enter Try.func13, Try.ntmps13
    go_wp2_with fail
    go_ret2
    rw [HP.out]
    exact bpost_nil (Below.refl _ _)

set_option maxRecDepth 100000 in
theorem codeReadSet_any (A : Option Addr) (n c : Nat) (bs : Bs) (w : World) (h : BAsk w w.heap.size A n c bs) (hG : Glob w) :
    Calls Try.prog 18 #[.slice A n c] w (IEPost (rdSetQ bs).1 (rdSetQ bs).2 w) := by
  have HW := Lib.hid (whole1_any A n c bs w h hG)
  clear h hG
  go_enter Try.func18, Try.ntmps18
  go_wp2_with fail
  refine HW.out.mono ?_
  rintro e w1 ⟨⟨A1, c1, rfl, h1⟩, hb⟩
  have H1 := Lib.hid h1
  have HB := Lib.hid hb
  clear h1 hb
  go_wp2_with fail
  go_ret2
  exact ⟨⟨A1, c1, rfl, H1.out⟩, HB.out⟩
set_option maxRecDepth 100000 in
theorem codeReadList_any (HS : SpecOk) (A : Option Addr) (n c : Nat) (bs : Bs) (w : World) (h : BAsk w w.heap.size A n c bs) (hG : Glob w) :
    Calls Try.prog 20 #[.slice A n c] w (PPost (rdListQ bs).1 (rdListQ bs).2 w) := by
  have HW := Lib.hid (whole2_any HS A n c bs w h hG)
  clear h hG
  go_enter Try.func20, Try.ntmps20
  go_wp2_with fail
  refine HW.out.mono ?_
  rintro e w1 ⟨⟨A1, c1, rfl, h1⟩, hb⟩
  have H1 := Lib.hid h1
  have HB := Lib.hid hb
  clear h1 hb
  go_wp2_with fail
  go_ret2
  exact ⟨⟨A1, c1, rfl, H1.out⟩, HB.out⟩
set_option maxRecDepth 100000 in
set_option maxHeartbeats 4000000 in
theorem codeReadSpec_any (HS : SpecOk) (A : Option Addr) (n c : Nat) (bs : Bs) (w : World) (h : BAsk w w.heap.size A n c bs) (hG : Glob w) :
    Calls Try.prog 16 #[.slice A n c] w (SEPost (spReadSQ bs).1 (spReadSQ bs).2 w) := by
  have hB0 : Below w.heap.size w (w.alloc (spO sp0)) := (Below.refl _ _).alloc (Nat.le_refl _) _
  have BX0 := Lib.hid (box_new w sp0)
  have HB0 := Lib.hid hB0
  have HW := Lib.hid (whole0_any HS A n c bs _ (h.next hB0) (hG.next hB0))
  clear h hG hB0
  unfold spReadSQ
  obtain ⟨r, hr⟩ : ∃ r, wholeOf sp0 specQ bs = r := ⟨_, rfl⟩
  rw [hr] at HW ⊢
  clear hr
  obtain ⟨s, er⟩ := r
  go_enter Try.func16, Try.ntmps16
  go_wp2_with fail
  refine HW.out.mono ?_
  rintro e w1 ⟨rfl, hb⟩
  have HB1 := Lib.hid (HB0.out.trans (hb.mono HB0.out.size))
  have BX1 := Lib.hid (BX0.out.next hb)
  clear hb
  obtain ⟨ff, a0, a1, a2, a3, a4, a5, a6⟩ := cells7 BX1.out.at'
  dsimp only [sp0] at a0 a1 a2 a3 a4 a5 a6
  unfold spV
  go_wp2_with fail
  refine bodyPost_ret (v := .tuple #[spV s, .int .i64 er]) (by simp [results, Try.results16, go_sem, spV, a0, a1, a2, a3, a4, a5, a6]) rfl ?_
  exact ⟨rfl, (((((((HB1.out.setCell (p := ⟨w.heap.size, 0, none⟩) (Nat.le_refl _) _).setCell (p := ⟨w.heap.size, 1, none⟩) (Nat.le_refl _) _).setCell (p := ⟨w.heap.size, 2, none⟩) (Nat.le_refl _) _).setCell (p := ⟨w.heap.size, 3, none⟩) (Nat.le_refl _) _).setCell (p := ⟨w.heap.size, 4, none⟩) (Nat.le_refl _) _).setCell (p := ⟨w.heap.size, 5, none⟩) (Nat.le_refl _) _).setCell (p := ⟨w.heap.size, 6, none⟩) (Nat.le_refl _) _)⟩
theorem specOk_code : SpecOk where
  right := fun s w hs _ => specRight_any s w hs
theorem codeOk_is : CodeOk where
  spec := fun s w hs hG => codeSpec_any specOk_code s w hs hG
  set := fun A n c l w h _ => codeSet_any A n c l w h
  list := fun A n c ps w h hf hG => codeList_any specOk_code A n c ps w h hf hG
  readSpec := fun A n c bs w h _ hG => codeReadSpec_any specOk_code A n c bs w h hG
  readSet := fun A n c bs w h _ hG => codeReadSet_any A n c bs w h hG
  readList := fun A n c bs w h _ hG => codeReadList_any specOk_code A n c bs w h hG

end Go.Proofs.Ytlpogkcfjbabaaa

namespace Go.Proofs.Ytlpogkcfjbabaaa
open Go.ChangeShapes Go.WideShapes Go.ChangeAt Go.RowKit Go.Deep

theorem own_knob : ownKnob Try.prog.godebug = none := by kernel_rfl
theorem laid_out : laidOutB Try.prog = true := by kernel_rfl

section
variable {H : Type} {enc : TypeId × Value → H} {P : Program}
/-- the arguments read as they did, in a world that keeps all that was there -/
theorem below_trodAll {W W' : World} (hlo : laidOutB P = true) (hb : Below W.heap.size W W') : ∀ {ts : List TypeId} {vs : List Value} {ds : List (DataW H)} {ps : List MemPlace},
    (∀ t ∈ ts, P.readableRec t = true ∧ t < P.types.size) → DataW.TrodAll enc P W 0 (fun _ => true) true ts vs ds ps → (∀ x ∈ ps, x.block < W.heap.size) → DataW.TrodAll enc P W' 0 (fun b => decide (b < W.heap.size)) true ts vs ds ps
  | [], [], [], _, _, h, _ => h
  | t :: ts, v :: vs, d :: ds, ps, ht, h, hlt => by
    obtain ⟨p, q, h1, h2, rfl⟩ := h
    exact ⟨p, q, Below.trod hlo (ht t (by simp)).1 (ht t (by simp)).2 h1 hb (fun x hx => hlt x (by simp [hx])), below_trodAll hlo hb (fun u hu => ht u (by simp [hu])) h2 (fun x hx => hlt x (by simp [hx])), rfl⟩
  | [], [], _ :: _, _, _, h, _ => h.elim
  | [], _ :: _, _, _, _, h, _ => h.elim
  | _ :: _, [], _, _, _, h, _ => h.elim
  | _ :: _, _ :: _, [], _, _, h, _ => h.elim
/-- 'it returns true, and the arguments read as they did', from what the walk leaves -/
theorem post_true {f : Func} {s : ChangeSpec} {apart : Bool} {W W' : World} {args : Array Value} {ds gs : List (DataW H)} {before : List MemPlace} {tb : TypeId}
    (hlo : laidOutB P = true) (htb : P.underlying tb = some .bool) (hrt : f.resultTypes = #[tb]) (hv : s.vars = [])
    (hrows : ∀ t ∈ f.params.toList, P.readableRec t = true ∧ t < P.types.size)
    (hs : s.fn H (ds ++ gs) = { results := [.lit (.bool true)], args := ds })
    (hW : DataW.Whole enc P f.params.toList s.vars apart W args.toList ds gs before) (hb : Below W.heap.size W W') :
    s.post enc P f apart true false false W args (.bool true) W' := by
  have hW' := hW
  obtain ⟨p, q, hA, hV, rfl, hz, hn⟩ := hW
  rw [hv] at hV
  obtain ⟨rfl, rfl⟩ := trodVars_none hV
  refine ⟨ds, [], _, [], p, [], hW', ?_, ?_, ?_, hb.frame _, fun h => by cases h⟩
  · rw [hs, hrt]
    exact trodAll_mk1 (shut_bool htb true)
  · rw [hs]
    exact below_trodAll hlo hb hrows hA fun x hx => by simpa using hW'.lt x (by simpa using hx)
  · rw [hs, hv]
    rfl
/-- an argument that is a slice of structs of one-cell fields -/
theorem open_slice_fields {w : World} {base : Nat} {spare : Nat → Bool} {held : Bool} {t e : TypeId} {fs : Array Field} {fuel : Nat} {cs : List Value} {x : DataW H × List MemPlace} (ht : P.underlying t = some (.slice e)) (he : P.underlying e = some (.struct fs))
    (hone : oneCellFields P fs = true) (hC : P.cellsOf e = fs.size) (h : DataW.trod enc P w base spare held fuel t cs = some x) :
    (cs = [.slice none 0 0] ∧ x = (.nil, [])) ∨
    ∃ (a : Addr) (len cap m : Nat), cs = [.slice (some a) len cap] ∧ base ≤ a.block ∧ len ≤ cap ∧ cap ≤ maxLen ∧ m = (if spare a.block then cap else len) ∧
      ∀ i, i < m → ∃ (n : Nat), ∀ (j : Nat) (f : Field), fs[j]? = some f → ∃ (v : Value) (y : DataW H × List MemPlace), w.cell? (a.add (i * fs.size + j)) = some v ∧ DataW.trod enc P w base spare held n f.type [v] = some y := by
  rcases open_slice ht h with h0 | ⟨a, len, cap, m, n, D, Pl, hcs, hb, hl, hm, hmm, hx, hi⟩
  · exact .inl h0
  · refine .inr ⟨a, len, cap, m, hcs, hb, hl, hm, hmm, fun i him => ?_⟩
    obtain ⟨cs', hc, ht'⟩ := hi i him
    rw [hC] at hc
    obtain ⟨ys, n', hn', hy, hlen, hyl, hf⟩ := DataW.trod_struct he ht'
    obtain ⟨_, hcl, hat⟩ := World.cells?_some hc
    refine ⟨n', fun j f hj => ?_⟩
    obtain ⟨ho, hk⟩ := hone_of hone j f hj
    have hjl : j < fs.size := (Array.getElem?_eq_some_iff.1 hj).1
    have hcell := hat j hjl
    have hv : cs'[j]? = some (cs'[j]'(by omega)) := List.getElem?_eq_getElem (by omega)
    have h1 := hf j f hj
    rw [ho, hk] at h1
    have hone' : (cs'.drop j).take 1 = [cs'[j]'(by omega)] := by
      rw [List.drop_eq_getElem_cons (by omega)]
      rfl
    rw [hone'] at h1
    have hys : ys[j]? = some (ys[j]'(by omega)) := List.getElem?_eq_getElem (by omega)
    refine ⟨_, _, ?_, h1.trans hys⟩
    rw [← Go.Deep.add_add, hcell, hv]
end

/-- a law's frame: from its walk to what the row says -/
theorem lifted_true {os : Os} {H : Type} {enc : TypeId × Value → H} {f : FuncId} {fn : Func} {s : ChangeSpec} {conds : List PathCond} {apart : Bool}
    (started : os.Started) (noInit : Try.prog.inits.idxOf? f = none) (hfn : Try.prog.funcs[f]? = some fn) (hrt : fn.resultTypes = #[4]) (hv : s.vars = [])
    (hrows : ∀ t ∈ fn.params.toList, Try.prog.readableRec t = true ∧ t < Try.prog.types.size)
    (witness : ∃ (w : World) (tape : Tape) (i : Input), w.os = os ∧ (w.forCall tape i).Shaped Try.checked.prog ∧ i.vars = [] ∧ Input.okWide Try.checked.prog (w.forCall tape i) .any w.heap.size f i ∧
      s.pre6 enc Try.checked.prog fn conds apart (w.forCall tape i).memory i.args ∧ ({} : Assume).holds Try.checked.prog (lone (Frame.enter Try.checked.prog f i.args .normal) [] (w.forCall tape i)))
    (walk : ∀ (W : World) (base : Nat) (args : Array Value) (ds : List (DataW H)) (p : List MemPlace),
      (∀ (j : Nat) t v, fn.params[j]? = some t → args[j]? = some v → Value.okWide Try.prog W .any base t v) →
      DataW.TrodAll enc Try.prog W 0 (fun _ => true) true fn.params.toList args.toList ds p →
      s.fn H ds = { results := [.lit (.bool true)], args := ds } ∧ Calls Try.prog f args W fun e W' => e = .returned (.bool true) ∧ Below W.heap.size W W') :
    ReturnsInHanded {} Try.checked os f .any (s.pre6 enc Try.prog fn conds apart) (s.post enc Try.prog fn apart true false false) := by
  refine returnsInHanded_of_change_shaped (C := Try.checked) own_knob started noInit hfn witness ?_
  intro W base args ds gs before hval hW _ _ _ _
  have hW' := hW
  obtain ⟨p, q, hA, hV, rfl, _, _⟩ := hW
  rw [hv] at hV
  obtain ⟨rfl, rfl⟩ := trodVars_none hV
  obtain ⟨hs, hw⟩ := walk W base args ds p hval hA
  refine hw.mono fun e W' ⟨he, hb⟩ => ?_
  subst he
  exact ⟨_, rfl, post_true laid_out Try.underlying4 hrt hv hrows (by simpa using hs) hW' hb⟩

end Go.Proofs.Ytlpogkcfjbabaaa

namespace Go.Proofs.Ytlpogkcfjbabaaa
open Go.ChangeShapes Go.WideShapes Go.ChangeAt Go.RowKit Go.Deep

theorem i64_wf {x : Int} (h : (Lit.int .i64 x).wf = true) : I64 x := by
  have h1 : IntKind.i64.min = -9223372036854775808 := rfl
  have h2 : IntKind.i64.max = 9223372036854775807 := rfl
  simp only [Lit.wf, Bool.and_eq_true, decide_eq_true_eq] at h
  unfold I64
  omega
theorem u8_wf {x : Int} (h : (Lit.int .u8 x).wf = true) : 0 ≤ x ∧ x ≤ 255 := by
  have h1 : IntKind.u8.min = 0 := rfl
  have h2 : IntKind.u8.max = 255 := rfl
  simp only [Lit.wf, Bool.and_eq_true, decide_eq_true_eq] at h
  omega
theorem u32_wf {x : Int} (h : (Lit.int .u32 x).wf = true) : 0 ≤ x ∧ x ≤ 4294967295 := by
  have h1 : IntKind.u32.min = 0 := rfl
  have h2 : IntKind.u32.max = 4294967295 := rfl
  simp only [Lit.wf, Bool.and_eq_true, decide_eq_true_eq] at h
  omega
theorem list_of_each {α : Type} {Q : Nat → α → Prop} : ∀ (n : Nat), (∀ i, i < n → ∃ a, Q i a) → ∃ xs : List α, xs.length = n ∧ ∀ j x, xs[j]? = some x → Q j x
  | 0, _ => ⟨[], rfl, fun j x h => by simp at h⟩
  | n + 1, h => by
    obtain ⟨xs, h1, h2⟩ := list_of_each n (fun i hi => h i (by omega))
    obtain ⟨a, ha⟩ := h n (by omega)
    refine ⟨xs ++ [a], by simp [h1], fun j x hj => ?_⟩
    rcases Nat.lt_trichotomy j n with hlt | heq | hgt
    · rw [List.getElem?_append_left (by omega)] at hj
      exact h2 j x hj
    · subst heq
      rw [List.getElem?_append_right (by omega), h1] at hj
      simp at hj
      subst hj
      exact ha
    · rw [List.getElem?_eq_none (by simp; omega)] at hj
      cases hj
theorem open_RN {H : Type} {enc : TypeId × Value → H} {α : Type} {E : Elem α} {t e : TypeId} {C : Nat} {W : World} {cs : List Value} {x : DataW H × List MemPlace} {fuel : Nat}
    (ht : Try.prog.underlying t = some (.slice e)) (hC : Try.prog.cellsOf e = C) (hC0 : 0 < C)
    (hread : ∀ (n : Nat) (cs : List Value) (y : DataW H × List MemPlace), cs.length = C → DataW.trod enc Try.prog W 0 (fun _ => true) true n e cs = some y → ∃ a : α, E W (Lt W.heap.size) a cs)
    (h : DataW.trod enc Try.prog W 0 (fun _ => true) true fuel t cs = some x) :
    ∃ A n c xs, cs = [.slice A n c] ∧ RN E C W (Lt W.heap.size) A n xs ∧ (A = none → c = 0) ∧ n ≤ c ∧ n ≤ maxLen := by
  rcases open_slice ht h with ⟨h1, _⟩ | ⟨a, len, cap, m, n, D, Pl, h1, _, hl, hm, hmm, _, hi⟩
  · exact ⟨none, 0, 0, [], h1, RN.nil, fun _ => rfl, Nat.le_refl _, Nat.zero_le _⟩
  · simp only [if_true] at hmm
    subst hmm
    rw [hC] at hi
    obtain ⟨xs, hx1, hx2⟩ := list_of_each (Q := fun i (y : α) => ∃ vs : List Value, vs.length = C ∧ (∀ k v, vs[k]? = some v → W.cell? (a.add (i * C + k)) = some v) ∧ E W (Lt W.heap.size) y vs) len (by
      intro i hil
      obtain ⟨vs, hc, htr⟩ := hi i (by omega)
      obtain ⟨_, hcl, hat⟩ := World.cells?_some hc
      obtain ⟨y, hy⟩ := hread _ _ _ hcl htr
      refine ⟨y, vs, hcl, fun k v hv => ?_, hy⟩
      have hk : k < C := by rw [← hcl]; exact (List.getElem?_eq_some_iff.1 hv).1
      rw [← add_add, hat k hk, hv])
    refine ⟨some a, len, _, xs, h1, ⟨hx1, fun hn => ?_⟩, (fun e => by cases e), hl, by omega⟩
    obtain ⟨y0, hy0⟩ : ∃ y, xs[0]? = some y := ⟨_, List.getElem?_eq_getElem (by omega)⟩
    obtain ⟨vs0, hl0, hc0, _⟩ := hx2 0 y0 hy0
    have h0 := hc0 0 _ (List.getElem?_eq_getElem (by omega))
    obtain ⟨b, off, spot⟩ := a
    have hs : spot = none := by simpa [Addr.add] using World.cell?_spot h0
    subst hs
    have hb : b < W.heap.size := by simpa [Addr.add] using World.block_lt_of_cell? W _ h0
    refine ⟨b, off, rfl, hb, fun j y hj => ?_⟩
    obtain ⟨vs, k1, k2, k3⟩ := hx2 j y hj
    refine ⟨vs, k1, fun i v hv => ?_, k3⟩
    have := k2 i v hv
    rwa [add_none] at this

end Go.Proofs.Ytlpogkcfjbabaaa

namespace Go.Proofs.Ytlpogkcfjbabaaa
open Go.ChangeShapes Go.WideShapes Go.ChangeAt Go.RowKit Go.Deep

/-- a number, in an int's bounds, as an element -/
def EJ : Elem Int := fun _ _ x vs => vs = [.int .i64 x] ∧ I64 x
theorem RN.rj {w : World} {B n : Nat} {A : Option Addr} {xs : List Int} (h : RN EJ 1 w (Lt B) A n xs) : RI w B A n xs ∧ ∀ x ∈ xs, I64 x := by
  have h' : RN EI 1 w (Lt B) A n xs := ⟨h.1, fun hn => by
    obtain ⟨b, off, e, hb, hc⟩ := h.2 hn
    exact ⟨b, off, e, hb, fun j x hx => let ⟨vs, h1, h2, h3⟩ := hc j x hx; ⟨vs, h1, h2, h3.1⟩⟩⟩
  refine ⟨h'.ri, fun x hx => ?_⟩
  obtain ⟨k, hk, rfl⟩ := List.getElem_of_mem hx
  obtain ⟨_, _, _, _, _, _, _, h3⟩ := RN.at h (List.getElem?_eq_getElem hk)
  exact h3.2
theorem open_RJ {H : Type} {enc : TypeId × Value → H} {W : World} {b0 : Nat} {v : Value} {d : DataW H} {ps : List MemPlace}
    (hval : Value.okWide Try.prog W .any b0 24 v) (h : DataW.Trod enc Try.prog W 0 (fun _ => true) true 24 v d ps) :
    ∃ A n c xs, v = .slice A n c ∧ RI W W.heap.size A n xs ∧ (∀ x ∈ xs, I64 x) ∧ (A = none → c = 0) ∧ n ≤ c ∧ n ≤ maxLen := by
  obtain ⟨fuel, hf⟩ := h
  obtain ⟨a', n', c', rfl⟩ := okWide_slice Try.underlying24 hval
  obtain ⟨A, n, c, xs, e, hr, h1, h2, h3⟩ := open_RN (E := EJ) (C := 1) Try.underlying24 (by kernel_rfl) (by omega) (fun n cs y _ ht => by
    obtain ⟨z, e0, _, hw⟩ := DataW.trod_int Try.underlying3 ht
    exact ⟨z, e0, i64_wf hw⟩) hf
  simp [Value.cells] at e
  obtain ⟨rfl, rfl, rfl⟩ := e
  obtain ⟨g1, g2⟩ := hr.rj
  exact ⟨_, _, _, xs, rfl, g1, g2, h1, h2, h3⟩

end Go.Proofs.Ytlpogkcfjbabaaa
