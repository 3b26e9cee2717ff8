/- What set.Show answers: a set's text, or none; the table of powers of ten as Go's text lays it. -/
import Derived.Test.YtgifhbjcelkjkaaDoorSetRefShow
import Derived.Test.YtgifhbjcelkjkaaDoorSetOps
import Derived.Lib.AppendIntMem
import Derived.Lib.ItoaLen
import Derived.Laws.IdiomStrings
namespace Go.Proofs.YtgifhbjcelkjkaaDoor
open Go.RowKit Go.Shelf

theorem byte_info : (Tryd.prog.info? 5).map (fun i => (i.zero, i.size, i.bytes)) = some (some (.int .u8 0), 1, 1) := by kernel_rfl
def lenOf : Value → Nat
  | .slice _ n _ => n
  | _ => 0

/-- where the loop stands: the numbers that are left, the text of those before them -/
def ShowRel (xs : List Int) (w : World) (a t : Value) (wr : World) : Prop :=
  ∃ (rest : List Int) (ds : List (Int × Int)) (A : Option Addr) (c : Nat), a = .slice A rest.length c ∧ rest.length ≤ c ∧ RI w w.heap.size A rest.length rest ∧ rightB rest = true ∧ runsOf xs = ds ++ runsOf rest ∧
    wr.ownsRow w.heap.size 5 1 t (joinC (ds.map item)).length (Lib.byteCells (joinC (ds.map item))) ∧ (∀ x ∈ ds.map item, x.length ≤ 7) ∧ Below w.heap.size w wr

theorem own_cast {w : World} {B n n' : Nat} {e : TypeId} {v : Value} {xs ys : List Value} (h : w.ownsRow B e 1 v n xs) (hn : n = n') (hx : xs = ys) : w.ownsRow B e 1 v n' ys := by subst hn; subst hx; exact h
theorem cell_new (W : World) (v : Value) (t : TypeId) : (W.alloc (.cells #[v] t)).cell? ((⟨W.heap.size, 0, none⟩ : Addr).add 0) = some v := by simp [Addr.add]
theorem own_form {w : World} {base n : Nat} {e : TypeId} {v : Value} {xs : List Value} (h : w.ownsRow base e 1 v n xs) : ∃ A c, v = .slice A n c := by
  rcases h.2 with ⟨hv, h0⟩ | ⟨g, cap, cur, hv, _⟩
  · subst h0; exact ⟨none, 0, hv⟩
  · exact ⟨_, _, hv⟩
theorem RI.cut {w : World} {B n b off z : Nat} {A' : Option Addr} {xs : List Int} (h : RI w B (some ⟨b, off, none⟩) n xs) (hz : z ≤ n) (hA : z < n → A' = some ⟨b, off + z, none⟩) : RI w B A' (n - z) (xs.drop z) := by
  refine ⟨by rw [List.length_drop, h.1], fun hn => ?_⟩
  obtain ⟨b', off', e, hb, hc⟩ := h.2 (by omega)
  injection e with e
  injection e with e1 e2
  subst e1; subst e2
  refine ⟨b, off + z, hA (by omega), hb, fun j hj => ?_⟩
  have := hc (z + j) (by omega)
  rw [Nat.add_assoc, this]
  simp [List.getD, List.getElem?_drop]
theorem right_drop {xs : List Int} (h : rightB xs = true) : ∀ z : Nat, rightB (xs.drop z) = true := by
  intro z
  induction z generalizing xs with
  | zero => exact h
  | succ z ih =>
    cases xs with
    | nil => exact h
    | cons x t => exact ih (right_tail h)
theorem runs_count {xs : List Int} (h : rightB xs = true) {ds : List (Int × Int)} {rest : List Int} (e : runsOf xs = ds ++ runsOf rest) : ds.length ≤ 256 := by
  have h1 := runs_length xs
  have h2 := right_length h
  rw [e, List.length_append] at h1
  omega
theorem bytes_snoc (l m : List UInt8) : Lib.byteCells l ++ Lib.byteCells m = Lib.byteCells (l ++ m) := by simp [Lib.byteCells]
theorem bytes_one (c : UInt8) : [Value.int .u8 (c.toNat : Int)] = Lib.byteCells [c] := rfl

/-- the text behind one run more -/
def nextTxt (L : List UInt8) (none? : Bool) (x y : Int) (z : Nat) : List UInt8 :=
  (if none? then L else L ++ [44]) ++ Lib.itoa x ++ (if 1 < z then 45 :: Lib.itoa y else [])
theorem nextTxt_is {ds : List (Int × Int)} {x y : Int} {z : Nat} (hz : (x < y) ↔ 1 < z) : joinC ((ds ++ [(x, y)]).map item) = nextTxt (joinC (ds.map item)) (decide (ds = [])) x y z := by
  rw [List.map_append]
  unfold nextTxt
  by_cases hd : ds = []
  · subst hd
    show item (x, y) = _
    unfold item
    by_cases h : x < y
    · simp [h, hz.1 h, joinC]
    · have h2 : ¬ 1 < z := fun e => h (hz.2 e)
      simp [h, h2, joinC]
  · have hne : ds.map item ≠ [] := fun e => hd (List.map_eq_nil_iff.1 e)
    rw [List.map_cons, List.map_nil, joinC_snoc _ _ hne]
    unfold item
    by_cases h : x < y
    · simp [h, hz.1 h, hd]
    · have h2 : ¬ 1 < z := fun e => h (hz.2 e)
      simp [h, h2, hd]
/-- what one round leaves of the relation -/
theorem show_step {xs rest : List Int} {w w' : World} {ds : List (Int × Int)} {A' : Option Addr} {c c' b off : Nat} {v : Value} (hne : rest ≠ []) (hlc : rest.length ≤ c) (hri : RI w w.heap.size (some ⟨b, off, none⟩) rest.length rest) (hright : rightB rest = true) (hruns : runsOf xs = ds ++ runsOf rest)
    (hitem : ∀ x ∈ ds.map item, x.length ≤ 7) (hA : runLen rest < rest.length → A' = some ⟨b, off + runLen rest, none⟩) (hc' : c' = c - runLen rest) {M : List UInt8} (hM : M = nextTxt (joinC (ds.map item)) (decide (ds = [])) (rest.getD 0 0) (rest.getD (runLen rest - 1) 0) (runLen rest))
    (hown : w'.ownsRow w.heap.size 5 1 v M.length (Lib.byteCells M)) (hb : Below w.heap.size w w') :
    ShowRel xs w (.slice A' (rest.length - runLen rest) c') v w' := by
  have hl := runLen_last rest hne
  have hp := runLen_pos hne
  have hle := runLen_le rest
  have hz : (rest.getD 0 0 < rest.getD (runLen rest - 1) 0) ↔ 1 < runLen rest := by rw [hl]; omega
  have e := nextTxt_is (ds := ds) hz
  rw [← hM] at e
  have hst := runsOf_step rest hne
  refine ⟨rest.drop (runLen rest), ds ++ [(rest.getD 0 0, rest.getD (runLen rest - 1) 0)], A', c', by rw [List.length_drop], by rw [List.length_drop]; omega, by rw [List.length_drop]; exact hri.cut hle hA, right_drop hright _, by rw [hruns, hst]; simp, by rw [e]; exact hown, ?_, hb⟩
  intro x hx
  rw [List.map_append, List.mem_append] at hx
  rcases hx with hx | hx
  · exact hitem x hx
  · simp at hx
    subst hx
    exact item_len hright (by rw [hst]; simp)

theorem run_nil_string (W : World) : (convert 55 9 (.slice none 0 0)).run Tryd.prog W = .ok (.string ⟨#[]⟩) W := by
  rw [run_convert_bytes_string W 55 9 5 none 0 0 Tryd.underlying55 Tryd.underlying5 Tryd.underlying9]
  rfl

set_option maxHeartbeats 8000000 in
theorem show_any (A : Option Addr) (n c : Nat) (xs : List Int) (w : World) (hr : RI w w.heap.size A n xs) (hn : n ≤ maxLen) (hnc : n ≤ c) (hT : Lib.TabIs Tryd.prog w "internal/strconv.uint64pow10" .u64 Lib.pow10Tab) :
    Calls Tryd.prog 23 #[.slice A n c] w fun e w' => e = .returned (.string (ShowB xs)) ∧ Below w.heap.size w w' := by
  have HT := Lib.hid (Lib.tabBelow_of_tabIs hT)
  clear hT
  cases hx : rightB xs with
  | false =>
    have HX := Lib.hid hx
    have HL : Hid (ShowB xs = ⟨#[]⟩) := Lib.hid (by unfold ShowB; rw [hx]; rfl)
    clear hx
    go_enter Tryd.func23, Tryd.ntmps23
    go_wp2_with fail
    refine (right_any _ _ _ xs _ _ hr hn).mono ?_
    rintro e w1 ⟨rfl, rfl⟩
    rw [HX.out]
    go_wp2
    go_ret
    exact ⟨by rw [HL.out]; rfl, Below.refl _ _⟩
  | true =>
    have HX := Lib.hid hx
    clear hx
    have HLEN := Lib.hid hr.1
    obtain ⟨i0, hi, hz0, hz1, hz2⟩ := info_parts byte_info
    go_enter Tryd.func23, Tryd.ntmps23
    go_wp2_with fail
    refine (right_any _ _ _ xs _ _ hr hn).mono ?_
    rintro e w1 ⟨rfl, rfl⟩
    rw [HX.out]
    go_wp2
    go_loopw [0, 3] (fun a t wr => ShowRel xs w a t wr) (fun a _ _ => lenOf a)
    case atStart =>
      exact ⟨xs, [], A, c, by rw [HLEN.out], by rw [HLEN.out]; exact hnc, by rw [HLEN.out]; exact hr, HX.out, rfl, World.ownsRow_nil _ _ _ _, by simp, Below.refl _ _⟩
    case round =>
      obtain ⟨rest, ds, A', c', rfl, hlc, hri, hright, hruns, hown, hitem, hb⟩ := hrel
      clear hr
      by_cases hne : rest = []
      · subst hne
        have HS : Hid (joinC (ds.map item) = showL xs) := Lib.hid (by unfold showL; rw [hruns]; simp [runsOf])
        have HSB : Hid (ShowB xs = ⟨(showL xs).toArray⟩) := Lib.hid (by unfold ShowB; rw [if_pos HX.out])
        rw [HS.out] at hown
        clear hri hright hruns hitem HS
        generalize showL xs = L at *
        rcases hown.2 with ⟨ht, h0⟩ | ⟨g, cap, cur, ht, -, -, -, -, -, -⟩
        · subst ht
          have hL : L = [] := List.eq_nil_of_length_eq_zero h0
          have hcv := run_nil_string wr
          clear h0 hown
          go_wp2
          go_ret
          exact ⟨by rw [HSB.out, hL]; rfl, hb⟩
        · subst ht
          have hcv := run_convert_bytes_back (P := Tryd.prog) wr 55 9 5 ⟨g, 0, none⟩ cap L Tryd.underlying55 Tryd.underlying5 Tryd.underlying9 (fun j hj => hown.cells (g := g) rfl j _ (by simp [Lib.byteCells, hj]))
          clear hown
          go_wp2
          go_ret
          exact ⟨by rw [HSB.out]; rfl, hb⟩
      · have hpos : 0 < rest.length := List.length_pos_iff.2 hne
        have hl256 := right_length hright
        obtain ⟨b, off, rfl, hbB, hc⟩ := hri.2 hpos
        have hzp := runLen_pos hne
        have hzl := runLen_le rest
        have HC := Lib.hid hc
        clear hc
        have hxb := right_mem hright (rest.getD 0 0) (by simp [List.getD, hpos])
        have hyb := right_mem hright (rest.getD (runLen rest - 1) 0) (by simp [List.getD, show runLen rest - 1 < rest.length by omega])
        have hLs := joinC_len _ hitem
        have hdl := runs_count HX.out hruns
        rw [List.length_map] at hLs
        have HSTEP := Lib.hid (fun A' c'' v w' M h1 h2 h3 h4 h5 => @show_step xs rest w w' ds A' c' c'' b off v hne hlc hri hright hruns hitem h1 h2 M h3 h4 h5)
        have hrw := hri.below hb
        obtain ⟨At, ct, rfl⟩ := own_form hown
        go_wp2_with fail
        refine (runSize_any _ _ _ rest _ _ hrw hl256 hpos hright).mono ?_
        rintro e w1 ⟨rfl, q, rfl⟩
        have hL0 : joinC (ds.map item) = [] ↔ ds = [] := by
          constructor
          · intro h
            by_cases hd : ds = []
            · exact hd
            · exact absurd h (joinC_ne (fun e => hd (List.map_eq_nil_iff.1 e)) fun x hx => by
                obtain ⟨r, _, rfl⟩ := List.mem_map.1 hx
                exact item_ne r)
          · rintro rfl; rfl
        have HL0 := Lib.hid hL0
        clear hL0 hri hrw hruns hitem
        generalize hx : rest.getD 0 0 = x at *
        generalize hy : rest.getD (runLen rest - 1) 0 = y at *
        have HXX := Lib.hid hx
        have HYY := Lib.hid hy
        clear hx hy
        generalize runLen rest = z at *
        generalize joinC (ds.map item) = L at *
        have hia := Lib.itoa_length_le x (by omega) (by omega)
        have hib := Lib.itoa_length_le y (by omega) (by omega)
        have hbq := below_drewN hb q
        have hownq : (wr.drewN q).ownsRow w.heap.size 5 1 (.slice At L.length ct) L.length (Lib.byteCells L) := hown
        by_cases hLn : 0 < L.length
        · have HD : Hid (decide (ds = []) = false) := Lib.hid (by rw [← Bool.not_eq_true, decide_eq_true_eq]; intro e; have := HL0.out.2 e; rw [this] at hLn; simp at hLn)
          go_wp2_with (at_builtin; refine wpList_append_own _ rfl (.tmp 16) (.tmp 17) 55 rfl w.heap.size 5 i0 (.int .u8 0) 1 1 Tryd.underlying55 hi hz0 hz1 hz2 rfl (by decide) _ _ _ rfl (hownq.alloc _) ⟨wr.heap.size, 0, none⟩ 1 1 [.int .u8 44] rfl rfl (by intro j u hj; match j, hj with | 0, hj => simp at hj; subst hj; exact cell_new _ _ _) (by intro u hu; simp at hu; subst hu; rfl) (by unfold maxLen; omega) (by omega) (Nat.le_trans hbq.size (by simp)) ?_; intro v2 w2 hown2 hg2 _; refine Hid.out ?_)
          refine Lib.hid ?_
          have hb2 : Below w.heap.size w w2 := (hbq.alloc hbq.size _).grown hg2 (Nat.le_trans hbq.size (by simp)) (fun j hj => (hownq.lt j hj).1)
          obtain ⟨A2, c2, rfl⟩ := own_form hown2
          clear hg2
          have hcx : w2.cell? ⟨b, off, none⟩ = some (.int .i64 x) := by
            have := (hb2.cell (p := ⟨b, off + 0, none⟩) hbB).trans (HC.out 0 hpos)
            rw [HXX.out] at this
            exact this
          go_wp2_with fail
          refine (Tryd.strconv_AppendInt_10 w.heap.size _ x (by omega) (by omega) _ _ _ hown2 (hb2.size) (by omega) (HT.out.on hb2)).mono ?_
          rintro e w3 ⟨v3, rfl, hown3, hb3, -⟩
          have hb3' : Below w.heap.size w w3 := hb2.trans hb3
          obtain ⟨A3, c3, rfl⟩ := own_form hown3
          clear hcx
          by_cases hz1' : 1 < z
          · have hdz : decide ((1 : Int) < (z : Int)) = true := by simp; omega
            go_wp2_with (at_builtin; refine wpList_append_own _ rfl (.tmp 26) (.tmp 27) 55 rfl w.heap.size 5 i0 (.int .u8 0) 1 1 Tryd.underlying55 hi hz0 hz1 hz2 rfl (by decide) _ _ _ rfl (hown3.alloc _) ⟨w3.heap.size, 0, none⟩ 1 1 [.int .u8 45] rfl rfl (by intro j u hj; match j, hj with | 0, hj => simp at hj; subst hj; exact cell_new _ _ _) (by intro u hu; simp at hu; subst hu; rfl) (by unfold maxLen; omega) (by omega) (Nat.le_trans hb3'.size (by simp)) ?_; intro v4 w4 hown4 hg4 _; refine Hid.out ?_)
            refine Lib.hid ?_
            have hb4 : Below w.heap.size w w4 := (hb3'.alloc hb3'.size _).grown hg4 (Nat.le_trans hb3'.size (by simp)) (fun j hj => (hown3.lt j hj).1)
            obtain ⟨A4, c4, rfl⟩ := own_form hown4
            have hcy : w4.cell? ⟨b, off + (z - 1), none⟩ = some (.int .i64 y) := by
              have := (hb4.cell (p := ⟨b, off + (z - 1), none⟩) hbB).trans (HC.out (z - 1) (by omega))
              rw [HYY.out] at this
              exact this
            clear hg4
            go_wp2_with fail
            refine (Tryd.strconv_AppendInt_10 w.heap.size _ y (by omega) (by omega) _ _ _ hown4 (hb4.size) (by omega) (HT.out.on hb4)).mono ?_
            rintro e w5 ⟨v5, rfl, hown5, hb5, -⟩
            have hb5' : Below w.heap.size w w5 := hb4.trans hb5
            clear hcy
            have R : Hid (∀ A' c'', (z < rest.length → A' = some ⟨b, off + z, none⟩) → c'' = c' - z → ShowRel xs w (.slice A' (rest.length - z) c'') v5 w5) := Lib.hid (fun A' c'' h1 h2 => HSTEP.out A' c'' _ _ (L ++ [44] ++ Lib.itoa x ++ 45 :: Lib.itoa y) h1 h2 (by unfold nextTxt; rw [HD.out]; simp [hz1']) (own_cast hown5 (by first | (simp; done) | (simp; omega)) (by simp [Lib.byteCells])) hb5')
            clear HSTEP
            go_wp2
            go_roundw
            case rel => exact R.out _ _ (fun h => by rw [if_neg (by omega)]) rfl
            case measure => simp [lenOf]; omega
          · have hz1n : z ≤ 1 := by omega
            have hdz : decide ((1 : Int) < (z : Int)) = false := by simp; omega
            have R : Hid (∀ A' c'', (z < rest.length → A' = some ⟨b, off + z, none⟩) → c'' = c' - z → ShowRel xs w (.slice A' (rest.length - z) c'') (.slice A3 _ c3) w3) := Lib.hid (fun A' c'' h1 h2 => HSTEP.out A' c'' _ _ (L ++ [44] ++ Lib.itoa x) h1 h2 (by unfold nextTxt; rw [HD.out]; simp [hz1']) (own_cast hown3 (by first | (simp; done) | (simp; omega)) (by simp [Lib.byteCells])) hb3')
            clear HSTEP
            go_wp2
            go_roundw
            case rel => exact R.out _ _ (fun h => by rw [if_neg (by omega)]) rfl
            case measure => simp [lenOf]; omega
        · have HD : Hid (decide (ds = []) = true) := Lib.hid (by rw [decide_eq_true_eq]; exact HL0.out.1 (List.eq_nil_of_length_eq_zero (by omega)))
          have hcx : (wr.drewN q).cell? ⟨b, off, none⟩ = some (.int .i64 x) := by
            have := (hbq.cell (p := ⟨b, off + 0, none⟩) hbB).trans (HC.out 0 hpos)
            rw [HXX.out] at this
            exact this
          go_wp2_with fail
          refine (Tryd.strconv_AppendInt_10 w.heap.size _ x (by omega) (by omega) _ _ _ hownq (hbq.size) (by omega) (HT.out.on hbq)).mono ?_
          rintro e w3 ⟨v3, rfl, hown3, hb3, -⟩
          have hb3' : Below w.heap.size w w3 := hbq.trans hb3
          obtain ⟨A3, c3, rfl⟩ := own_form hown3
          clear hcx
          by_cases hz1' : 1 < z
          · have hdz : decide ((1 : Int) < (z : Int)) = true := by simp; omega
            go_wp2_with (at_builtin; refine wpList_append_own _ rfl (.tmp 26) (.tmp 27) 55 rfl w.heap.size 5 i0 (.int .u8 0) 1 1 Tryd.underlying55 hi hz0 hz1 hz2 rfl (by decide) _ _ _ rfl (hown3.alloc _) ⟨w3.heap.size, 0, none⟩ 1 1 [.int .u8 45] rfl rfl (by intro j u hj; match j, hj with | 0, hj => simp at hj; subst hj; exact cell_new _ _ _) (by intro u hu; simp at hu; subst hu; rfl) (by unfold maxLen; omega) (by omega) (Nat.le_trans hb3'.size (by simp)) ?_; intro v4 w4 hown4 hg4 _; refine Hid.out ?_)
            refine Lib.hid ?_
            have hb4 : Below w.heap.size w w4 := (hb3'.alloc hb3'.size _).grown hg4 (Nat.le_trans hb3'.size (by simp)) (fun j hj => (hown3.lt j hj).1)
            obtain ⟨A4, c4, rfl⟩ := own_form hown4
            have hcy : w4.cell? ⟨b, off + (z - 1), none⟩ = some (.int .i64 y) := by
              have := (hb4.cell (p := ⟨b, off + (z - 1), none⟩) hbB).trans (HC.out (z - 1) (by omega))
              rw [HYY.out] at this
              exact this
            clear hg4
            go_wp2_with fail
            refine (Tryd.strconv_AppendInt_10 w.heap.size _ y (by omega) (by omega) _ _ _ hown4 (hb4.size) (by omega) (HT.out.on hb4)).mono ?_
            rintro e w5 ⟨v5, rfl, hown5, hb5, -⟩
            have hb5' : Below w.heap.size w w5 := hb4.trans hb5
            clear hcy
            have R : Hid (∀ A' c'', (z < rest.length → A' = some ⟨b, off + z, none⟩) → c'' = c' - z → ShowRel xs w (.slice A' (rest.length - z) c'') v5 w5) := Lib.hid (fun A' c'' h1 h2 => HSTEP.out A' c'' _ _ (L ++ Lib.itoa x ++ 45 :: Lib.itoa y) h1 h2 (by unfold nextTxt; rw [HD.out]; simp [hz1']) (own_cast hown5 (by first | (simp; done) | (simp; omega)) (by simp [Lib.byteCells])) hb5')
            clear HSTEP
            go_wp2
            go_roundw
            case rel => exact R.out _ _ (fun h => by rw [if_neg (by omega)]) rfl
            case measure => simp [lenOf]; omega
          · have hz1n : z ≤ 1 := by omega
            have hdz : decide ((1 : Int) < (z : Int)) = false := by simp; omega
            have R : Hid (∀ A' c'', (z < rest.length → A' = some ⟨b, off + z, none⟩) → c'' = c' - z → ShowRel xs w (.slice A' (rest.length - z) c'') (.slice A3 _ c3) w3) := Lib.hid (fun A' c'' h1 h2 => HSTEP.out A' c'' _ _ (L ++ Lib.itoa x) h1 h2 (by unfold nextTxt; rw [HD.out]; simp [hz1']) (own_cast hown3 (by first | (simp; done) | (simp; omega)) (by simp [Lib.byteCells])) hb3')
            clear HSTEP
            go_wp2
            go_roundw
            case rel => exact R.out _ _ (fun h => by rw [if_neg (by omega)]) rfl
            case measure => simp [lenOf]; omega

end Go.Proofs.YtgifhbjcelkjkaaDoor
