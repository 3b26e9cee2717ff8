/- The reference's Change of pools (bailiwickref04): so much taken of each kind, or given. -/
import Derived.Test.YtkhnlbkghjjdnaaPoolsReads
import Derived.Deep.RegionHeld3
namespace Go.Proofs.Ytkhnlbkghjjdnaa
open Go.RowKit

theorem slsl_info : (Try.prog.info? 26).map (fun i => (i.zero, i.size, i.bytes)) = some (some (.slice none 0 0), 1, 24) := by kernel_rfl

/-- taken, or given, of one kind -/
def opR (give : Bool) (p : List (Int × Int)) (a b k : Int) : List (Int × Int) × Int := if give then giveR p a b k else takeR p a b k
/-- of all kinds -/
def changePP (give : Bool) (ls : List (List (Int × Int))) (a b : Int) (ns : List Int) : List (List (Int × Int)) × Int :=
  if rightPP ls = false ∨ ns.length ≠ ls.length then (ls, 1) else
    match (List.range ls.length).find? (fun j => decide ((opR give (ls.getD j []) a b (ns.getD j 0)).2 ≠ 0)) with
    | some j => (ls, (opR give (ls.getD j []) a b (ns.getD j 0)).2)
    | none => ((List.range ls.length).map (fun j => (opR give (ls.getD j []) a b (ns.getD j 0)).1), 0)
/-- the first k results -/
def headPP (give : Bool) (ls : List (List (Int × Int))) (a b : Int) (ns : List Int) (k : Nat) : List (List (Int × Int)) := (List.range k).map (fun j => (opR give (ls.getD j []) a b (ns.getD j 0)).1)
theorem headPP_len (give : Bool) (ls : List (List (Int × Int))) (a b : Int) (ns : List Int) (k : Nat) : (headPP give ls a b ns k).length = k := by simp [headPP]
theorem headPP_succ (give : Bool) (ls : List (List (Int × Int))) (a b : Int) (ns : List Int) (k : Nat) : headPP give ls a b ns (k + 1) = headPP give ls a b ns k ++ [(opR give (ls.getD k []) a b (ns.getD k 0)).1] := by
  simp [headPP, List.range_succ]
theorem changePP_bad {give : Bool} {ls : List (List (Int × Int))} {a b : Int} {ns : List Int} (h : rightPP ls = false ∨ ns.length ≠ ls.length) : changePP give ls a b ns = (ls, 1) := by unfold changePP; rw [if_pos h]
theorem find_range_none {P : Nat → Bool} {n : Nat} (h : ∀ j, j < n → P j = false) : (List.range n).find? P = none := by
  rw [List.find?_eq_none]
  intro x hx
  rw [h x (List.mem_range.1 hx)]
  simp
theorem find_range_some {P : Nat → Bool} {n k : Nat} (hk : k < n) (h : ∀ j, j < k → P j = false) (hp : P k = true) : (List.range n).find? P = some k := by
  rw [List.find?_range_eq_some]
  exact ⟨hp, List.mem_range.2 hk, fun j hj => by rw [h j hj]; rfl⟩
theorem changePP_err {give : Bool} {ls : List (List (Int × Int))} {a b : Int} {ns : List Int} {k : Nat} (h1 : rightPP ls = true) (h2 : ns.length = ls.length) (hk : k < ls.length)
    (h : ∀ j, j < k → (opR give (ls.getD j []) a b (ns.getD j 0)).2 = 0) (he : (opR give (ls.getD k []) a b (ns.getD k 0)).2 ≠ 0) : changePP give ls a b ns = (ls, (opR give (ls.getD k []) a b (ns.getD k 0)).2) := by
  unfold changePP
  rw [if_neg (by rw [h1]; simp [h2]), find_range_some hk (fun j hj => by rw [h j hj]; rfl) (decide_eq_true he)]
theorem changePP_ok {give : Bool} {ls : List (List (Int × Int))} {a b : Int} {ns : List Int} (h1 : rightPP ls = true) (h2 : ns.length = ls.length)
    (h : ∀ j, j < ls.length → (opR give (ls.getD j []) a b (ns.getD j 0)).2 = 0) : changePP give ls a b ns = (headPP give ls a b ns ls.length, 0) := by
  unfold changePP headPP
  rw [if_neg (by rw [h1]; simp [h2]), find_range_none (fun j hj => by rw [h j hj]; rfl)]
theorem changePP_len (give : Bool) (ls : List (List (Int × Int))) (a b : Int) (ns : List Int) : (changePP give ls a b ns).1.length = ls.length := by
  unfold changePP
  split
  · rfl
  · split <;> simp

/-- pools and an error's number, read from whatever memory; all that was there is kept -/
def PPost (l : List (List (Int × Int))) (er : Int) (w : World) (e : Ending) (w' : World) : Prop :=
  (∃ A c, e = .returned (.tuple #[.slice A l.length c, .int .i64 er]) ∧ RSS w' w'.heap.size A l.length l ∧ (A = none → c = 0) ∧ l.length ≤ c) ∧ Below w.heap.size w w'
theorem ppost_self {A : Option Addr} {n c : Nat} {ls : List (List (Int × Int))} {er : Int} {w w' : World} (hr : RSS w w.heap.size A n ls) (hnil : A = none → c = 0) (hnc : n ≤ c) (hb : Below w.heap.size w w') : PPost ls er w (.returned (.tuple #[.slice A n c, .int .i64 er])) w' := by
  have := hr.len
  subst this
  exact ⟨⟨A, c, rfl, hr.next hb, hnil, hnc⟩, hb⟩
theorem ppost_own {t : TypeId} {l : List (List (Int × Int))} {er : Int} {w w' : World} {v : Value} (h : ON ES 1 t w v l w') : PPost l er w (.returned (.tuple #[v, .int .i64 er])) w' := by
  obtain ⟨A, c, rfl, h1, h2⟩ := h.form
  exact ⟨⟨A, c, rfl, h.reads es_steady (by omega) rfl, h1, h2⟩, h.below⟩

theorem PPost.trans {l : List (List (Int × Int))} {er : Int} {w w1 w' : World} {e : Ending} (hb : Below w.heap.size w w1) (h : PPost l er w1 e w') : PPost l er w e w' := ⟨h.1, hb.trans (h.2.mono hb.size)⟩
theorem own_at {α : Type} {E : Elem α} {C : Nat} {t : TypeId} {w wr : World} {v : Value} {xs : List α} (h : ON E C t w v xs wr) : ∀ g, v.ownBlock = some g → w.heap.size ≤ g ∧ g < wr.heap.size := by
  obtain ⟨fl, h1, _⟩ := h
  exact fun g hg => h1.lt g hg
theorem len_max {l p : List (Int × Int)} {m : Nat} (h1 : p.length = m) (hm : m ≤ maxLen) (h : l.length ≤ p.length ∨ l.length ≤ 1024) : l.length ≤ maxLen := by
  unfold maxLen at *
  omega
/-- what the reference's Take or Give of one kind leaves, beside an owned row: an element that may be appended to it -/
theorem es_of_new {w1 wr : World} {v : Value} {B : Nat} {l : List (Int × Int)} {A : Option Addr} {c : Nat}
    (hro : RSo w1 (fun b => b < w1.heap.size ∧ (b < B ∨ wr.heap.size ≤ b)) A l.length l) (hnil : A = none → c = 0) (hc : l.length ≤ c) (hm : l.length ≤ maxLen)
    (hv : ∀ g, v.ownBlock = some g → B ≤ g ∧ g < wr.heap.size) : ES w1 (fun b => b < w1.heap.size ∧ v.ownBlock ≠ some b) l [.slice A l.length c] :=
  ⟨A, _, c, rfl, hro.keep (fun _ _ => rfl) (fun b hb => ⟨hb.1, fun e => by have := hv b e; rcases hb.2 with h | h <;> omega⟩), hnil, hc, hm⟩

set_option maxRecDepth 100000 in
set_option maxHeartbeats 4000000 in
theorem refChangePP_take (A : Option Addr) (n c : Nat) (A2 : Option Addr) (n2 c2 : Nat) (ls : List (List (Int × Int))) (a b : Int) (ns : List Int) (w : World)
    (hr : RSS w w.heap.size A n ls) (hnil : A = none → c = 0) (hnc : n ≤ c) (hn : n ≤ maxLen) (hr2 : RI w w.heap.size A2 n2 ns) (hns : ∀ x ∈ ns, I64 x) (hn2 : n2 ≤ maxLen) :
    Calls Try.prog 12 #[.slice A n c, .int .i64 a, .int .i64 b, .slice A2 n2 c2, .bool false] w (PPost (changePP false ls a b ns).1 (changePP false ls a b ns).2 w) := by
  unfold maxLen at hn hn2
  have HR := Lib.hid hr
  have HN := Lib.hid hr2
  have HNIL := Lib.hid hnil
  have HNC := Lib.hid hnc
  have HK := Lib.hid hns
  clear hr hr2 hnil hnc hns
  obtain ⟨i0, hi0, hz0, hz1, hz2⟩ := info_parts slsl_info
  cases hrp : rightPP ls with
  | false =>
    have ht : changePP false ls a b ns = (ls, 1) := changePP_bad (.inl hrp)
    rw [ht]
    have HRP := Lib.hid hrp
    clear hrp ht
    go_enter Try.func12, Try.ntmps12
    go_wp2_with fail
    refine (refRightPP_any _ _ _ ls _ HR.out (by unfold maxLen; omega)).mono ?_
    rintro e w1 ⟨rfl, hb⟩
    rw [HRP.out]
    go_wp2
    go_ret2
    exact ppost_self HR.out HNIL.out HNC.out hb
  | true =>
    have HRP := Lib.hid hrp
    clear hrp
    by_cases hlen : n2 = n
    · subst hlen
      have hNs := Lib.hid (HR.out.len)
      go_enter Try.func12, Try.ntmps12
      go_wp2_with fail
      refine (refRightPP_any _ _ _ ls _ HR.out (by unfold maxLen; omega)).mono ?_
      rintro e w1 ⟨rfl, hb⟩
      rw [HRP.out]
      have HB1 := Lib.hid hb
      clear hb
      have HR1 := Lib.hid (HR.out.next HB1.out)
      have HN1 := Lib.hid (HN.out.next HB1.out)
      have hn4 : n2 ≤ 4 := by
        have := HRP.out
        unfold rightPP at this
        rw [decide_eq_true_eq] at this
        rw [← HR.out.len]; exact this.2.1
      go_wp2
      go_loopg [12, 13] n2 (fun g v i wr => ∃ k : Nat, k ≤ n2 ∧ g = n2 - k ∧ i = .int .i64 k ∧ ON ES 1 26 w1 v (headPP false ls a b ns k) wr ∧ (∀ j, j < k → (opR false (ls.getD j []) a b (ns.getD j 0)).2 = 0))
      case atStart => exact ⟨0, by omega, rfl, rfl, ON.nil _, fun j hj => absurd hj (by omega)⟩
      case round =>
        obtain ⟨k, hk, rfl, rfl, hON, hpre⟩ := hrel
        have HO := Lib.hid hON
        have HP := Lib.hid hpre
        clear hON hpre
        by_cases hlt : k < n2
        · have hRr := Lib.hid (HR1.out.below HO.out.below)
          obtain ⟨b0, off, A', m, c', rfl, hb0, hc, hr', hnil', hnc', hm⟩ := hRr.out.one hlt
          have HR' := Lib.hid hr'
          have HNIL' := Lib.hid hnil'
          clear hr' hnil'
          have hNr := Lib.hid (HN1.out.below HO.out.below)
          obtain ⟨b2, off2, rfl, hb2, hc2⟩ := hNr.out.one hlt
          have hI : I64 (ns.getD k 0) := by
            have hl : k < ns.length := by rw [HN.out.1]; exact hlt
            rw [List.getD, List.getElem?_eq_getElem hl]
            exact HK.out _ (List.getElem_mem hl)
          have HI := Lib.hid hI
          clear hI
          obtain ⟨x, hx⟩ : ∃ x, ns.getD k 0 = x := ⟨_, rfl⟩
          rw [hx] at HI hc2
          have HX := Lib.hid hx
          clear hx
          obtain ⟨p, hp⟩ : ∃ p, ls.getD k [] = p := ⟨_, rfl⟩
          rw [hp] at HR'
          have HPk := Lib.hid hp
          clear hp
          have hBr := HO.out.below.size
          have TK := Lib.hid (refTake_new (· < w1.heap.size) A' m c' p a b x wr.drew HR'.out.so (HR'.out.more hBr) HNIL'.out hnc' hm HI.out.1 HI.out.2)
          have HKEEP : Hid (∀ wx, Below wr.drew.heap.size wr.drew wx → wx.cell? ⟨b0, off + k, none⟩ = some (.slice A' m c') ∧ wx.cell? ⟨b2, off2 + k, none⟩ = some (.int .i64 x)) :=
            Lib.hid (fun wx hb => ⟨(hb.cell (p := ⟨b0, off + k, none⟩) (Nat.lt_of_lt_of_le hb0 hBr)).trans hc, (hb.cell (p := ⟨b2, off2 + k, none⟩) (Nat.lt_of_lt_of_le hb2 hBr)).trans hc2⟩)
          have HL := Lib.hid (takeR_len p a b x)
          obtain ⟨l, hl⟩ : ∃ l, (takeR p a b x).1 = l := ⟨_, rfl⟩
          obtain ⟨er, her⟩ : ∃ er, (takeR p a b x).2 = er := ⟨_, rfl⟩
          rw [hl, her] at TK
          rw [hl] at HL
          have HLe := Lib.hid hl
          have HEe := Lib.hid her
          clear hl her
          go_wp2
          go_region_held3 (fun w' => w'.cell? ⟨b0, off + k, none⟩ = some (.slice A' m c') ∧ w'.cell? ⟨b2, off2 + k, none⟩ = some (.int .i64 x))
            (first | go_keep | exact HKEEP.out _ HB3.out)
            (first | (go_at_call 31; refine (TK.out).mono ?_; rintro e w3 ⟨⟨A3, c3, rfl, hro3, hnil3, hc3⟩, hb3⟩; have HRO3 := Lib.hid hro3; have HNIL3 := Lib.hid hnil3; have HC3 := Lib.hid hc3; have HB3 := Lib.hid hb3; clear hro3 hnil3 hc3 hb3))
          have HO3 := Lib.hid ((HO.out.drew es_steady 1).next es_steady HB3.out)
          have hbd := own_at HO.out
          have HES := Lib.hid (es_of_new HRO3.out HNIL3.out HC3.out (len_max HR'.out.1 hm HL.out) hbd)
          clear hbd
          by_cases he : er = 0
          · subst he
            have hs1 : Hid (headPP false ls a b ns (k + 1) = headPP false ls a b ns k ++ [l]) := Lib.hid (by rw [headPP_succ]; show _ ++ [(takeR (ls.getD k []) a b (ns.getD k 0)).1] = _; rw [HPk.out, HX.out, HLe.out])
            have hp1 : Hid (∀ j, j < k + 1 → (opR false (ls.getD j []) a b (ns.getD j 0)).2 = 0) := Lib.hid (by
              intro j hj
              rcases Nat.lt_or_ge j k with h' | h'
              · exact HP.out j h'
              · obtain rfl : j = k := by omega
                show (takeR (ls.getD j []) a b (ns.getD j 0)).2 = 0
                rw [HPk.out, HX.out, HEe.out])
            have hlen2 : Hid ((headPP false ls a b ns k).length = k) := Lib.hid (headPP_len _ _ _ _ _ _)
            go_wp2_with (at_builtin; refine wpList_append_ON rfl (.tmp 66) (.tmp 68) 22 rfl es_steady HO3.out i0 (.slice none 0 0) 24 Try.underlying22 hi0 hz0 hz1 hz2 rfl (by decide) rfl l #[.slice A3 l.length c3] rfl rfl (by intro u hu; simp at hu; subst hu; rfl) HES.out (by rw [hlen2.out]; unfold maxLen; omega) (by rw [hlen2.out]; omega) ?_; intro v' w4 hON4; refine Hid.out ?_)
            refine Lib.hid ?_
            have HO4 := Lib.hid hON4
            clear hON4
            go_wp2
            go_roundg (n2 - (k + 1))
            case measure => omega
            case rel => exact ⟨k + 1, by omega, rfl, by go_num, by rw [hs1.out]; exact HO4.out, hp1.out⟩
          · have hne : (er != 0) = true := by simpa using he
            have HC := Lib.hid (changePP_err (give := false) (a := a) (b := b) HRP.out (by rw [HN.out.1, HR.out.len]) (by rw [HR.out.len]; exact hlt) HP.out (by show (takeR (ls.getD k []) a b (ns.getD k 0)).2 ≠ 0; rw [HPk.out, HX.out, HEe.out]; exact he))
            have HCe : Hid (changePP false ls a b ns = (ls, er)) := Lib.hid (by rw [HC.out]; show (ls, (takeR (ls.getD k []) a b (ns.getD k 0)).2) = _; rw [HPk.out, HX.out, HEe.out])
            clear HC
            have HBB := Lib.hid (HB1.out.trans (HO3.out.below.mono HB1.out.size))
            go_wp2
            go_ret2
            rw [HCe.out]
            exact ppost_self HR.out HNIL.out HNC.out HBB.out
        · have hkn : k = n2 := by omega
          subst hkn
          have HC := Lib.hid (changePP_ok (give := false) (a := a) (b := b) HRP.out (by rw [HN.out.1, HR.out.len]) (by rw [HR.out.len]; exact HP.out))
          rw [HR.out.len] at HC
          go_wp2
          go_ret2
          rw [HC.out]
          exact (ppost_own HO.out).trans HB1.out
    · have ht : changePP false ls a b ns = (ls, 1) := changePP_bad (.inr (by rw [HN.out.1, HR.out.len]; exact hlen))
      rw [ht]
      clear ht
      have hne : ((n2 : Int) != (n : Int)) = true := by simp; omega
      go_enter Try.func12, Try.ntmps12
      go_wp2_with fail
      refine (refRightPP_any _ _ _ ls _ HR.out (by unfold maxLen; omega)).mono ?_
      rintro e w1 ⟨rfl, hb⟩
      rw [HRP.out]
      go_wp2
      go_ret2
      exact ppost_self HR.out HNIL.out HNC.out hb

set_option maxRecDepth 100000 in
set_option maxHeartbeats 4000000 in
theorem refChangePP_give (A : Option Addr) (n c : Nat) (A2 : Option Addr) (n2 c2 : Nat) (ls : List (List (Int × Int))) (a b : Int) (ns : List Int) (w : World)
    (hr : RSS w w.heap.size A n ls) (hnil : A = none → c = 0) (hnc : n ≤ c) (hn : n ≤ maxLen) (hr2 : RI w w.heap.size A2 n2 ns) (hns : ∀ x ∈ ns, I64 x) (hn2 : n2 ≤ maxLen) :
    Calls Try.prog 12 #[.slice A n c, .int .i64 a, .int .i64 b, .slice A2 n2 c2, .bool true] w (PPost (changePP true ls a b ns).1 (changePP true ls a b ns).2 w) := by
  unfold maxLen at hn hn2
  have HR := Lib.hid hr
  have HN := Lib.hid hr2
  have HNIL := Lib.hid hnil
  have HNC := Lib.hid hnc
  have HK := Lib.hid hns
  clear hr hr2 hnil hnc hns
  obtain ⟨i0, hi0, hz0, hz1, hz2⟩ := info_parts slsl_info
  cases hrp : rightPP ls with
  | false =>
    have ht : changePP true ls a b ns = (ls, 1) := changePP_bad (.inl hrp)
    rw [ht]
    have HRP := Lib.hid hrp
    clear hrp ht
    go_enter Try.func12, Try.ntmps12
    go_wp2_with fail
    refine (refRightPP_any _ _ _ ls _ HR.out (by unfold maxLen; omega)).mono ?_
    rintro e w1 ⟨rfl, hb⟩
    rw [HRP.out]
    go_wp2
    go_ret2
    exact ppost_self HR.out HNIL.out HNC.out hb
  | true =>
    have HRP := Lib.hid hrp
    clear hrp
    by_cases hlen : n2 = n
    · subst hlen
      have hNs := Lib.hid (HR.out.len)
      go_enter Try.func12, Try.ntmps12
      go_wp2_with fail
      refine (refRightPP_any _ _ _ ls _ HR.out (by unfold maxLen; omega)).mono ?_
      rintro e w1 ⟨rfl, hb⟩
      rw [HRP.out]
      have HB1 := Lib.hid hb
      clear hb
      have HR1 := Lib.hid (HR.out.next HB1.out)
      have HN1 := Lib.hid (HN.out.next HB1.out)
      have hn4 : n2 ≤ 4 := by
        have := HRP.out
        unfold rightPP at this
        rw [decide_eq_true_eq] at this
        rw [← HR.out.len]; exact this.2.1
      go_wp2
      go_loopg [12, 13] n2 (fun g v i wr => ∃ k : Nat, k ≤ n2 ∧ g = n2 - k ∧ i = .int .i64 k ∧ ON ES 1 26 w1 v (headPP true ls a b ns k) wr ∧ (∀ j, j < k → (opR true (ls.getD j []) a b (ns.getD j 0)).2 = 0))
      case atStart => exact ⟨0, by omega, rfl, rfl, ON.nil _, fun j hj => absurd hj (by omega)⟩
      case round =>
        obtain ⟨k, hk, rfl, rfl, hON, hpre⟩ := hrel
        have HO := Lib.hid hON
        have HP := Lib.hid hpre
        clear hON hpre
        by_cases hlt : k < n2
        · have hRr := Lib.hid (HR1.out.below HO.out.below)
          obtain ⟨b0, off, A', m, c', rfl, hb0, hc, hr', hnil', hnc', hm⟩ := hRr.out.one hlt
          have HR' := Lib.hid hr'
          have HNIL' := Lib.hid hnil'
          clear hr' hnil'
          have hNr := Lib.hid (HN1.out.below HO.out.below)
          obtain ⟨b2, off2, rfl, hb2, hc2⟩ := hNr.out.one hlt
          have hI : I64 (ns.getD k 0) := by
            have hl : k < ns.length := by rw [HN.out.1]; exact hlt
            rw [List.getD, List.getElem?_eq_getElem hl]
            exact HK.out _ (List.getElem_mem hl)
          have HI := Lib.hid hI
          clear hI
          obtain ⟨x, hx⟩ : ∃ x, ns.getD k 0 = x := ⟨_, rfl⟩
          rw [hx] at HI hc2
          have HX := Lib.hid hx
          clear hx
          obtain ⟨p, hp⟩ : ∃ p, ls.getD k [] = p := ⟨_, rfl⟩
          rw [hp] at HR'
          have HPk := Lib.hid hp
          clear hp
          have hBr := HO.out.below.size
          have TK := Lib.hid (refTake_new (· < w1.heap.size) A' m c' p a b x wr.drew HR'.out.so (HR'.out.more hBr) HNIL'.out hnc' hm HI.out.1 HI.out.2)
          have HKEEP : Hid (∀ wx, Below wr.drew.heap.size wr.drew wx → wx.cell? ⟨b0, off + k, none⟩ = some (.slice A' m c') ∧ wx.cell? ⟨b2, off2 + k, none⟩ = some (.int .i64 x)) :=
            Lib.hid (fun wx hb => ⟨(hb.cell (p := ⟨b0, off + k, none⟩) (Nat.lt_of_lt_of_le hb0 hBr)).trans hc, (hb.cell (p := ⟨b2, off2 + k, none⟩) (Nat.lt_of_lt_of_le hb2 hBr)).trans hc2⟩)
          obtain ⟨l0, hl0⟩ : ∃ l, (takeR p a b x).1 = l := ⟨_, rfl⟩
          obtain ⟨er0, her0⟩ : ∃ er, (takeR p a b x).2 = er := ⟨_, rfl⟩
          rw [hl0, her0] at TK
          clear hl0 her0
          go_wp2
          go_region_held3 (fun w' => w'.cell? ⟨b0, off + k, none⟩ = some (.slice A' m c') ∧ w'.cell? ⟨b2, off2 + k, none⟩ = some (.int .i64 x))
            (first | go_keep | exact HKEEP.out _ HB3.out)
            (first | (go_at_call 31; refine (TK.out).mono ?_; rintro e w3 ⟨⟨A3, c3, rfl, hro3, hnil3, hc3⟩, hb3⟩; have HB3 := Lib.hid hb3; clear hro3 hnil3 hc3 hb3))
          have HO3 := Lib.hid ((HO.out.drew es_steady 1).next es_steady HB3.out)
          have hk3 := HKEEP.out _ HB3.out
          have hcx := hk3.1
          have hcy := hk3.2
          clear hk3 hc hc2
          have hBr3 := HO3.out.below.size
          have HR3 := Lib.hid ((show RS wr.drew w1.heap.size A' m p from HR'.out).below (HB3.out.mono hBr))
          have GK := Lib.hid (refGive_new (· < w1.heap.size) A' m c' p a b x w3.drew HR3.out.so (HR3.out.more hBr3) HNIL'.out hnc' hm HI.out.1 HI.out.2)
          have HKEEP3 : Hid (∀ wx, Below w3.drew.heap.size w3.drew wx → wx.cell? ⟨b0, off + k, none⟩ = some (.slice A' m c') ∧ wx.cell? ⟨b2, off2 + k, none⟩ = some (.int .i64 x)) :=
            Lib.hid (fun wx hb => ⟨(hb.cell (p := ⟨b0, off + k, none⟩) (Nat.lt_of_lt_of_le hb0 hBr3)).trans hcx, (hb.cell (p := ⟨b2, off2 + k, none⟩) (Nat.lt_of_lt_of_le hb2 hBr3)).trans hcy⟩)
          have HL := Lib.hid (giveR_len p a b x)
          obtain ⟨l, hl⟩ : ∃ l, (giveR p a b x).1 = l := ⟨_, rfl⟩
          obtain ⟨er, her⟩ : ∃ er, (giveR p a b x).2 = er := ⟨_, rfl⟩
          rw [hl, her] at GK
          rw [hl] at HL
          have HLe := Lib.hid hl
          have HEe := Lib.hid her
          clear hl her
          go_wp2
          go_region_held3 (fun w' => w'.cell? ⟨b0, off + k, none⟩ = some (.slice A' m c') ∧ w'.cell? ⟨b2, off2 + k, none⟩ = some (.int .i64 x))
            (first | go_keep | exact HKEEP3.out _ HB5.out)
            (first | (go_at_call 32; refine (GK.out).mono ?_; rintro e w5 ⟨⟨A5, c5, rfl, hro5, hnil5, hc5⟩, hb5⟩; have HRO5 := Lib.hid hro5; have HNIL5 := Lib.hid hnil5; have HC5 := Lib.hid hc5; have HB5 := Lib.hid hb5; clear hro5 hnil5 hc5 hb5))
          have HO5 := Lib.hid ((HO3.out.drew es_steady 1).next es_steady HB5.out)
          have hbd := own_at HO3.out
          have HES := Lib.hid (es_of_new HRO5.out HNIL5.out HC5.out (len_max HR'.out.1 hm HL.out) hbd)
          clear hbd
          by_cases he : er = 0
          · subst he
            have hs1 : Hid (headPP true ls a b ns (k + 1) = headPP true ls a b ns k ++ [l]) := Lib.hid (by rw [headPP_succ]; show _ ++ [(giveR (ls.getD k []) a b (ns.getD k 0)).1] = _; rw [HPk.out, HX.out, HLe.out])
            have hp1 : Hid (∀ j, j < k + 1 → (opR true (ls.getD j []) a b (ns.getD j 0)).2 = 0) := Lib.hid (by
              intro j hj
              rcases Nat.lt_or_ge j k with h' | h'
              · exact HP.out j h'
              · obtain rfl : j = k := by omega
                show (giveR (ls.getD j []) a b (ns.getD j 0)).2 = 0
                rw [HPk.out, HX.out, HEe.out])
            have hlen2 : Hid ((headPP true ls a b ns k).length = k) := Lib.hid (headPP_len _ _ _ _ _ _)
            go_wp2_with (at_builtin; refine wpList_append_ON rfl (.tmp 66) (.tmp 68) 22 rfl es_steady HO5.out i0 (.slice none 0 0) 24 Try.underlying22 hi0 hz0 hz1 hz2 rfl (by decide) rfl l #[.slice A5 l.length c5] rfl rfl (by intro u hu; simp at hu; subst hu; rfl) HES.out (by rw [hlen2.out]; unfold maxLen; omega) (by rw [hlen2.out]; omega) ?_; intro v' w4 hON4; refine Hid.out ?_)
            refine Lib.hid ?_
            have HO4 := Lib.hid hON4
            clear hON4
            go_wp2
            go_roundg (n2 - (k + 1))
            case measure => omega
            case rel => exact ⟨k + 1, by omega, rfl, by go_num, by rw [hs1.out]; exact HO4.out, hp1.out⟩
          · have hne : (er != 0) = true := by simpa using he
            have HC := Lib.hid (changePP_err (give := true) (a := a) (b := b) HRP.out (by rw [HN.out.1, HR.out.len]) (by rw [HR.out.len]; exact hlt) HP.out (by show (giveR (ls.getD k []) a b (ns.getD k 0)).2 ≠ 0; rw [HPk.out, HX.out, HEe.out]; exact he))
            have HCe : Hid (changePP true ls a b ns = (ls, er)) := Lib.hid (by rw [HC.out]; show (ls, (giveR (ls.getD k []) a b (ns.getD k 0)).2) = _; rw [HPk.out, HX.out, HEe.out])
            clear HC
            have HBB := Lib.hid (HB1.out.trans (HO5.out.below.mono HB1.out.size))
            go_wp2
            go_ret2
            rw [HCe.out]
            exact ppost_self HR.out HNIL.out HNC.out HBB.out
        · have hkn : k = n2 := by omega
          subst hkn
          have HC := Lib.hid (changePP_ok (give := true) (a := a) (b := b) HRP.out (by rw [HN.out.1, HR.out.len]) (by rw [HR.out.len]; exact HP.out))
          rw [HR.out.len] at HC
          go_wp2
          go_ret2
          rw [HC.out]
          exact (ppost_own HO.out).trans HB1.out
    · have ht : changePP true ls a b ns = (ls, 1) := changePP_bad (.inr (by rw [HN.out.1, HR.out.len]; exact hlen))
      rw [ht]
      clear ht
      have hne : ((n2 : Int) != (n : Int)) = true := by simp; omega
      go_enter Try.func12, Try.ntmps12
      go_wp2_with fail
      refine (refRightPP_any _ _ _ ls _ HR.out (by unfold maxLen; omega)).mono ?_
      rintro e w1 ⟨rfl, hb⟩
      rw [HRP.out]
      go_wp2
      go_ret2
      exact ppost_self HR.out HNIL.out HNC.out hb

end Go.Proofs.Ytkhnlbkghjjdnaa
