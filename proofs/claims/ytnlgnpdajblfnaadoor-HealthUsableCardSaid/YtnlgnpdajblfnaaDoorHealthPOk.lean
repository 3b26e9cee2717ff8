/- What the program's functions of layer 6 (health) answer: New, Set, and the list of contracts that the statements' walks lean on, held. -/
import Derived.Test.YtnlgnpdajblfnaaDoorHealthPWorst
import Derived.Laws.OwnMore
namespace Go.Proofs.YtnlgnpdajblfnaaDoor
open Go.RowKit

set_option maxRecDepth 100000 in
set_option maxHeartbeats 2000000 in
theorem healthNew_any (A : Option Addr) (n c : Nat) (g : Gr) (w : World) (hq : GAsk w A n c g) :
    Calls Tryd.prog 17 #[.slice A n c] w (IPost (newL g) w) := by
  obtain ⟨i0, hi0, hz0, hz1, hz2⟩ := info_parts int_info
  have HR := Lib.hid hq.reads
  have HL := Lib.hid hq.reads.len
  have HN := Lib.hid (ml300 hq.few)
  have hn := hq.few
  clear hq
  cases hg : rightG g with
  | false =>
    have e0 : newL g = [] := by unfold newL; rw [hg]; rfl
    rw [e0]
    have HG := Lib.hid hg
    clear hg e0
    go_enter Tryd.func17, Tryd.ntmps17
    go_wp2_with fail
    refine (graphRight_b HR.out HN.out HG.out).mono ?_
    rintro e w1 ⟨rfl, hb⟩
    have HB := Lib.hid hb
    clear hb
    go_wp2
    go_ret
    exact ipost_nil HB.out
  | true =>
    have e0 : newL g = List.replicate n 0 := by unfold newL; rw [if_pos hg, HL.out]
    have e1 : Hid ((madeCells (Value.int .i64 0).cells (n * 1)).toList = (List.replicate n (0 : Int)).map (Value.int .i64)) := Lib.hid (by
      rw [Nat.mul_one, show (Value.int .i64 0).cells = #[.int .i64 0] from rfl, toList_madeCells_one, List.map_replicate])
    rw [e0]
    have HG := Lib.hid hg
    clear hg e0
    go_enter Tryd.func17, Tryd.ntmps17
    go_wp2_with fail
    refine (graphRight_b HR.out HN.out HG.out).mono ?_
    rintro e w1 ⟨rfl, hb⟩
    have HB := Lib.hid hb
    clear hb
    go_wp2_with (at_make; refine wpList_make_full _ rfl _ _ 23 rfl w1.heap.size 3 i0 (.int .i64 0) 1 Tryd.underlying23 hi0 hz0 hz1 .i64 .i64 _ _ n rfl rfl rfl rfl (by rw [hz2]; omega) (by unfold maxLen; omega) (Nat.le_refl _) ?_; intro w2 hown hgrow; refine Hid.out ?_)
    refine Lib.hid ?_
    have HX : Hid (IPost (List.replicate n (0 : Int)) w1 (.returned (.slice (some ⟨w1.heap.size, 0, none⟩) n n)) w2) := Lib.hid (ipost_own (by rw [e1.out] at hown; rw [List.length_replicate]; exact hown) ((Below.refl _ _).grown hgrow (Nat.le_refl _) (fun k hk => by cases hk)))
    clear hown hgrow
    go_wp2
    go_ret
    exact HX.out.trans HB.out

theorem setLP_arg {g : Gr} {h : List Int} {a how : Int} (hx : rightH g h = false ∨ knownB how = false) : setL g h a how = (h, 1) := by
  unfold setL
  rw [if_pos]
  rintro ⟨h1, h2⟩
  rcases hx with hx | hx
  · rw [h1] at hx; cases hx
  · exact of_decide_eq_false hx h2
theorem setLP_none {g : Gr} {h : List Int} {a how : Int} (h1 : rightH g h = true) (h2 : knownB how = true) (h3 : isThing g a = false) : setL g h a how = (h, 6) := by
  unfold setL
  have hl := (rightH_is h1).2.1
  have h3' := of_decide_eq_false h3
  rw [if_neg (fun hn => hn ⟨h1, of_decide_eq_true h2⟩), if_pos (by omega)]
theorem setLP_ok {g : Gr} {h : List Int} {k : Nat} {how : Int} (h1 : rightH g h = true) (h2 : knownB how = true) (h3 : k < g.length) : setL g h (k : Int) how = (h.set k how, 0) := by
  unfold setL
  have hl := (rightH_is h1).2.1
  rw [if_neg (fun hn => hn ⟨h1, of_decide_eq_true h2⟩), if_neg (by omega), Int.toNat_natCast]
theorem on_iepost {t : TypeId} {l : List Int} {er : Int} {w w' : World} {A : Option Addr} {n c : Nat} (h : ON EI 1 t w (.slice A n c) l w') : IEPost l er w (.returned (.tuple #[.slice A n c, .int .i64 er])) w' := by
  obtain ⟨A', c', e, h1, h2⟩ := h.form
  injection e with e1 e2 e3
  subst e1 e2 e3
  exact iepost_mk (h.reads ei_steady (by omega) rfl).ri h1 h2 h.below

set_option maxRecDepth 100000 in
set_option maxHeartbeats 4000000 in
theorem healthSet_any (A : Option Addr) (n c : Nat) (A2 : Option Addr) (n2 c2 : Nat) (g : Gr) (h : List Int) (a how : Int) (w : World) (hq : GAsk w A n c g) (hq2 : LAsk w A2 n2 c2 h) :
    Calls Tryd.prog 14 #[.slice A n c, .slice A2 n2 c2, .int .i64 a, .int .i64 how] w (IEPost (setL g h a how).1 (setL g h a how).2 w) := by
  have HR := Lib.hid hq.reads
  have HI := Lib.hid hq2.reads
  have HNIL := Lib.hid hq2.nil
  have HL := Lib.hid hq.reads.len
  have HN := Lib.hid (ml300 hq.few)
  have HN2 := Lib.hid (ml300 hq2.few)
  have hn2 := hq2.few
  clear hq hq2
  have clo : Hid (Calls Tryd.prog 30 #[.slice A2 n2 c2] w fun e w' => ∃ A3 c3, e = .returned (.slice A3 n2 c3) ∧ ON EI 1 3 w (.slice A3 n2 c3) h w') := Lib.hid ((clone_any _ _ _ _ _ HI.out HNIL.out (by omega)).mono (by
    rintro e w' ⟨v, rfl, ho⟩
    obtain ⟨A3, c3, rfl, _, _⟩ := ho.form
    rw [HI.out.1] at ho ⊢
    exact ⟨A3, c3, rfl, ho⟩))
  cases hok : rightH g h with
  | false =>
    have HO := Lib.hid hok
    rw [setLP_arg (.inl hok)]
    clear hok
    go_enter Tryd.func14, Tryd.ntmps14
    go_wp2_with fail
    refine clo.out.mono ?_
    rintro e w1 ⟨A3, c3, rfl, ho⟩
    have HON := Lib.hid ho
    have HR1 := Lib.hid (HR.out.next ho.below)
    have HI1 := Lib.hid (HI.out.next ho.below)
    clear ho
    go_wp2_with fail
    refine (rightH_b HR1.out HN.out HI1.out HN2.out HO.out).mono ?_
    rintro e w2 ⟨rfl, hb⟩
    have HON2 := Lib.hid (HON.out.next ei_steady hb)
    clear hb
    go_wp2
    go_ret2
    exact on_iepost HON2.out
  | true =>
    have HO := Lib.hid hok
    cases hkn : knownB how with
    | false =>
      have HK := Lib.hid hkn
      rw [setLP_arg (.inr hkn)]
      clear hok hkn
      go_enter Tryd.func14, Tryd.ntmps14
      go_wp2_with fail
      refine clo.out.mono ?_
      rintro e w1 ⟨A3, c3, rfl, ho⟩
      have HON := Lib.hid ho
      have HR1 := Lib.hid (HR.out.next ho.below)
      have HI1 := Lib.hid (HI.out.next ho.below)
      clear ho
      go_wp2_with fail
      refine (rightH_b HR1.out HN.out HI1.out HN2.out HO.out).mono ?_
      rintro e w2 ⟨rfl, hb⟩
      have HON2 := Lib.hid (HON.out.next ei_steady hb)
      clear hb
      go_wp2_with fail
      refine (known_b HK.out).mono ?_
      rintro e w3 ⟨rfl, rfl⟩
      go_wp2
      go_ret2
      exact on_iepost HON2.out
    | true =>
      have HK := Lib.hid hkn
      cases ht : isThing g a with
      | false =>
        have HT := Lib.hid ht
        rw [setLP_none hok hkn ht]
        clear hok hkn ht
        go_enter Tryd.func14, Tryd.ntmps14
        go_wp2_with fail
        refine clo.out.mono ?_
        rintro e w1 ⟨A3, c3, rfl, ho⟩
        have HON := Lib.hid ho
        have HR1 := Lib.hid (HR.out.next ho.below)
        have HI1 := Lib.hid (HI.out.next ho.below)
        clear ho
        go_wp2_with fail
        refine (rightH_b HR1.out HN.out HI1.out HN2.out HO.out).mono ?_
        rintro e w2 ⟨rfl, hb⟩
        have HON2 := Lib.hid (HON.out.next ei_steady hb)
        clear hb
        go_wp2_with fail
        refine (known_b HK.out).mono ?_
        rintro e w3 ⟨rfl, rfl⟩
        go_wp2_with fail
        refine (thing_b HL.out HT.out).mono ?_
        rintro e w3 ⟨rfl, rfl⟩
        go_wp2
        go_ret2
        exact on_iepost HON2.out
      | true =>
        have hta := of_decide_eq_true ht
        obtain ⟨k, rfl⟩ : ∃ k : Nat, a = (k : Int) := ⟨a.toNat, by omega⟩
        have hkl : k < g.length := by omega
        have hhl : h.length = n2 := HI.out.1
        have hkn2 : k < n2 := by have := (rightH_is hok).2.1; omega
        have HT := Lib.hid ht
        rw [setLP_ok hok hkn hkl]
        clear hok hkn ht hta
        go_enter Tryd.func14, Tryd.ntmps14
        go_wp2_with fail
        refine clo.out.mono ?_
        rintro e w1 ⟨A3, c3, rfl, ho⟩
        have HON := Lib.hid ho
        have HR1 := Lib.hid (HR.out.next ho.below)
        have HI1 := Lib.hid (HI.out.next ho.below)
        clear ho
        go_wp2_with fail
        refine (rightH_b HR1.out HN.out HI1.out HN2.out HO.out).mono ?_
        rintro e w2 ⟨rfl, hb⟩
        obtain ⟨b, cc, e1, hcc, ho, hbw⟩ := own_pos (HON.out.next ei_steady hb) (by omega)
        rw [hhl] at e1 ho
        injection e1 with e1 _ e3
        subst e1 e3
        have HRow : Hid (Row1 w b n2 c3 h w2) := Lib.hid ⟨ho, hbw⟩
        clear ho hbw hb hcc hhl
        go_wp2_with fail
        refine (known_b HK.out).mono ?_
        rintro e w3 ⟨rfl, rfl⟩
        go_wp2_with fail
        refine (thing_b HL.out HT.out).mono ?_
        rintro e w3 ⟨rfl, rfl⟩
        have hck := HRow.out.at (k := k) (List.getElem?_eq_getElem (by rw [HI.out.1]; exact hkn2))
        have hfz := HRow.out.own.frozenAt k
        have HS := Lib.hid (HRow.out.set k how)
        generalize h[k]'(by rw [HI.out.1]; exact hkn2) = x at hck
        go_wp2
        clear hck hfz
        go_ret2
        have hh := HS.out.len
        have hp := HS.out.own
        obtain ⟨A5, c5, e5, h5, h6⟩ := (own_on (by rw [hh]; exact hp) HS.out.bel).form
        exact on_iepost (own_on (by rw [hh]; exact hp) HS.out.bel)

theorem healthOk_is : HealthOk where
  right := fun A n c A2 n2 c2 g h w hq hq2 _ => rightH_any A n c A2 n2 c2 g h w hq.reads (ml300 hq.few) hq2.reads hq2.few
  new := fun A n c g w hq _ => healthNew_any A n c g w hq
  set := fun A n c A2 n2 c2 g h a how w hq hq2 _ _ _ => healthSet_any A n c A2 n2 c2 g h a how w hq hq2
  worst := fun A n c A2 n2 c2 g h a w hq hq2 _ _ => Worst_any A n c A2 n2 c2 g h a w hq hq2
  usable := fun A n c A2 n2 c2 g h w hq hq2 _ => usable_any A n c A2 n2 c2 g h w hq hq2
  works := fun A n c A2 n2 c2 g h w hq hq2 _ => works_any A n c A2 n2 c2 g h w hq hq2

end Go.Proofs.YtnlgnpdajblfnaaDoor
