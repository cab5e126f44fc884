/- Package queue: requests go. -/
import Derived.Test.YtbifnmlhbepadaaQuPut
namespace Go.Proofs.Ytbifnmlhbepadaa
open Go Go.RowKit
set_option linter.unusedVariables false
set_option linter.unusedSimpArgs false
set_option maxRecDepth 10000

structure RmS (w wr : World) (rs : List Rq) (p : Rq → Bool) (i : Nat) (ak : Option Addr) (ck : Nat) (ks : List Rq) (ag : Option Addr) (cg : Nat) (gs : List Rq) : Prop where
  ok : Own wr w.heap.size 27 5 ak ks.length ck (rqC ks)
  og : Own wr w.heap.size 27 5 ag gs.length cg (rqC gs)
  ne : ∀ k, ak = some ⟨k, 0, none⟩ → ag ≠ some ⟨k, 0, none⟩
  bel : Below w.heap.size w wr
  ks : ks = (rs.take i).filter fun x => !p x
  gs : gs = (rs.take i).filter p
theorem own_lt {w : World} {B size n cap k : Nat} {E : TypeId} {a : Option Addr} {xs : List Value} (h : Own w B E size a n cap xs) (hk : a = some ⟨k, 0, none⟩) : k < w.heap.size ∧ B ≤ k := by
  subst hk
  exact ⟨h.lt.2, h.lt.1⟩
theorem RmS.gone {w wr : World} {rs : List Rq} {p : Rq → Bool} {i : Nat} {ak : Option Addr} {ck : Nat} {ks : List Rq} {ag : Option Addr} {cg : Nat} {gs : List Rq} {x : Rq} (h : RmS w wr rs p i ak ck ks ag cg gs) (hx : rs[i]? = some x) (hp : p x = true)
    {w2 w3 : World} (hb : Below wr.heap.size wr w2) {g c2 : Nat} (q1 : Own w3 w.heap.size 27 5 (some ⟨g, 0, none⟩) (gs.length + 1) c2 (rqC (gs ++ [x]))) (q2 : w2.grownBy w3 (ag.map (·.block))) (q3 : Below w.heap.size w2 w3) (q4 : ag.map (·.block) = some g ∨ g = w2.heap.size + 1) :
    RmS w w3 rs p (i + 1) ak ck ks (some ⟨g, 0, none⟩) c2 (gs ++ [x]) := by
  have o2 := h.ok.later hb
  have e := List.take_add_one (l := rs) (i := i)
  rw [hx] at e
  refine ⟨o2.blocks fun k hk => q2.block k (own_lt o2 hk).1 (fun e => h.ne k hk (own_block5 h.og e.symm)), by rw [List.length_append]; exact q1, fun k hk hg => ?_, (h.bel.trans (hb.mono h.bel.size)).trans q3, ?_, ?_⟩
  · injection hg with hg
    injection hg with hg
    subst hg
    rcases q4 with q4 | q4
    · exact h.ne g hk (own_block5 h.og q4)
    · have := (own_lt o2 hk).1
      omega
  · rw [e, List.filter_append, ← h.ks]
    simp [hp]
  · rw [e, List.filter_append, ← h.gs]
    simp [hp]
theorem RmS.kept {w wr : World} {rs : List Rq} {p : Rq → Bool} {i : Nat} {ak : Option Addr} {ck : Nat} {ks : List Rq} {ag : Option Addr} {cg : Nat} {gs : List Rq} {x : Rq} (h : RmS w wr rs p i ak ck ks ag cg gs) (hx : rs[i]? = some x) (hp : p x = false)
    {w2 w3 : World} (hb : Below wr.heap.size wr w2) {g c2 : Nat} (q1 : Own w3 w.heap.size 27 5 (some ⟨g, 0, none⟩) (ks.length + 1) c2 (rqC (ks ++ [x]))) (q2 : w2.grownBy w3 (ak.map (·.block))) (q3 : Below w.heap.size w2 w3) (q4 : ak.map (·.block) = some g ∨ g = w2.heap.size + 1) :
    RmS w w3 rs p (i + 1) (some ⟨g, 0, none⟩) c2 (ks ++ [x]) ag cg gs := by
  have o2 := h.og.later hb
  have e := List.take_add_one (l := rs) (i := i)
  rw [hx] at e
  refine ⟨by rw [List.length_append]; exact q1, o2.blocks fun k hk => q2.block k (own_lt o2 hk).1 (fun e => h.ne k (own_block5 h.ok e.symm) hk), fun k hk hg => ?_, (h.bel.trans (hb.mono h.bel.size)).trans q3, ?_, ?_⟩
  · injection hk with hk
    injection hk with hk
    subst hk
    rcases q4 with q4 | q4
    · exact h.ne g (own_block5 h.ok q4) hg
    · have := (own_lt o2 hg).1
      omega
  · rw [e, List.filter_append, ← h.ks]
    simp [hp]
  · rw [e, List.filter_append, ← h.gs]
    simp [hp]
/-- What remove gives. -/
def RemP (B q : Nat) (a : Option Addr) (rs : List Rq) (p : Rq → Bool) (most : Int) (w : World) (e : Ending) (w' : World) : Prop :=
  ∃ a' cap' ag cg, e = .returned (.slice ag (rs.filter p).length cg) ∧ Qm w' B q a' cap' (rs.filter fun x => !p x) most ∧ TurnQ q a w a' w' ∧ Own w' w.heap.size 27 5 ag (rs.filter p).length cg (rqC (rs.filter p)) ∧ ∀ k, a' = some ⟨k, 0, none⟩ → ag ≠ some ⟨k, 0, none⟩
set_option maxHeartbeats 4000000 in
theorem remove_at {w : World} {B q cap : Nat} {a : Option Addr} {rs : List Rq} {most : Int} (h : Qm w B q a cap rs most) (n : Nat) (hn : rs.length = n) (hn2 : n ≤ 999999) (hB : B ≤ w.heap.size) (g : Nat) (lb : Array Value) (p : Rq → Bool)
    (eg : ∀ args w, (callFunc g args).run Try.prog w = .ok (.enter g args) w) (hm : MeantQ w g lb p) :
    Calls Try.prog 33 #[.pointer (some ⟨q, 0, none⟩), .func (.func g) #[] lb] w (RemP B q a rs p most w) := by
  have QM := Lib.hid h
  have HM := Lib.hid hm
  have HN := Lib.hid hn
  have RD := Lib.hid h.own.rdQ
  have c0 := h.box.cell 0
  rw [hn] at c0
  have lq := h.box.lt
  clear h hm hn
  go_enter Try.func33, Try.ntmps33
  go_wp2_with fail
  clear c0
  go_loopw [5, 6, 8, 14] (fun vk vg _ vi wr => ∃ (i : Nat) (ak : Option Addr) (ck : Nat) (ks : List Rq) (ag : Option Addr) (cg : Nat) (gs : List Rq), i ≤ n ∧ vk = .slice ak ks.length ck ∧ vg = .slice ag gs.length cg ∧ vi = .int .i64 (i : Int) ∧ ks.length ≤ i ∧ gs.length ≤ i ∧ w.heap.size ≤ wr.heap.size ∧ Hid (RmS w wr rs p i ak ck ks ag cg gs)) (fun _ _ _ vi _ => n - (intOf vi).toNat)
  case atStart => exact ⟨0, none, 0, [], none, 0, [], by omega, rfl, rfl, rfl, by simp, by simp, Nat.le_refl _, Lib.hid ⟨Own.nil _ _ _ _, Own.nil _ _ _ _, (fun k hk => by cases hk), Below.refl _ _, rfl, rfl⟩⟩
  case round =>
    obtain ⟨i, ak, ck, ks, ag, cg, gs, hi, rfl, rfl, rfl, lk, lg, szw, HS⟩ := hrel
    by_cases hlt : i < n
    · have hkd : decide ((i : Int) < (n : Int)) = true := decide_eq_true (by omega)
      obtain ⟨x, hx⟩ : ∃ x, rs[i]? = some x := ⟨_, List.getElem?_eq_getElem (by rw [HN.out]; exact hlt)⟩
      obtain ⟨gq, hga, cl⟩ := (RD.out.later HS.out.bel) i x hx
      subst hga
      have m0 := cl.c0
      have m1 := cl.c1
      have m2 := cl.c2
      have m3 := cl.c3
      have m4 := cl.c4
      have HX := Lib.hid hx
      have hx0 : (0 : Int) ≤ (i : Int) := by omega
      have hx1 : (i : Int) < (n : Int) := by omega
      obtain ⟨wo, rfl⟩ : ∃ W, W = wr := ⟨_, rfl⟩
      have BX := Lib.hid (Box.new wo (rqA x) 27)
      have WX := Lib.hid ((Below.refl wo.heap.size wo).alloc (Nat.le_refl _) (.cells (rqA x) 27))
      have MX := Lib.hid (fun W (hW : Below w.heap.size w W) => HM.out x W hW)
      obtain ⟨b, hb⟩ : ∃ b, p x = b := ⟨_, rfl⟩
      rw [hb] at MX
      have HB := Lib.hid hb
      have HZG : Hid (rqC gs ++ (rqA x).toList = rqC (gs ++ [x])) := Lib.hid (by rw [rqC_app, rqC_cons, rqC_nil, List.append_nil]; rfl)
      have HZK : Hid (rqC ks ++ (rqA x).toList = rqC (ks ++ [x])) := Lib.hid (by rw [rqC_app, rqC_cons, rqC_nil, List.append_nil]; rfl)
      have H1 := Lib.hid (rqA_one x)
      have HA5 : Hid ((rqA x).size = 5) := Lib.hid rfl
      obtain ⟨ra, hra⟩ : ∃ ra, rqA x = ra := ⟨_, rfl⟩
      rw [hra] at BX WX MX HZG HZK H1 HA5
      have HRA : Hid (ra = #[.int .i64 x.id, .string x.host, .string x.path, .int .i64 x.prio, .int .i64 x.til]) := Lib.hid (by rw [← hra]; rfl)
      clear hra cl hx hb
      obtain ⟨xi, xh, xp, xr, xt⟩ := x
      obtain rfl := HRA.out
      clear HRA
      dsimp only at m0 m1 m2 m3 m4
      go_upto_region 5 with fail
      obtain ⟨w1, hw1⟩ : ∃ W, wo.alloc (.cells #[.int .i64 xi, .string xh, .string xp, .int .i64 xr, .int .i64 xt] 27) = W := ⟨_, rfl⟩
      rw [hw1] at BX WX
      rw [hw1]
      clear hw1 m0 m1 m2 m3 m4
      have b0 := BX.out.cell 0
      have b1 := BX.out.cell 1
      have b2 := BX.out.cell 2
      have b3 := BX.out.cell 3
      have b4 := BX.out.cell 4
      have lX := BX.out.lt
      have MY := Lib.hid (MX.out w1 (HS.out.bel.trans (WX.out.mono szw)))
      clear MX
      go_wp2_with fail
      refine MY.out.mono ?_
      rintro e w2 ⟨rfl, hb2⟩
      have W2 := Lib.hid (WX.out.trans (hb2.mono WX.out.size))
      have BX2 := BX.out.later hb2
      have d0 := BX2.cell 0
      have d1 := BX2.cell 1
      have d2 := BX2.cell 2
      have d3 := BX2.cell 3
      have d4 := BX2.cell 4
      have lX2 := BX2.lt
      have sz2 : w.heap.size ≤ w2.heap.size := Nat.le_trans szw W2.out.size
      clear b0 b1 b2 b3 b4 BX BX2 hb2 MY WX
      cases b with
      | true =>
        have OA := Lib.hid (HS.out.og.later W2.out)
        go_wp2_with (at_builtin; refine wpList_app1 rowQ rfl _ _ rfl w.heap.size ag gs.length cg (rqC gs) rfl OA.out #[.int .i64 xi, .string xh, .string xp, .int .i64 xr, .int .i64 xt] rfl HA5.out H1.out (by omega) (by decide) sz2 (gs.length + 1) rfl (rqC (gs ++ [⟨xi, xh, xp, xr, xt⟩])) HZG.out ?_; rintro g' cap2 w3 q1 q2 q3 q4)
        have NX := Lib.hid (HS.out.gone HX.out HB.out W2.out q1 q2 q3 q4)
        have sz3 := Nat.le_trans sz2 q3.size
        clear q1 q2 q3 q4 d0 d1 d2 d3 d4 HS OA
        go_wp2
        go_roundw
        case rel => exact ⟨i + 1, ak, ck, ks, some ⟨g', 0, none⟩, cap2, gs ++ [⟨xi, xh, xp, xr, xt⟩], by omega, rfl, by rw [List.length_append]; rfl, by simp, by omega, by simp; omega, sz3, NX⟩
        case measure =>
          simp only [intOf]
          omega
      | false =>
        have OA := Lib.hid (HS.out.ok.later W2.out)
        go_wp2_with (at_builtin; refine wpList_app1 rowQ rfl _ _ rfl w.heap.size ak ks.length ck (rqC ks) rfl OA.out #[.int .i64 xi, .string xh, .string xp, .int .i64 xr, .int .i64 xt] rfl HA5.out H1.out (by omega) (by decide) sz2 (ks.length + 1) rfl (rqC (ks ++ [⟨xi, xh, xp, xr, xt⟩])) HZK.out ?_; rintro g' cap2 w3 q1 q2 q3 q4)
        have NX := Lib.hid (HS.out.kept HX.out HB.out W2.out q1 q2 q3 q4)
        have sz3 := Nat.le_trans sz2 q3.size
        clear q1 q2 q3 q4 d0 d1 d2 d3 d4 HS OA
        go_wp2
        go_roundw
        case rel => exact ⟨i + 1, some ⟨g', 0, none⟩, cap2, ks ++ [⟨xi, xh, xp, xr, xt⟩], ag, cg, gs, by omega, by rw [List.length_append]; rfl, rfl, by simp, by simp; omega, by omega, sz3, NX⟩
        case measure =>
          simp only [intOf]
          omega
    · have hkd : decide ((i : Int) < (n : Int)) = false := decide_eq_false (by omega)
      obtain rfl : i = n := by omega
      have hks := HS.out.ks
      have hgs := HS.out.gs
      rw [List.take_of_length_le (by rw [HN.out]; exact Nat.le_refl _)] at hks hgs
      have QL := QM.out.later HS.out.bel
      have y0 := QL.box.cell 0
      have f0 := QL.box.free 0
      have lq2 := QL.box.lt
      have FIN : Hid (RemP B q a rs p most w (.returned (.slice ag gs.length cg)) (wr.setCell ⟨q, 0, none⟩ (.slice ak ks.length ck))) := Lib.hid (by
        unfold RemP
        rw [← hks, ← hgs]
        have ngk : ∀ k, ak = some ⟨k, 0, none⟩ → k ≠ q := fun k hk => by have := HS.out.ok; rw [hk] at this; exact own_not_box5 this QL.box (by decide)
        have ngg : ∀ k, ag = some ⟨k, 0, none⟩ → k ≠ q := fun k hk => by have := HS.out.og; rw [hk] at this; exact own_not_box5 this QL.box (by decide)
        exact ⟨ak, ck, ag, cg, rfl, ⟨QL.box.set 0 _, (HS.out.ok.other ngk _).mono hB, QL.qB⟩, ⟨(Only.of_below _ HS.out.bel).setCell (Or.inl (Or.inl rfl)) _, fun k hk => Or.inr (own_lt HS.out.ok hk).2⟩, HS.out.og.other ngg _, HS.out.ne⟩)
      clear hks hgs QL HS QM HM RD HN
      go_wp2
      go_ret
      exact FIN.out
end Go.Proofs.Ytbifnmlhbepadaa
