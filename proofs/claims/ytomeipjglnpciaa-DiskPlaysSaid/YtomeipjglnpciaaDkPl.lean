/- DiskPlays: the program's disk and the document's side by side in memory. -/
import Derived.Test.YtomeipjglnpciaaDkRel
import Derived.Test.YtomeipjglnpciaaDkActs
namespace Go.Proofs.Ytomeipjglnpciaa
open Go Go.RowKit Go.Maps
set_option linter.unusedVariables false
set_option linter.unusedSimpArgs false
set_option maxRecDepth 10000

theorem Dm.blocks {w w' : World} {B d bm uc : Nat} {S : Sgs} {V : VF} {ua : Option Addr} {un : Pcs} {most beh fal : Int} (h : Dm w B d bm S V ua uc un most beh fal) (hb : ∀ k, MineD d bm S V ua k → w'.heap[k]? = w.heap[k]?) : Dm w' B d bm S V ua uc un most beh fal :=
  ⟨(hb d (Or.inl rfl)).trans h.box, h.mp.blocks fun k hk => hb k (Or.inr (Or.inl hk)), h.own.blocks fun g e => hb g (Or.inr (Or.inr e)), h.un_ok, h.dB, h.behB, h.falB, h.mo, h.cnt, h.seg, h.kw⟩
theorem Rm.blocks {w w' : World} {B d sc : Nat} {sa : Option Addr} {R : Rgs} {V : VF} {most next first fails : Int} (h : Rm w B d sa sc R V most next first fails) (hb : ∀ k, MineR d sa R V k → w'.heap[k]? = w.heap[k]?) : Rm w' B d sa sc R V most next first fails :=
  ⟨(hb d (Or.inl rfl)).trans h.box, h.own.blocks fun g e => hb g (Or.inr (Or.inl e)), fun n bs hn => (h.rows n bs hn).blocks fun g e => hb g (Or.inr (Or.inr ⟨n, bs, hn, e⟩)), h.ne, h.srt, h.dB, h.mo, h.cnt, h.fiB, h.faB, h.fi0, h.fa0⟩
structure PlM (w w' : World) (B D2 : Nat) (M : Int) (S : Sgs) (V : VF) (ua : Option Addr) (uc : Nat) (un : Pcs) (beh fal : Int) (R : Rgs) (sa : Option Addr) (sc : Nat) (V2 : VF) (next f1 f2 : Int) (ab : Option Nat) (cs : Array Value) : Prop where
  dm : Dm w' B (B + 1) B S V ua uc un M beh fal
  rm : Rm w' B D2 sa sc R V2 M next f1 f2
  ap : ∀ k, MineD (B + 1) B S V ua k → ¬ MineR D2 sa R V2 k
  bel : Below B w w'
  bx : ∀ g, ab = some g → Box w' g cs 29 ∧ ¬ MineD (B + 1) B S V ua g ∧ ¬ MineR D2 sa R V2 g
section
variable {w wr w1 : World} {B D2 : Nat} {M : Int} {S : Sgs} {V : VF} {ua : Option Addr} {uc : Nat} {un : Pcs} {beh fal : Int} {R : Rgs} {sa : Option Addr} {sc : Nat} {V2 : VF} {next f1 f2 : Int} {ab : Option Nat} {cs : Array Value}
theorem PlM.stepD (h : PlM w wr B D2 M S V ua uc un beh fal R sa sc V2 next f1 f2 ab cs) (hB : B ≤ w.heap.size) {S' : Sgs} {V' : VF} {ua' : Option Addr} {uc' : Nat} {un' : Pcs} {beh' fal' : Int} (hd : Dm w1 B (B + 1) B S' V' ua' uc' un' M beh' fal') (ht : TurnD (B + 1) B S V ua wr S' V' ua' w1) :
    PlM w w1 B D2 M S' V' ua' uc' un' beh' fal' R sa sc V2 next f1 f2 ab cs := by
  have ap' : ∀ k, MineD (B + 1) B S' V' ua' k → k < wr.heap.size → MineD (B + 1) B S V ua k := fun k hk hl => by
    rcases ht.2 k hk with h1 | h1
    · exact h1
    · omega
  refine ⟨hd, h.rm.blocks fun k hk => ht.1.block k (h.rm.mine hk).1 (fun hd => h.ap k hd hk), fun k hk hr => h.ap k (ap' k hk (h.rm.mine hr).1) hr, h.bel.trans (h.dm.turn ht (Nat.le_trans hB h.bel.size)), fun g e => ?_⟩
  obtain ⟨b1, b2, b3⟩ := h.bx g e
  exact ⟨b1.only ht.1 b2, fun hm => b2 (ap' g hm b1.lt), b3⟩
theorem PlM.stepR (h : PlM w wr B D2 M S V ua uc un beh fal R sa sc V2 next f1 f2 ab cs) (hB : B ≤ w.heap.size) {R' : Rgs} {sa' : Option Addr} {sc' : Nat} {V2' : VF} {next' f1' f2' : Int} (hr : Rm w1 B D2 sa' sc' R' V2' M next' f1' f2') (ht : TurnR D2 sa R V2 wr sa' R' V2' w1) :
    PlM w w1 B D2 M S V ua uc un beh fal R' sa' sc' V2' next' f1' f2' ab cs := by
  have ap' : ∀ k, MineR D2 sa' R' V2' k → k < wr.heap.size → MineR D2 sa R V2 k := fun k hk hl => by
    rcases ht.2 k hk with h1 | h1
    · exact h1
    · omega
  refine ⟨h.dm.blocks fun k hk => ht.1.block k (h.dm.mine hk).1 (h.ap k hk), hr, fun k hk hr => h.ap k hk (ap' k hr (h.dm.mine hk).1), h.bel.trans (h.rm.turn ht (Nat.le_trans hB h.bel.size)), fun g e => ?_⟩
  obtain ⟨b1, b2, b3⟩ := h.bx g e
  exact ⟨b1.only ht.1 b3, b2, fun hm => b3 (ap' g hm b1.lt)⟩
end
def PlS (w w' : World) (B D2 : Nat) (M : Int) (S : Sgs) (R : Rgs) (cnt : Nat) (ab : Option Nat) (cs : Array Value) : Prop :=
  ∃ V ua uc un beh fal sa sc V2 next, PlM w w' B D2 M S V ua uc un beh fal R sa sc V2 next (max beh 0) (max fal 0) ab cs ∧ Rel S un R next ∧ un.length ≤ cnt ∧ 0 ≤ next ∧ next ≤ (cnt : Int) * 2500
/-- What comes of the document's call behind the program's. -/
def PlP (w : World) (B D2 : Nat) (M : Int) (cnt : Nat) (ab : Option Nat) (cs : Array Value) (er : Int) (e : Ending) (w' : World) : Prop := e = .returned (.int .i64 er) ∧ ∃ S R, Hid (PlS w w' B D2 M S R cnt ab cs)
def PlA (w : World) (f : FuncId) (args : Array Value) (B D2 : Nat) (M : Int) (cnt : Nat) (ab : Option Nat) (cs : Array Value) (e : Ending) (w1 : World) : Prop :=
  ∃ er, e = .returned (.int .i64 er) ∧ (∀ g, ab = some g → Hid (Box w1 g cs 29)) ∧ Hid (Calls Try.prog f args w1 (PlP w B D2 M cnt ab cs er))
theorem wfB_max (b f : Int) : wfB (max b 0) (max f 0) = wfB b f := by
  unfold wfB
  by_cases h1 : 0 < b
  · rw [decide_eq_true h1, decide_eq_true (show 0 < max b 0 by omega)]; rfl
  · rw [decide_eq_false h1, decide_eq_false (show ¬ 0 < max b 0 by omega)]
    by_cases h2 : 0 < f
    · rw [decide_eq_true h2, decide_eq_true (show 0 < max f 0 by omega)]
    · rw [decide_eq_false h2, decide_eq_false (show ¬ 0 < max f 0 by omega)]
theorem wfH_max (b : Int) : wfH (max b 0) = max (wfH b) 0 := by unfold wfH; split <;> split <;> omega
theorem wfF_max (b f : Int) : wfF (max b 0) (max f 0) = max (wfF b f) 0 := by unfold wfF; split <;> split <;> (try split) <;> (try split) <;> omega
theorem fb_eq {S : Sgs} {un : Pcs} {R : Rgs} {nx M n : Int} {m : Nat} {fb : Bool} (h : Rel S un R nx) (hf : FbR R M n m fb) : fb = apF S M n m := by
  have hl : R.length = S.length := by have := congrArg List.length h.keys; simpa using this
  unfold apF
  rcases hf with ⟨hno, rfl⟩ | ⟨k, bs, hk, rfl⟩
  · have e := h.none_ hno
    have e2 : gD S n = [] := by unfold gD; rw [e]; rfl
    rw [e, e2, hl]
    simp
  · have e := h.txt n bs (List.mem_of_getElem? hk)
    have e2 : gD S n = bs.map Prod.fst := by unfold gD; rw [e]; rfl
    rw [e, e2, List.length_map]
    simp
section
variable {w wr w1 : World} {B D2 cnt : Nat} {M : Int} {S : Sgs} {R : Rgs} {ab : Option Nat} {cs : Array Value}
theorem pl_later (hB : B ≤ w.heap.size) (h : PlS w wr B D2 M S R cnt ab cs) (hb : Below wr.heap.size wr w1) : PlS w w1 B D2 M S R cnt ab cs := by
  obtain ⟨V, ua, uc, un, beh, fal, sa, sc, V2, next, hm, hr, h1, h2, h3⟩ := h
  exact ⟨V, ua, uc, un, beh, fal, sa, sc, V2, next, hm.stepD hB (hm.dm.later hb) (TurnD.refl hb), hr, h1, h2, h3⟩
theorem pl_seg {V : VF} {ua : Option Addr} {uc : Nat} {un : Pcs} {beh fal : Int} {sa : Option Addr} {sc : Nat} {V2 : VF} {next f1 f2 : Int} (hm : PlM w wr B D2 M S V ua uc un beh fal R sa sc V2 next f1 f2 ab cs) (hr : Rel S un R next) (n : Int) (bs : Bys) (hn : (n, bs) ∈ R) : bs.length ≤ 2048 := by
  have e := hr.txt n bs hn
  have := hm.dm.seg n
  unfold gD at this
  rw [e] at this
  simpa using this
theorem pl_app {l c : Nat} {a : Option Addr} {bs : List Int} (hB : B ≤ w.heap.size) (h : PlS w wr B D2 M S R cnt ab cs) (hc : cnt ≤ 999) (n : Int) (hn : (Lit.int .i64 n).wf = true) (hl : bs.length = l) (hl2 : l ≤ 2500) (hr : RdC w a (u8L bs)) (hw : w.heap.size ≤ B) :
    Calls Try.prog 6 #[.pointer (some ⟨B + 1, 0, none⟩), .int .i64 n, .slice a l c] wr (PlA w 7 #[.pointer (some ⟨D2, 0, none⟩), .int .i64 n, .slice a l c] B D2 M (cnt + 1) ab cs) := by
  obtain ⟨V, ua, uc, un, beh, fal, sa, sc, V2, next, hm, hrel, hlen, hn0, hn1⟩ := h
  have hc2 : ((cnt + 1 : Nat) : Int) * 2500 = (cnt : Int) * 2500 + 2500 := by omega
  by_cases h0 : n < 0
  · refine (app_arg n h0 (B + 1) a l c wr).mono fun e w1 ⟨he, hw'⟩ => ?_
    subst hw'
    refine ⟨1, he, fun g e => Lib.hid (hm.bx g e).1, Lib.hid ((append_arg n h0 D2 a l c w1).mono fun e w2 ⟨he2, hw2⟩ => ?_)⟩
    subst hw2
    exact ⟨he2, S, R, Lib.hid ⟨V, ua, uc, un, beh, fal, sa, sc, V2, next, hm, hrel, by omega, hn0, by omega⟩⟩
  · have blk : ∀ g off, a = some ⟨g, off, none⟩ → bs ≠ [] → g < w.heap.size := fun g off e hne => by
      obtain ⟨b2, o2, e2, hcc⟩ := hr 0 (.int .u8 (bs[0]'(List.length_pos_iff.2 hne))) (by unfold u8L; simp [List.length_pos_iff.2 hne])
      rw [e] at e2
      injection e2 with e2
      injection e2 with e2 _ _
      have h1 := World.block_lt_of_cell? _ _ hcc
      subst e2
      exact h1
    have hrw : ∀ {W : World}, Below B w W → RdC W a (u8L bs) := fun hb => hr.later (hb.mono hw)
    have second : ∀ {W : World} {S' : Sgs} {V' : VF} {ua' : Option Addr} {uc' : Nat} {un' : Pcs} {beh' fal' : Int}, PlM w W B D2 M S' V' ua' uc' un' beh' fal' R sa sc V2 next (max beh 0) (max fal 0) ab cs →
        Calls Try.prog 7 #[.pointer (some ⟨D2, 0, none⟩), .int .i64 n, .slice a l c] W (ApRP B D2 sa R V2 M next (max beh 0) (max fal 0) n bs W) := fun hm' =>
      append_ref hm'.rm (Nat.le_trans hB hm'.bel.size) (fun n bs hn => pl_seg hm hrel n bs hn) n (by omega) bs l hl (by omega) hn0 (by omega) a c (hrw hm'.bel) (fun g off e hne hmi => by
        have := blk g off e hne
        have := (hm'.rm.mine hmi).2
        omega)
    refine (app_at hm.dm n (by omega) hn (by omega) bs l hl (by omega) a c (hrw hm.bel) (fun g off e hne hmi => ?_)).mono fun e w1 hp => ?_
    · have := blk g off e hne
      have := (hm.dm.mine hmi).2
      omega
    · rcases hp with ⟨hf, he, hbw⟩ | ⟨hf, hwf, he, V', ua', uc', k1, k2⟩ | ⟨hf, hwf, he, V', ua', uc', k1, k2⟩
      · have hm1 := hm.stepD hB (hm.dm.later hbw) (TurnD.refl hbw)
        refine ⟨5, he, fun g e => Lib.hid (hm1.bx g e).1, Lib.hid ((second hm1).mono fun e2 w2 hp2 => ?_)⟩
        obtain ⟨fb, hfb, hp2⟩ := hp2
        have hfe := fb_eq hrel hfb
        rw [hf] at hfe
        rcases hp2 with ⟨_, he2, hb2⟩ | ⟨hx, _⟩ | ⟨hx, _⟩
        · exact ⟨he2, S, R, Lib.hid ⟨V, ua, uc, un, beh, fal, sa, sc, V2, next, hm1.stepR hB (hm1.rm.later hb2) (TurnR.refl hb2), hrel, by omega, hn0, by omega⟩⟩
        · rw [hfe] at hx; cases hx
        · rw [hfe] at hx; cases hx
      · have hm1 := hm.stepD hB k1 k2
        refine ⟨7, he, fun g e => Lib.hid (hm1.bx g e).1, Lib.hid ((second hm1).mono fun e2 w2 hp2 => ?_)⟩
        obtain ⟨fb, hfb, hp2⟩ := hp2
        have hfe := fb_eq hrel hfb
        rw [hf] at hfe
        rcases hp2 with ⟨hx, _⟩ | ⟨_, _, he2, sc', j1, j2⟩ | ⟨_, hx, _⟩
        · rw [hfe] at hx; cases hx
        · rw [wfH_max, wfF_max] at j1
          exact ⟨he2, S, R, Lib.hid ⟨V', ua', uc', un, _, _, sa, sc', V2, next, hm1.stepR hB j1 j2, hrel, by omega, hn0, by omega⟩⟩
        · rw [wfB_max, hwf] at hx; cases hx
      · have hm1 := hm.stepD hB k1 k2
        refine ⟨0, he, fun g e => Lib.hid (hm1.bx g e).1, Lib.hid ((second hm1).mono fun e2 w2 hp2 => ?_)⟩
        obtain ⟨fb, hfb, hp2⟩ := hp2
        have hfe := fb_eq hrel hfb
        rw [hf] at hfe
        rcases hp2 with ⟨hx, _⟩ | ⟨_, hx, _⟩ | ⟨_, _, he2, sa', sc', R', V3, j1, j2, j3⟩
        · rw [hfe] at hx; cases hx
        · rw [wfB_max, hwf] at hx; cases hx
        · rw [wfH_max, wfF_max] at j1
          exact ⟨he2, _, R', Lib.hid ⟨V', ua', uc', _, _, _, sa', sc', V3, _, hm1.stepR hB j1 j2, hrel.app hm.dm.mp.ss hm.dm.un_ok j1.srt j3 hn0, by rw [List.length_append]; simp; omega, by omega, by omega⟩⟩
theorem pl_sync (hB : B ≤ w.heap.size) (h : PlS w wr B D2 M S R cnt ab cs) :
    Calls Try.prog 8 #[.pointer (some ⟨B + 1, 0, none⟩)] wr (PlA w 9 #[.pointer (some ⟨D2, 0, none⟩)] B D2 M (cnt + 1) ab cs) := by
  obtain ⟨V, ua, uc, un, beh, fal, sa, sc, V2, next, hm, hrel, hlen, hn0, hn1⟩ := h
  have hc2 : ((cnt + 1 : Nat) : Int) * 2500 = (cnt : Int) * 2500 + 2500 := by omega
  refine (sync_at hm.dm).mono fun e w1 ⟨he, V', ua', uc', k1, k2⟩ => ?_
  have hm1 := hm.stepD hB k1 k2
  refine ⟨_, he, fun g e => Lib.hid (hm1.bx g e).1, Lib.hid ((sync_ref hm1.rm (fun n bs hn => pl_seg hm hrel n bs hn)).mono fun e2 w2 hp2 => ?_)⟩
  cases hwf : wfB beh fal with
  | true =>
    rw [hwf] at hm1
    rcases hp2 with ⟨_, he2, j1, j2⟩ | ⟨hx, _⟩
    · rw [wfH_max, wfF_max] at j1
      exact ⟨he2, S, R, Lib.hid ⟨V', ua', uc', _, _, _, sa, sc, V2, next, hm1.stepR hB j1 j2, hrel, by simp; omega, hn0, by omega⟩⟩
    · rw [wfB_max, hwf] at hx; cases hx
  | false =>
    rw [hwf] at hm1
    rcases hp2 with ⟨hx, _⟩ | ⟨_, he2, j1, j2⟩
    · rw [wfB_max, hwf] at hx; cases hx
    · rw [wfH_max, wfF_max] at j1
      exact ⟨he2, S, _, Lib.hid ⟨V', ua', uc', _, _, _, sa, sc, V2, next, hm1.stepR hB j1 j2, hrel.sync, by simp, hn0, by omega⟩⟩
theorem pl_drop (hB : B ≤ w.heap.size) (h : PlS w wr B D2 M S R cnt ab cs) (n : Int) (hn : (Lit.int .i64 n).wf = true) :
    Calls Try.prog 10 #[.pointer (some ⟨B + 1, 0, none⟩), .int .i64 n] wr (PlA w 11 #[.pointer (some ⟨D2, 0, none⟩), .int .i64 n] B D2 M (cnt + 1) ab cs) := by
  obtain ⟨V, ua, uc, un, beh, fal, sa, sc, V2, next, hm, hrel, hlen, hn0, hn1⟩ := h
  have hc2 : ((cnt + 1 : Nat) : Int) * 2500 = (cnt : Int) * 2500 + 2500 := by omega
  have hno : (∀ p ∈ R, p.1 ≠ n) → gS S n = none := hrel.none_
  have hyes : ∀ k bs, R[k]? = some (n, bs) → (gS S n).isSome = true := fun k bs hk => by rw [hrel.txt n bs (List.mem_of_getElem? hk)]; rfl
  refine (drop_at hm.dm n hn).mono fun e w1 hp => ?_
  rcases hp with ⟨hf, he, hbw⟩ | ⟨hf, hwf, he, V', ua', uc', k1, k2⟩ | ⟨hf, hwf, he, V', ua', uc', k1, k2⟩
  · have hm1 := hm.stepD hB (hm.dm.later hbw) (TurnD.refl hbw)
    refine ⟨4, he, fun g e => Lib.hid (hm1.bx g e).1, Lib.hid ((drop_ref hm1.rm (Nat.le_trans hB hm1.bel.size) n).mono fun e2 w2 hp2 => ?_)⟩
    rcases hp2 with ⟨_, he2, hw2⟩ | ⟨k, bs, hk, _⟩
    · subst hw2
      exact ⟨he2, S, R, Lib.hid ⟨V, ua, uc, un, beh, fal, sa, sc, V2, next, hm1, hrel, by omega, hn0, by omega⟩⟩
    · have := hyes k bs hk; rw [hf] at this; cases this
  · have hm1 := hm.stepD hB k1 k2
    refine ⟨7, he, fun g e => Lib.hid (hm1.bx g e).1, Lib.hid ((drop_ref hm1.rm (Nat.le_trans hB hm1.bel.size) n).mono fun e2 w2 hp2 => ?_)⟩
    rcases hp2 with ⟨hx, _⟩ | ⟨k, bs, hk, ⟨_, he2, sc', j1, j2⟩ | ⟨hx, _⟩⟩
    · rw [hno hx] at hf; cases hf
    · rw [wfH_max, wfF_max] at j1
      exact ⟨he2, S, R, Lib.hid ⟨V', ua', uc', _, _, _, sa, sc', V2, next, hm1.stepR hB j1 j2, hrel, by omega, hn0, by omega⟩⟩
    · rw [wfB_max, hwf] at hx; cases hx
  · have hm1 := hm.stepD hB k1 k2
    refine ⟨0, he, fun g e => Lib.hid (hm1.bx g e).1, Lib.hid ((drop_ref hm1.rm (Nat.le_trans hB hm1.bel.size) n).mono fun e2 w2 hp2 => ?_)⟩
    rcases hp2 with ⟨hx, _⟩ | ⟨k, bs, hk, ⟨hx, _⟩ | ⟨_, he2, sa', sc', j1, j2⟩⟩
    · rw [hno hx] at hf; cases hf
    · rw [wfB_max, hwf] at hx; cases hx
    · rw [wfH_max, wfF_max] at j1
      exact ⟨he2, _, _, Lib.hid ⟨V', ua', uc', _, _, _, sa', sc', V2, next, hm1.stepR hB j1 j2, hrel.drop hm.dm.mp.ss hm.rm.srt hk, Nat.le_trans (keepP_le _ _) (by omega), hn0, by omega⟩⟩
theorem pl_crash (hB : B ≤ w.heap.size) (h : PlS w wr B D2 M S R cnt ab cs) (k : Int) (hk1 : -9223372036854775808 ≤ k) (hk2 : k ≤ 9223372036854775807) :
    Calls Try.prog 13 #[.pointer (some ⟨B + 1, 0, none⟩), .int .i64 k] wr fun e w1 => e = .returned (.tuple #[]) ∧ (∀ g, ab = some g → Hid (Box w1 g cs 29)) ∧
      Hid (Calls Try.prog 14 #[.pointer (some ⟨D2, 0, none⟩), .int .i64 k] w1 fun e2 w2 => e2 = .returned (.tuple #[]) ∧ ∃ S' R', Hid (PlS w w2 B D2 M S' R' (cnt + 1) ab cs)) := by
  obtain ⟨V, ua, uc, un, beh, fal, sa, sc, V2, next, hm, hrel, hlen, hn0, hn1⟩ := h
  have hc2 : ((cnt + 1 : Nat) : Int) * 2500 = (cnt : Int) * 2500 + 2500 := by omega
  refine (crash_at hm.dm k hk1 hk2).mono fun e w1 ⟨he, V', ua', uc', k1, k2⟩ => ?_
  have hm1 := hm.stepD hB k1 k2
  refine ⟨he, fun g e => Lib.hid (hm1.bx g e).1, Lib.hid ((crash_ref hm1.rm (Nat.le_trans hB hm1.bel.size) (fun n bs hn => pl_seg hm hrel n bs hn) k).mono fun e2 w2 ⟨he2, V3, j1, j2⟩ => ?_)⟩
  exact ⟨he2, _, _, Lib.hid ⟨V', ua', uc', [], 0, 0, sa, sc, V3, next, hm1.stepR hB j1 j2, hrel.crash hm.dm.mp.ss hm.dm.un_ok hm.rm.srt k, Nat.zero_le _, hn0, by omega⟩⟩
theorem pl_fault (hB : B ≤ w.heap.size) (h : PlS w wr B D2 M S R cnt ab cs) (x y : Int) (hx : x ≤ 9223372036854775807) (hy : y ≤ 9223372036854775807) :
    Calls Try.prog 12 #[.pointer (some ⟨B + 1, 0, none⟩), .int .i64 x, .int .i64 y] wr fun e w1 => e = .returned (.tuple #[]) ∧ (∀ g, ab = some g → Hid (Box w1 g cs 29) ∧ g ≠ D2) ∧
      ∃ v1 v2 v3 v4, Hid (Box w1 D2 #[.int .i64 M, v1, v2, v3, v4] 37) ∧ Hid (∀ w2, Box w2 D2 #[.int .i64 M, v1, v2, .int .i64 (max x 0), .int .i64 (max y 0)] 37 → Only (fun k => k = D2) w1 w2 → PlS w w2 B D2 M S R (cnt + 1) ab cs) := by
  obtain ⟨V, ua, uc, un, beh, fal, sa, sc, V2, next, hm, hrel, hlen, hn0, hn1⟩ := h
  have hc2 : ((cnt + 1 : Nat) : Int) * 2500 = (cnt : Int) * 2500 + 2500 := by omega
  refine (fault_at hm.dm x y hx hy).mono fun e w1 ⟨he, k1, k2⟩ => ?_
  have hm1 := hm.stepD hB k1 k2
  refine ⟨he, fun g e => ⟨Lib.hid (hm1.bx g e).1, fun e2 => (hm1.bx g e).2.2 (Or.inl e2)⟩, _, _, _, _, Lib.hid hm1.rm.box, Lib.hid fun w2 hb ho => ?_⟩
  obtain ⟨j1, j2⟩ := hm1.rm.cells hb ho (by omega) (by omega) (by omega) (by omega)
  exact ⟨V, ua, uc, un, x, y, sa, sc, V2, next, hm1.stepR hB j1 j2, hrel, by omega, hn0, by omega⟩
theorem pl_segs {K : Nat} (hB : B ≤ w.heap.size) (h : PlS w wr B D2 M S R cnt ab cs) (hK : S.length = K) :
    Calls Try.prog 15 #[.pointer (some ⟨B + 1, 0, none⟩)] wr fun e w1 => ∃ a c, e = .returned (.slice a K c) ∧ Hid (Own w1 wr.heap.size 3 1 a K c (S.map fun p => .int .i64 p.1)) ∧ Hid (PlS w w1 B D2 M S R cnt ab cs) := by
  have h0 := h
  obtain ⟨V, ua, uc, un, beh, fal, sa, sc, V2, next, hm, hrel, hlen, hn0, hn1⟩ := h
  exact (segs_at hm.dm K hK).mono fun e w1 ⟨a, c, he, ho, hb⟩ => ⟨a, c, he, Lib.hid ho, Lib.hid (pl_later hB h0 hb)⟩
theorem pl_read (hB : B ≤ w.heap.size) (h : PlS w wr B D2 M S R cnt ab cs) (n : Int) (hn : (Lit.int .i64 n).wf = true) (L : Nat) (hL : (gD S n).length = L) (E : Int) (hE : rdE S n = E) :
    Calls Try.prog 16 #[.pointer (some ⟨B + 1, 0, none⟩), .int .i64 n] wr fun e w1 => ∃ a c, e = .returned (.tuple #[.slice a L c, .int .i64 E]) ∧ Hid (Below wr.heap.size wr w1) ∧ Hid (PlS w w1 B D2 M S R cnt ab cs) ∧ Hid (RdC w1 a (u8L (gD S n))) := by
  have h0 := h
  obtain ⟨V, ua, uc, un, beh, fal, sa, sc, V2, next, hm, hrel, hlen, hn0, hn1⟩ := h
  refine (read_at hm.dm n hn).mono fun e w1 hp => ?_
  rcases hp with ⟨hg, he, hbw⟩ | ⟨hs, a, c, he, ho, hbw⟩
  · have e1 : gD S n = [] := by unfold gD; rw [hg]; rfl
    have e2 : rdE S n = 4 := by unfold rdE; rw [hg]; rfl
    rw [e1] at hL
    subst hL
    rw [← hE, e2]
    exact ⟨none, 0, he, Lib.hid hbw, Lib.hid (pl_later hB h0 hbw), Lib.hid (by rw [e1]; exact RdC.none _ _)⟩
  · have e2 : rdE S n = 0 := by unfold rdE; rw [if_pos hs]
    rw [hL] at he ho
    rw [← hE, e2]
    refine ⟨a, c, he, Lib.hid hbw, Lib.hid (pl_later hB h0 hbw), Lib.hid fun j u hj => ?_⟩
    have h0 : 0 < L := by
      have := (List.getElem?_eq_some_iff.1 hj).1
      rw [u8L_len] at this
      omega
    obtain ⟨g, rfl, _⟩ := ho.some_ h0
    exact ⟨g, 0, rfl, by rw [Nat.zero_add]; exact ho.cell hj⟩
theorem pl_readR (hB : B ≤ w.heap.size) (h : PlS w wr B D2 M S R cnt ab cs) (n : Int) (L : Nat) (hL : (gD S n).length = L) (E : Int) (hE : rdE S n = E) :
    Calls Try.prog 17 #[.pointer (some ⟨D2, 0, none⟩), .int .i64 n] wr fun e w1 => ∃ a c, e = .returned (.tuple #[.slice a L c, .int .i64 E]) ∧ Hid (Below wr.heap.size wr w1) ∧ Hid (PlS w w1 B D2 M S R cnt ab cs) ∧ Hid (RdC w1 a (u8L (gD S n))) := by
  have h0 := h
  obtain ⟨V, ua, uc, un, beh, fal, sa, sc, V2, next, hm, hrel, hlen, hn0, hn1⟩ := h
  refine (read_ref hm.rm (fun n bs hn => pl_seg hm hrel n bs hn) n).mono fun e w1 hp => ?_
  rcases hp with ⟨hno, he, hw1⟩ | ⟨bs, hbs, a, c, he, ho, hbw⟩
  · subst hw1
    have hg := hrel.none_ hno
    have e1 : gD S n = [] := by unfold gD; rw [hg]; rfl
    have e2 : rdE S n = 4 := by unfold rdE; rw [hg]; rfl
    rw [e1] at hL
    subst hL
    rw [← hE, e2]
    exact ⟨none, 0, he, Lib.hid (Below.refl _ _), Lib.hid h0, Lib.hid (by rw [e1]; exact RdC.none _ _)⟩
  · have hg := hrel.txt n bs hbs
    have e1 : gD S n = bs.map Prod.fst := by unfold gD; rw [hg]; rfl
    have e2 : rdE S n = 0 := by unfold rdE; rw [hg]; rfl
    have e3 : bs.length = L := by rw [← hL, e1, List.length_map]
    rw [e3] at he ho
    rw [← hE, e2]
    refine ⟨a, c, he, Lib.hid hbw, Lib.hid (pl_later hB h0 hbw), Lib.hid fun j u hj => ?_⟩
    have h0 : 0 < L := by
      have := (List.getElem?_eq_some_iff.1 hj).1
      rw [u8L_len, e1, List.length_map] at this
      omega
    rw [e1] at hj
    obtain ⟨g, rfl, _⟩ := ho.some_ h0
    exact ⟨g, 0, rfl, by rw [Nat.zero_add]; exact ho.cell hj⟩
theorem pl_len (h : PlS w wr B D2 M S R cnt ab cs) : R.length = S.length ∧ S.length ≤ 16 ∧ ∀ n, (gD S n).length ≤ 2048 := by
  obtain ⟨V, ua, uc, un, beh, fal, sa, sc, V2, next, hm, hrel, hlen, hn0, hn1⟩ := h
  exact ⟨by have := congrArg List.length hrel.keys; simpa using this, hm.dm.cnt, hm.dm.seg⟩
theorem pl_row (h : PlS w wr B D2 M S R cnt ab cs) : ∃ sa sc, Hid (wr.cell? ⟨D2, 1, none⟩ = some (.slice sa R.length sc) ∧ D2 < wr.heap.size ∧ ∀ k, k < S.length → ∃ gs n, sa = some ⟨gs, 0, none⟩ ∧ wr.cell? ⟨gs, k * 2, none⟩ = some (.int .i64 n) ∧ (S.map fun p => (.int .i64 p.1 : Value))[k]? = some (.int .i64 n) ∧ rdE S n = 0 ∧ (Lit.int .i64 n).wf = true) := by
  obtain ⟨V, ua, uc, un, beh, fal, sa, sc, V2, next, hm, hrel, hlen, hn0, hn1⟩ := h
  have hl : R.length = S.length := by have := congrArg List.length hrel.keys; simpa using this
  refine ⟨sa, sc, Lib.hid ⟨hm.rm.box.cell 1, hm.rm.box.lt, fun k hk => ?_⟩⟩
  obtain ⟨gs, e, _⟩ := hm.rm.own.some_ (by omega)
  obtain ⟨p0, hp⟩ : ∃ p, R[k]? = some p := ⟨_, List.getElem?_eq_getElem (by omega)⟩
  obtain ⟨n, bs⟩ := p0
  have ho := hm.rm.own
  rw [e] at ho
  have hkey : (S.map Prod.fst)[k]? = some n := by rw [← hrel.keys, List.getElem?_map, hp]; rfl
  have hS : (gS S n).isSome = true := by rw [hrel.txt n bs (List.mem_of_getElem? hp)]; rfl
  refine ⟨gs, n, e, ho.cell ((two_get (sgL V2) (sgL_len V2) hp).1.trans rfl), ?_, by unfold rdE; rw [if_pos hS], hm.dm.kw n hS⟩
  rw [List.getElem?_map] at hkey ⊢
  cases hq : S[k]? with
  | none => rw [hq] at hkey; cases hkey
  | some p =>
    rw [hq] at hkey
    have e3 : p.1 = n := by simpa using hkey
    rw [Option.map_some, e3]
theorem pl_bel (h : PlS w wr B D2 M S R cnt ab cs) : Below B w wr := by
  obtain ⟨V, ua, uc, un, beh, fal, sa, sc, V2, next, hm, _⟩ := h
  exact hm.bel
theorem pl_box {g : Nat} (h : PlS w wr B D2 M S R cnt (some g) cs) : Box wr g cs 29 := by
  obtain ⟨V, ua, uc, un, beh, fal, sa, sc, V2, next, hm, _⟩ := h
  exact (hm.bx g rfl).1
theorem pl_bare (h : PlS w wr B D2 M S R cnt ab cs) : PlS w wr B D2 M S R cnt none #[] := by
  obtain ⟨V, ua, uc, un, beh, fal, sa, sc, V2, next, hm, h2⟩ := h
  exact ⟨V, ua, uc, un, beh, fal, sa, sc, V2, next, ⟨hm.dm, hm.rm, hm.ap, hm.bel, fun g e => (by cases e)⟩, h2⟩
theorem pl_put (hB : B ≤ w.heap.size) (h : PlS w wr B D2 M S R cnt none #[]) (hbw : Below wr.heap.size wr w1) (hbox : Box w1 wr.heap.size cs 29) : PlS w w1 B D2 M S R cnt (some wr.heap.size) cs := by
  obtain ⟨V, ua, uc, un, beh, fal, sa, sc, V2, next, hm, h2⟩ := h
  have hm1 := hm.stepD hB (hm.dm.later hbw) (TurnD.refl hbw)
  refine ⟨V, ua, uc, un, beh, fal, sa, sc, V2, next, ⟨hm1.dm, hm1.rm, hm1.ap, hm1.bel, fun g e => ?_⟩, h2⟩
  have e2 : g = wr.heap.size := (Option.some.inj e).symm
  subst e2
  exact ⟨hbox, fun hx => by have := (hm.dm.mine hx).1; omega, fun hx => by have := (hm.rm.mine hx).1; omega⟩
theorem pl_cnt {c2 : Nat} (h : PlS w wr B D2 M S R cnt ab cs) (hc : cnt ≤ c2) : PlS w wr B D2 M S R c2 ab cs := by
  obtain ⟨V, ua, uc, un, beh, fal, sa, sc, V2, next, hm, h2, h3, h4, h5⟩ := h
  exact ⟨V, ua, uc, un, beh, fal, sa, sc, V2, next, hm, h2, by omega, h4, by omega⟩
end
end Go.Proofs.Ytomeipjglnpciaa
