/- The document's disk: New, fails, Read. -/
import Derived.Test.YtomeipjglnpciaaDkRmem
import Derived.Test.YtomeipjglnpciaaRowB
namespace Go.Proofs.Ytomeipjglnpciaa
open Go Go.RowKit Go.Maps
set_option linter.unusedVariables false
set_option linter.unusedSimpArgs false
set_option maxRecDepth 10000

section
variable {w : World} {B d sc : Nat} {sa : Option Addr} {R : Rgs} {V : VF} {most next first fails : Int}
/-- Where no row is written, the segments stay. -/
theorem Rm.cells (h : Rm w B d sa sc R V most next first fails) {w' : World} {next' first' fails' : Int} (hb : Box w' d #[.int .i64 most, .slice sa R.length sc, .int .i64 next', .int .i64 first', .int .i64 fails'] 37) (ho : Only (fun k => k = d) w w')
    (h1 : first' ≤ 9223372036854775807) (h2 : fails' ≤ 9223372036854775807) (h3 : 0 ≤ first') (h4 : 0 ≤ fails') : Rm w' B d sa sc R V most next' first' fails' ∧ TurnR d sa R V w sa R V w' := by
  have off : ∀ {E : TypeId} {n c : Nat} {a : Option Addr} {xs : List Value}, Own w B E 2 a n c xs → E ≠ 37 → Own w' B E 2 a n c xs := fun {E n c a xs} hr hE => hr.only ho fun g e1 e2 => by
    have h9 := hr
    rw [e1] at h9
    exact own_not_box h9 h.box (fun e => hE e.symm) e2
  exact ⟨⟨hb, off h.own (by decide), fun n bs hn => off (h.rows n bs hn) (by decide), h.ne, h.srt, h.dB, h.mo, h.cnt, h1, h2, h3, h4⟩, ⟨ho.os, ho.tape, ho.output, ho.size, fun k hk hne => ho.block k hk fun e => hne (Or.inl e)⟩, fun k hk => Or.inl hk⟩
theorem fails_ref (h : Rm w B d sa sc R V most next first fails) : Calls Try.prog 21 #[.pointer (some ⟨d, 0, none⟩)] w fun e w' => e = .returned (.bool (wfB first fails)) ∧ Rm w' B d sa sc R V most next (wfH first) (wfF first fails) ∧ TurnR d sa R V w sa R V w' := by
  have H := Lib.hid h
  have BX := Lib.hid h.box
  have c3 := h.box.cell 3
  have c4 := h.box.cell 4
  have f3 := h.box.free 3
  have f4 := h.box.free 4
  have ld := h.box.lt
  have hb := h.fiB
  have hf := h.faB
  have hb0 := h.fi0
  have hf0 := h.fa0
  clear h
  unfold wfB wfH wfF
  by_cases h1 : 0 < first
  · have d1 : decide (0 < first) = true := decide_eq_true h1
    rw [if_pos h1, if_pos h1, d1]
    have hw : IntKind.i64.wrap (first - 1) = first - 1 := IntWalk.i64_in _ (by omega)
    have FIN := Lib.hid (H.out.cells (w' := w.setCell ⟨d, 3, none⟩ (.int .i64 (first - 1))) (next' := next) (first' := first - 1) (fails' := fails) (BX.out.set 3 _) ((Only.refl (fun k => k = d) _).setCell (Or.inl rfl) _) (by omega) hf (by omega) hf0)
    go_enter Try.func21, Try.ntmps21
    go_wp2
    go_ret
    exact ⟨rfl, FIN.out⟩
  · have d1 : decide (0 < first) = false := decide_eq_false h1
    rw [if_neg h1, if_neg h1, d1]
    by_cases h2 : 0 < fails
    · have d2 : decide (0 < fails) = true := decide_eq_true h2
      rw [if_pos h2, d2]
      have hw : IntKind.i64.wrap (fails - 1) = fails - 1 := IntWalk.i64_in _ (by omega)
      have FIN := Lib.hid (H.out.cells (w' := w.setCell ⟨d, 4, none⟩ (.int .i64 (fails - 1))) (next' := next) (first' := first) (fails' := fails - 1) (BX.out.set 4 _) ((Only.refl (fun k => k = d) _).setCell (Or.inl rfl) _) hb (by omega) hb0 (by omega))
      go_enter Try.func21, Try.ntmps21
      go_wp2
      go_ret
      exact ⟨rfl, FIN.out⟩
    · have d2 : decide (0 < fails) = false := decide_eq_false h2
      rw [if_neg h2, d2]
      go_enter Try.func21, Try.ntmps21
      go_wp2
      go_ret
      exact ⟨rfl, H.out, TurnR.refl (Below.refl _ _)⟩
theorem atR_in (R : Rgs) (n : Int) : (atR R n = -1 ∧ ∀ p ∈ R, p.1 ≠ n) ∨ ∃ (k : Nat) (bs : Bys), atR R n = (k : Int) ∧ R[k]? = some (n, bs) := by
  by_cases h : ∃ p ∈ R, p.1 = n
  · obtain ⟨p, hp, he⟩ := h
    have hlt : R.findIdx (fun p => decide (p.1 = n)) < R.length := List.findIdx_lt_length_of_exists ⟨p, hp, decide_eq_true he⟩
    refine Or.inr ⟨R.findIdx (fun p => decide (p.1 = n)), (R[R.findIdx (fun p => decide (p.1 = n))]'hlt).2, by unfold atR; rw [if_pos hlt], ?_⟩
    rw [List.getElem?_eq_getElem hlt]
    have h9 : (R[R.findIdx (fun p => decide (p.1 = n))]'hlt).1 = n := of_decide_eq_true (List.findIdx_getElem (p := fun p : Int × Bys => decide (p.1 = n)) (w := hlt))
    exact congrArg some (Prod.ext h9 rfl)
  · have hno : ∀ p ∈ R, p.1 ≠ n := fun p hp e => h ⟨p, hp, e⟩
    exact Or.inl ⟨atR_no hno, hno⟩
def RdRP (R : Rgs) (n : Int) (w : World) (e : Ending) (w' : World) : Prop :=
  ((∀ p ∈ R, p.1 ≠ n) ∧ e = .returned (.tuple #[.slice none 0 0, .int .i64 4]) ∧ w' = w) ∨
  (∃ bs, (n, bs) ∈ R ∧ ∃ a c, e = .returned (.tuple #[.slice a bs.length c, .int .i64 0]) ∧ Own w' w.heap.size 5 1 a bs.length c (u8L (bs.map Prod.fst)) ∧ Below w.heap.size w w')
set_option maxHeartbeats 2000000 in
theorem read_ref (h : Rm w B d sa sc R V most next first fails) (hseg : ∀ n bs, (n, bs) ∈ R → bs.length ≤ 2048) (n : Int) :
    Calls Try.prog 17 #[.pointer (some ⟨d, 0, none⟩), .int .i64 n] w (RdRP R n w) := by
  have AT := Lib.hid (at_ref h n)
  rcases atR_in R n with ⟨hv, hno⟩ | ⟨k, bs, hv, hk⟩
  · rw [hv] at AT
    have FIN : Hid (RdRP R n w (.returned (.tuple #[.slice none 0 0, .int .i64 4])) w) := Lib.hid (Or.inl ⟨hno, rfl, rfl⟩)
    clear h hno hv hseg
    go_enter Try.func17, Try.ntmps17
    go_wp2_with fail
    refine AT.out.mono ?_
    rintro e w1 ⟨rfl, hw1⟩
    subst w1
    go_wp2
    exact bodyPost_ret (v := .tuple #[.slice none 0 0, .int .i64 4]) (by simp [results, Try.results17, go_sem]) rfl FIN.out
  · rw [hv] at AT
    have hkl := (List.getElem?_eq_some_iff.1 hk).1
    have hmem : (n, bs) ∈ R := List.mem_of_getElem? hk
    have hb2 := hseg n bs hmem
    have hcnt := h.cnt
    obtain ⟨gs, rfl, _⟩ := h.own.some_ (by omega)
    obtain ⟨x0, x1⟩ := two_get (sgL V) (sgL_len V) hk
    have HS1 := Lib.hid (h.own.cell x1)
    have HC1 := Lib.hid (h.box.cell 1)
    have ROW := Lib.hid (h.rows n bs hmem)
    obtain ⟨K, hK⟩ : ∃ K, R.length = K := ⟨_, rfl⟩
    obtain ⟨L, hL⟩ : ∃ L, bs.length = L := ⟨_, rfl⟩
    obtain ⟨A, hA⟩ : ∃ A, (V n).1 = A := ⟨_, rfl⟩
    obtain ⟨C, hC⟩ : ∃ C, (V n).2 = C := ⟨_, rfl⟩
    have CS : Hid (∀ W, Below w.heap.size w W → W.cell? ⟨gs, k * 2 + 1, none⟩ = some (.slice A L C) ∧ W.cell? ⟨d, 1, none⟩ = some (.slice (some ⟨gs, 0, none⟩) K sc) ∧ d < W.heap.size) := Lib.hid (fun W hW => by
      have q1 := HS1.out
      have q2 := HC1.out
      rw [← hA, ← hC, ← hL, ← hK]
      exact ⟨(hW.cell (World.block_lt_of_cell? _ _ q1)).trans q1, (hW.cell h.box.lt).trans q2, Nat.lt_of_lt_of_le h.box.lt hW.size⟩)
    have RW : Hid (∀ W, Below w.heap.size w W → Own W B 57 2 A L C (byC bs)) := Lib.hid (fun W hW => by have h9 := ROW.out.later hW; rw [hA, hC, hL] at h9; exact h9)
    have HL := Lib.hid hL
    have FIN : Hid (∀ a c w', Own w' w.heap.size 5 1 a L c (u8L (bs.map Prod.fst)) → Below w.heap.size w w' → RdRP R n w (.returned (.tuple #[.slice a L c, .int .i64 0])) w') := Lib.hid (fun a c w' h1 h2 => Or.inr ⟨bs, hmem, a, c, by rw [hL], by rw [hL]; exact h1, h2⟩)
    have hk0 : (0 : Int) ≤ (k : Int) := by omega
    have hk1 : (k : Int) < (K : Int) := by omega
    have hkn : ¬ (k : Int) < 0 := by omega
    have hkd : decide ((k : Int) < 0) = false := decide_eq_false hkn
    rw [hL] at hb2
    have O0 := Lib.hid (Own.lit (w := w) (B := w.heap.size) (n := 0) (size := 1) (cs := #[]) (E := 5) (Nat.le_refl _) (by omega) rfl)
    have W0 := Lib.hid ((Below.refl w.heap.size w).alloc (Nat.le_refl _) (.cells #[] 5))
    clear h hv hk hmem hseg x0 x1 HS1 HC1 ROW hA hC hL hK hkl
    go_enter Try.func17, Try.ntmps17
    go_wp2_with fail
    refine AT.out.mono ?_
    rintro e w1 ⟨rfl, hw1⟩
    subst w1
    clear AT
    go_wp2_with fail
    go_loopw [7, 8] (fun vo vk wr => ∃ (j : Nat) (oa : Option Addr) (oc : Nat), j ≤ L ∧ vo = .slice oa j oc ∧ vk = .int .i64 (j : Int) ∧ w.heap.size ≤ wr.heap.size ∧ Hid (Own wr w.heap.size 5 1 oa j oc (u8L ((bs.take j).map Prod.fst)) ∧ Below w.heap.size w wr)) (fun _ vk _ => L - (vI vk).toNat)
    case atStart => exact ⟨0, _, 0, by omega, rfl, rfl, W0.out.size, Lib.hid ⟨O0.out, W0.out⟩⟩
    case round =>
      obtain ⟨j, oa, oc, hj, rfl, rfl, hsz, HO⟩ := hrel
      clear O0 W0
      obtain ⟨wl, rfl⟩ : ∃ W, W = wr := ⟨_, rfl⟩
      obtain ⟨s1, s2, ld⟩ := CS.out wl HO.out.2
      by_cases hlt : j < L
      · have hjd : decide ((j : Int) < (L : Int)) = true := decide_eq_true (by omega)
        obtain ⟨x, hx⟩ : ∃ x, bs[j]? = some x := ⟨_, List.getElem?_eq_getElem (by rw [HL.out]; exact hlt)⟩
        have rw1 := RW.out wl HO.out.2
        obtain ⟨gb, rfl, _⟩ := rw1.some_ (by omega)
        have b0 := rw1.cell ((two_get byL byL_len hx).1.trans rfl)
        have hj0 : (0 : Int) ≤ (j : Int) := by omega
        have hj1 : (j : Int) < (L : Int) := by omega
        have HZ : Hid (u8L ((bs.take j).map Prod.fst) ++ (#[.int .u8 x.1] : Array Value).toList = u8L ((bs.take (j + 1)).map Prod.fst)) := Lib.hid (by rw [List.take_add_one, hx, List.map_append, u8L_app]; rfl)
        have OO := Lib.hid HO.out.1
        have BB := Lib.hid HO.out.2
        clear hx rw1 HO
        obtain ⟨xb, xl⟩ := x
        dsimp only at b0 HZ
        go_wp2_with (at_builtin; refine wpList_app1 rowU8 rfl _ _ rfl w.heap.size oa j oc (u8L ((bs.take j).map Prod.fst)) rfl OO.out #[.int .u8 xb] rfl rfl (by simp [Value.oneCell']) (by omega) (by decide) hsz (j + 1) rfl (u8L ((bs.take (j + 1)).map Prod.fst)) HZ.out ?_; rintro g5 c5 w5 p1 p2 p3 p4; have NX := Lib.hid (And.intro p1 (BB.out.trans p3)); have sz5 := Nat.le_trans hsz p3.size; clear p1 p2 p3 p4 OO BB)
        go_roundw
        case rel => exact ⟨j + 1, some ⟨g5, 0, none⟩, c5, by omega, rfl, by go_num, sz5, NX⟩
        case measure => exact cra_ms L j hlt
      · have hjd : decide ((j : Int) < (L : Int)) = false := decide_eq_false (by omega)
        obtain rfl : j = L := by omega
        have FF := Lib.hid (FIN.out oa oc wl (by have h9 := HO.out.1; rw [List.take_of_length_le (by rw [HL.out]; exact Nat.le_refl _)] at h9; exact h9) HO.out.2)
        clear HO FIN
        go_wp2
        exact bodyPost_ret (v := .tuple #[.slice oa j oc, .int .i64 0]) (by simp [results, Try.results17, go_sem]) rfl FF.out
end
end Go.Proofs.Ytomeipjglnpciaa
