/- The document's disk: Crash. -/
import Derived.Test.YtomeipjglnpciaaDkRap0
namespace Go.Proofs.Ytomeipjglnpciaa
open Go Go.RowKit Go.Maps
set_option linter.unusedVariables false
set_option linter.unusedSimpArgs false
set_option maxRecDepth 10000

theorem rowIn : RowTy Try.prog 39 3 1 8 := ⟨Try.underlying39, ⟨.int .i64 0, by kernel_rfl, rfl⟩, by decide⟩
def iL (l : List Int) : List Value := l.map (.int .i64 ·)
theorem iL_app (a b : List Int) : iL (a ++ b) = iL a ++ iL b := List.map_append
def mkL (bs : Bys) : List Int := (bs.filter fun b => decide (0 ≤ b.2)).map Prod.snd
def mksR (R : Rgs) : List Int := R.flatMap fun p => mkL p.2
theorem mkL_len (bs : Bys) : (mkL bs).length ≤ bs.length := by unfold mkL; rw [List.length_map]; exact List.length_filter_le _ _
theorem mksR_len {R : Rgs} (h : ∀ p ∈ R, p.2.length ≤ 2048) : (mksR R).length ≤ R.length * 2048 := by
  induction R with
  | nil => simp [mksR]
  | cons p t ih =>
    have h1 := h p List.mem_cons_self
    have h2 := mkL_len p.2
    have h3 := ih fun q hq => h q (List.mem_cons_of_mem _ hq)
    unfold mksR at *
    rw [List.flatMap_cons, List.length_append, List.length_cons]
    omega
def cntL (l : List Int) (x : Int) : Nat := (l.filter fun y => decide (y < x)).length
def keepB (M : List Int) (keep : Int) (b : Int × Int) : Bool := decide (b.2 < 0) || decide ((cntL M b.2 : Int) < keep)
def keptL (M : List Int) (keep : Int) (bs : Bys) : Bys := (bs.filter (keepB M keep)).map c1M
def krR (M : List Int) (keep : Int) (p : Int × Bys) : Int × Bys := (p.1, keptL M keep p.2)
def CrI (M : List Int) (keep : Int) (R R' : Rgs) (i : Nat) : Prop := ∀ x, R'[x]? = (R[x]?).map fun p => if x < i then krR M keep p else p
theorem CrI.zero (M : List Int) (keep : Int) (R : Rgs) : CrI M keep R R 0 := fun x => by
  cases R[x]? with
  | none => rfl
  | some p => rw [Option.map_some, if_neg (Nat.not_lt_zero x)]
theorem CrI.len {M : List Int} {keep : Int} {R R' : Rgs} {i : Nat} (h : CrI M keep R R' i) : R'.length = R.length := by
  apply Nat.le_antisymm
  · apply List.getElem?_eq_none_iff.1
    rw [h, List.getElem?_eq_none (Nat.le_refl _)]
    rfl
  · apply List.getElem?_eq_none_iff.1
    have := h R'.length
    rw [List.getElem?_eq_none (Nat.le_refl _)] at this
    cases hq : R[R'.length]? with
    | none => rfl
    | some p => rw [hq] at this; cases this
theorem CrI.at {M : List Int} {keep : Int} {R R' : Rgs} {i : Nat} (h : CrI M keep R R' i) {p : Int × Bys} (hp : R[i]? = some p) : R'[i]? = some p := by
  rw [h i, hp, Option.map_some, if_neg (Nat.lt_irrefl _)]
theorem CrI.step {M : List Int} {keep : Int} {R R' : Rgs} {i : Nat} (h : CrI M keep R R' i) {n : Int} {bs : Bys} (hp : R[i]? = some (n, bs)) : CrI M keep R (R'.set i (n, keptL M keep bs)) (i + 1) := fun x => by
  have hil := (List.getElem?_eq_some_iff.1 (h.at hp)).1
  rw [List.getElem?_set]
  by_cases hx : i = x
  · subst hx
    rw [if_pos rfl, if_pos hil, hp, Option.map_some, if_pos (Nat.lt_succ_self _)]
    rfl
  · rw [if_neg hx, h x]
    cases R[x]? with
    | none => rfl
    | some p =>
      rw [Option.map_some, Option.map_some]
      by_cases h1 : x < i
      · rw [if_pos h1, if_pos (by omega)]
      · rw [if_neg h1, if_neg (by omega)]
theorem CrI.all {M : List Int} {keep : Int} {R R' : Rgs} {i : Nat} (h : CrI M keep R R' i) (hi : R.length ≤ i) : R' = R.map (krR M keep) := by
  refine List.ext_getElem? fun x => ?_
  rw [h x, List.getElem?_map]
  cases hq : R[x]? with
  | none => rfl
  | some p =>
    have := (List.getElem?_eq_some_iff.1 hq).1
    rw [Option.map_some, Option.map_some, if_pos (by omega)]
theorem gb_below {a b : World} (h : Below a.heap.size a b) (row : Option Nat) : a.grownBy b row := ⟨h.os, h.tape, h.output, h.size, fun x hx _ => h.block x hx⟩
theorem mksR_take {R : Rgs} {i : Nat} {n : Int} {bs : Bys} (h : R[i]? = some (n, bs)) : mksR (R.take (i + 1)) = mksR (R.take i) ++ mkL bs := by
  rw [List.take_add_one, h]
  unfold mksR
  rw [List.flatMap_append]
  simp
theorem mkL_take_yes {bs : Bys} {k : Nat} {b : Int × Int} (h : bs[k]? = some b) (h0 : 0 ≤ b.2) : mkL (bs.take (k + 1)) = mkL (bs.take k) ++ [b.2] := by
  rw [List.take_add_one, h]
  unfold mkL
  rw [List.filter_append, List.map_append]
  simp [h0]
theorem mkL_take_no {bs : Bys} {k : Nat} {b : Int × Int} (h : bs[k]? = some b) (h0 : ¬ 0 ≤ b.2) : mkL (bs.take (k + 1)) = mkL (bs.take k) := by
  rw [List.take_add_one, h]
  unfold mkL
  rw [List.filter_append, List.map_append]
  simp [h0]
theorem keptL_yes {M : List Int} {keep : Int} {bs : Bys} {k : Nat} {b : Int × Int} (h : bs[k]? = some b) (h0 : keepB M keep b = true) : keptL M keep (bs.take (k + 1)) = keptL M keep (bs.take k) ++ [(b.1, -1)] := by
  rw [List.take_add_one, h]
  unfold keptL
  rw [List.filter_append, List.map_append]
  simp [h0, c1M]
theorem keptL_no {M : List Int} {keep : Int} {bs : Bys} {k : Nat} {b : Int × Int} (h : bs[k]? = some b) (h0 : keepB M keep b = false) : keptL M keep (bs.take (k + 1)) = keptL M keep (bs.take k) := by
  rw [List.take_add_one, h]
  unfold keptL
  rw [List.filter_append, List.map_append]
  simp [h0]
theorem keptL_len (M : List Int) (keep : Int) (bs : Bys) : (keptL M keep bs).length ≤ bs.length := by unfold keptL; rw [List.length_map]; exact List.length_filter_le _ _
theorem cntL_yes {M : List Int} {j : Nat} {y x : Int} (h : M[j]? = some y) (h0 : y < x) : cntL (M.take (j + 1)) x = cntL (M.take j) x + 1 := by
  rw [List.take_add_one, h]
  unfold cntL
  rw [List.filter_append, List.length_append]
  simp [h0]
theorem cntL_no {M : List Int} {j : Nat} {y x : Int} (h : M[j]? = some y) (h0 : ¬ y < x) : cntL (M.take (j + 1)) x = cntL (M.take j) x := by
  rw [List.take_add_one, h]
  unfold cntL
  rw [List.filter_append, List.length_append]
  simp [h0]
theorem cntL_le (M : List Int) (x : Int) : cntL M x ≤ M.length := List.length_filter_le _ _
section
variable {w : World} {B d sc : Nat} {sa : Option Addr} {R : Rgs} {V : VF} {most next first fails : Int}
def CrRP (B d : Nat) (sa : Option Addr) (sc : Nat) (R : Rgs) (V : VF) (most next keep : Int) (w : World) (e : Ending) (w' : World) : Prop :=
  e = .returned (.tuple #[]) ∧ ∃ V', Rm w' B d sa sc (R.map (krR (mksR R) keep)) V' most next 0 0 ∧ TurnR d sa R V w sa (R.map (krR (mksR R) keep)) V' w'
set_option maxHeartbeats 16000000 in
theorem crash_ref (h : Rm w B d sa sc R V most next first fails) (hB : B ≤ w.heap.size) (hseg : ∀ n bs, (n, bs) ∈ R → bs.length ≤ 2048) (keep : Int) :
    Calls Try.prog 14 #[.pointer (some ⟨d, 0, none⟩), .int .i64 keep] w (CrRP B d sa sc R V most next keep w) := by
  have H := Lib.hid h
  have HSEG := Lib.hid hseg
  have hcnt := h.cnt
  obtain ⟨K, hK⟩ : ∃ K, R.length = K := ⟨_, rfl⟩
  have HK := Lib.hid hK
  rw [hK] at hcnt
  have O0 := Lib.hid (Own.lit (w := w) (B := w.heap.size) (n := 0) (size := 1) (cs := #[]) (E := 3) (Nat.le_refl _) (by omega) rfl)
  have W0 := Lib.hid ((Below.refl w.heap.size w).alloc (Nat.le_refl _) (.cells #[] 3))
  have CS : Hid (∀ W, Below w.heap.size w W → W.cell? ⟨d, 1, none⟩ = some (.slice sa K sc) ∧ d < W.heap.size) := Lib.hid (fun W hW => by
    have h9 := (H.out.later hW).box
    have h8 := h9.cell 1
    rw [HK.out] at h8
    exact ⟨h8, h9.lt⟩)
  have SEG : Hid (∀ i n bs, R[i]? = some (n, bs) → ∃ gs, sa = some ⟨gs, 0, none⟩ ∧ bs.length ≤ 2048 ∧ ∀ W, Below w.heap.size w W → W.cell? ⟨gs, i * 2 + 1, none⟩ = some (.slice (V n).1 bs.length (V n).2) ∧ Own W B 57 2 (V n).1 bs.length (V n).2 (byC bs)) := Lib.hid (fun i n bs hi => by
    have hil := (List.getElem?_eq_some_iff.1 hi).1
    obtain ⟨gs, e, _⟩ := H.out.own.some_ (by omega)
    refine ⟨gs, e, HSEG.out n bs (List.mem_of_getElem? hi), fun W hW => ?_⟩
    have h9 := (H.out.later hW).own
    rw [e] at h9
    exact ⟨h9.cell ((two_get (sgL V) (sgL_len V) hi).2.trans rfl), (H.out.later hW).rows n bs (List.mem_of_getElem? hi)⟩)
  have MLEN : Hid (∀ i, i ≤ K → (mksR (R.take i)).length ≤ i * 2048) := Lib.hid (fun i hi => by
    have h1 := mksR_len (R := R.take i) (fun p hp => HSEG.out p.1 p.2 (List.mem_of_mem_take hp))
    rw [List.length_take, HK.out, Nat.min_eq_left hi] at h1
    exact h1)
  clear h hseg hK
  go_enter Try.func14, Try.ntmps14
  go_wp2_with fail
  go_loopw [4, 5] (fun vm vi wr => ∃ (i q : Nat) (ma : Option Addr) (mc : Nat), i ≤ K ∧ vm = .slice ma q mc ∧ vi = .int .i64 (i : Int) ∧ w.heap.size ≤ wr.heap.size ∧ Hid ((mksR (R.take i)).length = q ∧ Own wr w.heap.size 3 1 ma q mc (iL (mksR (R.take i))) ∧ Below w.heap.size w wr)) (fun _ vi _ => K - (vI vi).toNat)
  case atStart => exact ⟨0, 0, _, 0, by omega, rfl, rfl, W0.out.size, Lib.hid ⟨rfl, O0.out, W0.out⟩⟩
  case round =>
    obtain ⟨i, q, ma, mc, hi, rfl, rfl, hsz, HO⟩ := hrel
    clear O0 W0
    obtain ⟨wl, rfl⟩ : ∃ W, W = wr := ⟨_, rfl⟩
    obtain ⟨c1, ld⟩ := CS.out wl HO.out.2.2
    by_cases hlt : i < K
    · have hid' : decide ((i : Int) < (K : Int)) = true := decide_eq_true (by omega)
      obtain ⟨p, hp⟩ : ∃ p, R[i]? = some p := ⟨_, List.getElem?_eq_getElem (by rw [HK.out]; exact hlt)⟩
      obtain ⟨n, bs⟩ := p
      obtain ⟨gs, rfl, hb2, hrow⟩ := SEG.out i n bs hp
      have HROW := Lib.hid hrow
      have HMT : Hid (mksR (R.take (i + 1)) = mksR (R.take i) ++ mkL bs) := Lib.hid (mksR_take hp)
      obtain ⟨L, hL⟩ : ∃ L, bs.length = L := ⟨_, rfl⟩
      obtain ⟨A, hA⟩ : ∃ A, (V n).1 = A := ⟨_, rfl⟩
      obtain ⟨C, hC⟩ : ∃ C, (V n).2 = C := ⟨_, rfl⟩
      have HLL := Lib.hid hL
      rw [hA, hC, hL] at HROW
      rw [hL] at hb2
      have ML := MLEN.out i hi
      obtain ⟨M0, hM0⟩ : ∃ M, mksR (R.take i) = M := ⟨_, rfl⟩
      rw [hM0] at ML HO HMT
      have hi0 : (0 : Int) ≤ (i : Int) := by omega
      have hi1 : (i : Int) < (K : Int) := by omega
      clear hp hrow hL hA hC hM0
      have I0 : Hid ((M0 ++ mkL (bs.take 0)).length = q ∧ Own wl w.heap.size 3 1 ma q mc (iL (M0 ++ mkL (bs.take 0))) ∧ Below w.heap.size w wl) := Lib.hid (by
        have e : M0 ++ mkL (bs.take 0) = M0 := by simp [mkL]
        rw [e]; exact HO.out)
      clear HO
      go_wp2_with fail
      go_loopw [4, 6] (fun vm vk wr => ∃ (k q : Nat) (ma : Option Addr) (mc : Nat), k ≤ L ∧ vm = .slice ma q mc ∧ vk = .int .i64 (k : Int) ∧ w.heap.size ≤ wr.heap.size ∧ Hid ((M0 ++ mkL (bs.take k)).length = q ∧ Own wr w.heap.size 3 1 ma q mc (iL (M0 ++ mkL (bs.take k))) ∧ Below w.heap.size w wr)) (fun _ vk _ => L - (vI vk).toNat)
      case atStart => exact ⟨0, q, ma, mc, by omega, rfl, rfl, hsz, I0⟩
      case round =>
        obtain ⟨k, q, ma, mc, hk, rfl, rfl, hsz, HO⟩ := hrel
        clear I0 c1 ld
        obtain ⟨wl, rfl⟩ : ∃ W, W = wr := ⟨_, rfl⟩
        obtain ⟨c1, ld⟩ := CS.out wl HO.out.2.2
        obtain ⟨x1, rw1⟩ := HROW.out wl HO.out.2.2
        by_cases hkl : k < L
        · have hkd : decide ((k : Int) < (L : Int)) = true := decide_eq_true (by omega)
          obtain ⟨b, hb⟩ : ∃ b, bs[k]? = some b := ⟨_, List.getElem?_eq_getElem (by rw [HLL.out]; exact hkl)⟩
          obtain ⟨gb, rfl, _⟩ := rw1.some_ (by omega)
          have b1 := rw1.cell ((two_get byL byL_len hb).2.trans rfl)
          have hk0 : (0 : Int) ≤ (k : Int) := by omega
          have hk1 : (k : Int) < (L : Int) := by omega
          have hq2 : q ≤ 100000 := by
            have h1 := HO.out.1
            have h2 := mkL_len (bs.take k)
            rw [List.length_append] at h1
            rw [List.length_take] at h2
            omega
          by_cases h0 : 0 ≤ b.2
          · have h0d : decide (0 ≤ b.2) = true := decide_eq_true h0
            have HZ : Hid (iL (M0 ++ mkL (bs.take k)) ++ (#[.int .i64 b.2] : Array Value).toList = iL (M0 ++ mkL (bs.take (k + 1)))) := Lib.hid (by rw [mkL_take_yes hb h0, ← List.append_assoc, iL_app _ [b.2]]; rfl)
            have HZ2 : Hid ((M0 ++ mkL (bs.take (k + 1))).length = q + 1) := Lib.hid (by rw [mkL_take_yes hb h0, ← List.append_assoc, List.length_append, HO.out.1]; rfl)
            have OO := Lib.hid HO.out.2.1
            have BB := Lib.hid HO.out.2.2
            clear hb rw1 HO
            obtain ⟨bb, bl⟩ := b
            dsimp only at b1 HZ h0 h0d
            go_wp2_with (at_builtin; refine wpList_app1 rowIn rfl _ _ rfl w.heap.size ma q mc (iL (M0 ++ mkL (bs.take k))) rfl OO.out #[.int .i64 bl] rfl rfl (by simp [Value.oneCell']) (by omega) (by decide) hsz (q + 1) rfl (iL (M0 ++ mkL (bs.take (k + 1)))) HZ.out ?_; rintro g5 c5 w5 p1 p2 p3 p4; have NX := Lib.hid (And.intro HZ2.out (And.intro p1 (BB.out.trans p3))); have sz5 := Nat.le_trans hsz p3.size; clear p1 p2 p3 p4 OO BB)
            go_roundw
            case rel => exact ⟨k + 1, q + 1, some ⟨g5, 0, none⟩, c5, by omega, rfl, by go_num, sz5, NX⟩
            case measure => exact cra_ms L k hkl
          · have h0d : decide (0 ≤ b.2) = false := decide_eq_false h0
            have NX : Hid ((M0 ++ mkL (bs.take (k + 1))).length = q ∧ Own wl w.heap.size 3 1 ma q mc (iL (M0 ++ mkL (bs.take (k + 1)))) ∧ Below w.heap.size w wl) := Lib.hid (by rw [mkL_take_no hb h0]; exact HO.out)
            clear hb rw1 HO
            obtain ⟨bb, bl⟩ := b
            dsimp only at b1 h0 h0d
            go_wp2
            go_roundw
            case rel => exact ⟨k + 1, q, ma, mc, by omega, rfl, by go_num, hsz, NX⟩
            case measure => exact cra_ms L k hkl
        · have hkd : decide ((k : Int) < (L : Int)) = false := decide_eq_false (by omega)
          have NX : Hid ((mksR (R.take (i + 1))).length = q ∧ Own wl w.heap.size 3 1 ma q mc (iL (mksR (R.take (i + 1)))) ∧ Below w.heap.size w wl) := Lib.hid (by
            have e : bs.take k = bs := List.take_of_length_le (by rw [HLL.out]; omega)
            have h9 := HO.out
            rw [e, ← HMT.out] at h9
            exact h9)
          clear HO rw1
          go_wp2
          go_roundw
          case rel => exact ⟨i + 1, q, ma, mc, by omega, rfl, by go_num, hsz, NX⟩
          case measure => exact cra_ms K i hlt
    · have hid' : decide ((i : Int) < (K : Int)) = false := decide_eq_false (by omega)
      obtain rfl : i = K := by omega
      obtain ⟨M, hM⟩ : ∃ M, mksR R = M := ⟨_, rfl⟩
      have hall : R.take i = R := List.take_of_length_le (by rw [HK.out]; exact Nat.le_refl _)
      have ML := MLEN.out i (Nat.le_refl _)
      rw [hall, hM] at HO ML
      have OM := Lib.hid HO.out.2.1
      have HQ := Lib.hid HO.out.1
      have hq2 : q ≤ 100000 := by have := HQ.out; omega
      have I0 : Hid (CrI M keep R R 0 ∧ Rm wl B d sa sc R V most next first fails ∧ TurnR d sa R V w sa R V wl ∧ Own wl w.heap.size 3 1 ma q mc (iL M)) := Lib.hid ⟨CrI.zero M keep R, H.out.later HO.out.2.2, TurnR.refl HO.out.2.2, HO.out.2.1⟩
      have FIN : Hid (∀ R' V' W, CrI M keep R R' i → Rm W B d sa sc R' V' most next 0 0 → TurnR d sa R V w sa R' V' W → CrRP B d sa sc R V most next keep w (.returned (.tuple #[])) W) := Lib.hid (fun R' V' W h1 h2 h3 => by
        have e := h1.all (by rw [HK.out]; exact Nat.le_refl _)
        subst e
        rw [← hM] at h2 h3
        exact ⟨rfl, V', h2, h3⟩)
      have HSEG2 := HSEG
      clear HO hM hall MLEN SEG CS H HSEG OM
      go_wp2_with fail
      go_loopw [7] (fun vi wr => ∃ (s : Nat) (R' : Rgs) (V2 : VF), s ≤ i ∧ vi = .int .i64 (s : Int) ∧ Hid (CrI M keep R R' s ∧ Rm wr B d sa sc R' V2 most next first fails ∧ TurnR d sa R V w sa R' V2 wr ∧ Own wr w.heap.size 3 1 ma q mc (iL M))) (fun vi _ => i - (vI vi).toNat)
      case atStart => exact ⟨0, R, V, by omega, rfl, I0⟩
      case round =>
        obtain ⟨s, R', V2, hs, rfl, HO⟩ := hrel
        clear I0 c1 ld
        obtain ⟨wl, rfl⟩ : ∃ W, W = wr := ⟨_, rfl⟩
        have hRl : R'.length = i := HO.out.1.len.trans HK.out
        have c1 := HO.out.2.1.box.cell 1
        have ld := HO.out.2.1.box.lt
        rw [hRl] at c1
        by_cases hlt : s < i
        · have hid' : decide ((s : Int) < (i : Int)) = true := decide_eq_true (by omega)
          obtain ⟨p, hp⟩ : ∃ p, R[s]? = some p := ⟨_, List.getElem?_eq_getElem (by rw [HK.out]; exact hlt)⟩
          obtain ⟨n, bs⟩ := p
          have hp' := HO.out.1.at hp
          obtain ⟨gs, hgs, _⟩ := HO.out.2.1.own.some_ (by omega)
          subst hgs
          have hb2 := HSEG2.out n bs (List.mem_of_getElem? hp)
          obtain ⟨L, hL⟩ : ∃ L, bs.length = L := ⟨_, rfl⟩
          obtain ⟨A, hA⟩ : ∃ A, (V2 n).1 = A := ⟨_, rfl⟩
          obtain ⟨C, hC⟩ : ∃ C, (V2 n).2 = C := ⟨_, rfl⟩
          have HLL := Lib.hid hL
          rw [hL] at hb2
          have CS : Hid (∀ W, Below wl.heap.size wl W → W.cell? ⟨gs, s * 2 + 1, none⟩ = some (.slice A L C) ∧ Own W B 57 2 A L C (byC bs) ∧ W.cell? ⟨d, 1, none⟩ = some (.slice (some ⟨gs, 0, none⟩) i sc) ∧ d < W.heap.size ∧ Own W w.heap.size 3 1 ma q mc (iL M) ∧ W.frozen? ⟨gs, s * 2 + 1, none⟩ = false ∧ gs < W.heap.size) := Lib.hid (fun W hW => by
            have h1 := HO.out.2.1.later hW
            have h2 := h1.own.cell ((two_get (sgL V2) (sgL_len V2) hp').2.trans rfl)
            have h3 := h1.rows n bs (List.mem_of_getElem? hp')
            have h4 := h1.box.cell 1
            rw [hA, hC, hL] at h2 h3
            rw [hRl] at h4
            exact ⟨h2, h3, h4, h1.box.lt, HO.out.2.2.2.later hW, h1.own.free _, h1.own.lt.2⟩)
          have END : Hid (∀ W la n2 lc, Below wl.heap.size wl W → Own W wl.heap.size 57 2 la n2 lc (byC (keptL M keep bs)) → (keptL M keep bs).length = n2 → CrI M keep R (R'.set s (n, keptL M keep bs)) (s + 1) ∧ Rm (W.setCell ⟨gs, s * 2 + 1, none⟩ (.slice la n2 lc)) B d (some ⟨gs, 0, none⟩) sc (R'.set s (n, keptL M keep bs)) (setV V2 n la lc) most next first fails ∧ TurnR d (some ⟨gs, 0, none⟩) R V w (some ⟨gs, 0, none⟩) (R'.set s (n, keptL M keep bs)) (setV V2 n la lc) (W.setCell ⟨gs, s * 2 + 1, none⟩ (.slice la n2 lc)) ∧ Own (W.setCell ⟨gs, s * 2 + 1, none⟩ (.slice la n2 lc)) w.heap.size 3 1 ma q mc (iL M)) := Lib.hid (fun W la n2 lc hW ho hn => by
            have hBl : B ≤ wl.heap.size := Nat.le_trans hB HO.out.2.2.1.1.size
            have k0 := HO.out.2.1.putby hp' hn (ho.mono hBl) (gb_below hW _) (fun g e => Or.inr (own_lt ho e).2)
            refine ⟨HO.out.1.step hp, k0.1, HO.out.2.2.1.trans k0.2, ?_⟩
            exact (HO.out.2.2.2.later hW).other (fun g e1 e2 => by
              have e3 : g = gs := e2
              subst e3
              exact own_apart (HO.out.2.1.own.later hW) (HO.out.2.2.2.later hW) rfl e1 (by decide)) _)
          have O0 := Lib.hid (Own.lit (w := wl) (B := wl.heap.size) (n := 0) (size := 2) (cs := #[]) (E := 57) (Nat.le_refl _) (by omega) rfl)
          have W0 := Lib.hid ((Below.refl wl.heap.size wl).alloc (Nat.le_refl _) (.cells #[] 57))
          have hi0 : (0 : Int) ≤ (s : Int) := by omega
          have hi1 : (s : Int) < (i : Int) := by omega
          clear hp hp' hL hA hC HO hRl
          go_wp2_with fail
          go_loopw [8, 9] (fun vl vk wr => ∃ (k n2 : Nat) (la : Option Addr) (lc : Nat), k ≤ L ∧ vl = .slice la n2 lc ∧ vk = .int .i64 (k : Int) ∧ wl.heap.size ≤ wr.heap.size ∧ Hid ((keptL M keep (bs.take k)).length = n2 ∧ Own wr wl.heap.size 57 2 la n2 lc (byC (keptL M keep (bs.take k))) ∧ Below wl.heap.size wl wr)) (fun _ vk _ => L - (vI vk).toNat)
          case atStart => exact ⟨0, 0, _, 0, by omega, rfl, rfl, W0.out.size, Lib.hid ⟨rfl, O0.out, W0.out⟩⟩
          case round =>
            obtain ⟨k, n2, la, lc, hk, rfl, rfl, hsz2, HJ⟩ := hrel
            clear O0 W0 c1 ld
            obtain ⟨wk, rfl⟩ : ∃ W, W = wr := ⟨_, rfl⟩
            obtain ⟨x1, rw1, c1, ld, _⟩ := CS.out wk HJ.out.2.2
            have hn2 : n2 ≤ 2048 := by
              have h1 := HJ.out.1
              have h2 := keptL_len M keep (bs.take k)
              rw [List.length_take] at h2
              omega
            by_cases hkl : k < L
            · have hkd : decide ((k : Int) < (L : Int)) = true := decide_eq_true (by omega)
              obtain ⟨b, hb⟩ : ∃ b, bs[k]? = some b := ⟨_, List.getElem?_eq_getElem (by rw [HLL.out]; exact hkl)⟩
              obtain ⟨gb, rfl, _⟩ := rw1.some_ (by omega)
              have b0 := rw1.cell ((two_get byL byL_len hb).1.trans rfl)
              have b1 := rw1.cell ((two_get byL byL_len hb).2.trans rfl)
              have hk0 : (0 : Int) ≤ (k : Int) := by omega
              have hk1 : (k : Int) < (L : Int) := by omega
              have HB := Lib.hid hb
              obtain ⟨bb, bl⟩ := b
              dsimp only at b0 b1
              have BNA := Lib.hid (Box.new wk #[.int .u8 bb, .int .i64 bl] 57)
              have BA' := Lib.hid ((Below.refl wk.heap.size wk).alloc (Nat.le_refl _) (.cells #[.int .u8 bb, .int .i64 bl] 57))
              go_upto_region 17 with fail
              obtain ⟨wa, hwa⟩ : ∃ W, wk.alloc (.cells #[.int .u8 bb, .int .i64 bl] 57) = W := ⟨_, rfl⟩
              obtain ⟨ab, hab⟩ : ∃ B, wk.heap.size = B := ⟨_, rfl⟩
              have BXA : Hid (Box wa ab #[.int .u8 bb, .int .i64 bl] 57) := Lib.hid (by have h9 := BNA.out; rw [hwa, hab] at h9; exact h9)
              have BA1 : Hid (Below wk.heap.size wk wa) := Lib.hid (by have h9 := BA'.out; rw [hwa] at h9; exact h9)
              have OL := Lib.hid (HJ.out.2.1.later BA1.out)
              have BA := Lib.hid (HJ.out.2.2.trans (BA1.out.mono hsz2))
              have HN2 := Lib.hid HJ.out.1
              rw [hwa, hab]
              clear hwa hab BNA BA' BA1 HJ hb rw1 b0 b1 x1 c1 ld
              have a1 := BXA.out.cell 1
              have la1 := BXA.out.lt
              by_cases h0 : 0 ≤ bl
              · have h0d : decide (0 ≤ bl) = true := decide_eq_true h0
                obtain ⟨_, _, _, _, om, _⟩ := CS.out wa BA.out
                have OMS := Lib.hid om
                clear om
                go_wp2_with fail
                go_loopw [11, 12] (fun va vj wr => ∃ j : Nat, j ≤ q ∧ va = .int .i64 (cntL (M.take j) bl : Int) ∧ vj = .int .i64 (j : Int) ∧ Hid (Below wa.heap.size wa wr)) (fun _ vj _ => q - (vI vj).toNat)
                case atStart => exact ⟨0, by omega, rfl, rfl, Lib.hid (Below.refl _ _)⟩
                case round =>
                  obtain ⟨j, hj, rfl, rfl, HW⟩ := hrel
                  clear a1 la1
                  obtain ⟨wv, rfl⟩ : ∃ W, W = wr := ⟨_, rfl⟩
                  have hcl : cntL (M.take j) bl ≤ 100000 := by
                    have h9 := cntL_le (M.take j) bl
                    rw [List.length_take, HQ.out] at h9
                    omega
                  by_cases hjq : j < q
                  · have hjd : decide ((j : Int) < (q : Int)) = true := decide_eq_true (by omega)
                    obtain ⟨y, hy⟩ : ∃ y, M[j]? = some y := ⟨_, List.getElem?_eq_getElem (by rw [HQ.out]; exact hjq)⟩
                    have om2 := OMS.out.later HW.out
                    obtain ⟨gm, rfl, _⟩ := om2.some_ (by omega)
                    have y0 := om2.cell (j := j) (u := .int .i64 y) (by unfold iL; rw [List.getElem?_map, hy]; rfl)
                    have a1 := (BXA.out.later HW.out).cell 1
                    have la1 := (BXA.out.later HW.out).lt
                    have hj0 : (0 : Int) ≤ (j : Int) := by omega
                    have hj1 : (j : Int) < (q : Int) := by omega
                    by_cases hyl : y < bl
                    · have hyd : decide (y < bl) = true := decide_eq_true hyl
                      have HC : Hid (cntL (M.take (j + 1)) bl = cntL (M.take j) bl + 1) := Lib.hid (cntL_yes hy hyl)
                      obtain ⟨z, hz⟩ : ∃ z, cntL (M.take j) bl = z := ⟨_, rfl⟩
                      rw [hz] at HC hcl
                      clear hy om2
                      rw [hz]
                      clear hz
                      go_upto_region 22 with fail
                      go_quiet (fail)
                      have HW2 := Lib.hid (dk_drewN HW.out nq)
                      clear HW y0 a1 la1
                      go_wp2
                      go_roundw
                      case rel => exact ⟨j + 1, by omega, by rw [HC.out]; go_num, by go_num, HW2⟩
                      case measure => exact cra_ms q j hjq
                    · have hyd : decide (y < bl) = false := decide_eq_false hyl
                      have HC : Hid (cntL (M.take (j + 1)) bl = cntL (M.take j) bl) := Lib.hid (cntL_no hy hyl)
                      clear hy om2
                      go_upto_region 22 with fail
                      go_quiet (fail)
                      have HW2 := Lib.hid (dk_drewN HW.out nq)
                      clear HW y0 a1 la1
                      go_wp2
                      go_roundw
                      case rel => exact ⟨j + 1, by omega, by rw [HC.out], by go_num, HW2⟩
                      case measure => exact cra_ms q j hjq
                  · have hjd : decide ((j : Int) < (q : Int)) = false := decide_eq_false (by omega)
                    have hMt : M.take j = M := List.take_of_length_le (by rw [HQ.out]; omega)
                    rw [hMt] at hcl ⊢
                    have BV := HW
                    clear HW
                    by_cases hke : keep ≤ (cntL M bl : Int)
                    · have hkd2 : decide (keep ≤ (cntL M bl : Int)) = true := decide_eq_true hke
                      have hkb : keepB M keep (bb, bl) = false := by
                        unfold keepB
                        rw [decide_eq_false (show ¬ (bb, bl).2 < 0 by show ¬ bl < 0; omega), decide_eq_false (show ¬ (cntL M (bb, bl).2 : Int) < keep by show ¬ (cntL M bl : Int) < keep; omega)]
                        rfl
                      have NX : Hid ((keptL M keep (bs.take (k + 1))).length = n2 ∧ Own wv wl.heap.size 57 2 la n2 lc (byC (keptL M keep (bs.take (k + 1)))) ∧ Below wl.heap.size wl wv) := Lib.hid (by
                        rw [keptL_no HB.out hkb]
                        exact ⟨HN2.out, OL.out.later BV.out, BA.out.trans (BV.out.mono BA.out.size)⟩)
                      have sz5 := NX.out.2.2.size
                      clear OL BV BA BXA
                      go_wp2
                      go_roundw
                      case rel => exact ⟨k + 1, n2, la, lc, by omega, rfl, by go_num, sz5, NX⟩
                      case measure => exact cra_ms L k hkl
                    · have hkd2 : decide (keep ≤ (cntL M bl : Int)) = false := decide_eq_false hke
                      have hkb : keepB M keep (bb, bl) = true := by
                        unfold keepB
                        rw [decide_eq_true (show (cntL M (bb, bl).2 : Int) < keep by show (cntL M bl : Int) < keep; omega), Bool.or_true]
                      have HZ : Hid (byC (keptL M keep (bs.take k)) ++ (#[.int .u8 bb, .int .i64 (-1)] : Array Value).toList = byC (keptL M keep (bs.take (k + 1)))) := Lib.hid (by rw [keptL_yes HB.out hkb, ← byC_snoc]; rfl)
                      have HZ2 : Hid ((keptL M keep (bs.take (k + 1))).length = n2 + 1) := Lib.hid (by rw [keptL_yes HB.out hkb, List.length_append, HN2.out]; rfl)
                      have d0 := (BXA.out.later BV.out).cell 0
                      have dl := (BXA.out.later BV.out).lt
                      have OO := Lib.hid (OL.out.later BV.out)
                      have BB := Lib.hid (BA.out.trans (BV.out.mono BA.out.size))
                      have hszv : wl.heap.size ≤ wv.heap.size := BB.out.size
                      clear BV BXA OL BA
                      go_wp2_with (at_builtin; refine wpList_app1 rowBy rfl _ _ rfl wl.heap.size la n2 lc (byC (keptL M keep (bs.take k))) rfl OO.out #[.int .u8 bb, .int .i64 (-1)] rfl rfl (by simp [Value.oneCell']) (by omega) (by decide) hszv (n2 + 1) rfl (byC (keptL M keep (bs.take (k + 1)))) HZ.out ?_; rintro g5 c5 w5 p1 p2 p3 p4; have NX := Lib.hid (And.intro HZ2.out (And.intro p1 (BB.out.trans p3))); have sz5 := Nat.le_trans hszv p3.size; clear p1 p2 p3 p4 OO BB)
                      go_roundw
                      case rel => exact ⟨k + 1, n2 + 1, some ⟨g5, 0, none⟩, c5, by omega, rfl, by go_num, sz5, NX⟩
                      case measure => exact cra_ms L k hkl
              · have h0d : decide (0 ≤ bl) = false := decide_eq_false h0
                have hkb : keepB M keep (bb, bl) = true := by
                  unfold keepB
                  rw [decide_eq_true (show (bb, bl).2 < 0 by show bl < 0; omega), Bool.true_or]
                have HZ : Hid (byC (keptL M keep (bs.take k)) ++ (#[.int .u8 bb, .int .i64 (-1)] : Array Value).toList = byC (keptL M keep (bs.take (k + 1)))) := Lib.hid (by rw [keptL_yes HB.out hkb, ← byC_snoc]; rfl)
                have HZ2 : Hid ((keptL M keep (bs.take (k + 1))).length = n2 + 1) := Lib.hid (by rw [keptL_yes HB.out hkb, List.length_append, HN2.out]; rfl)
                obtain ⟨wv, hwv⟩ : ∃ W, wa = W := ⟨_, rfl⟩
                have BV : Hid (Below wa.heap.size wa wv) := Lib.hid (by rw [← hwv]; exact Below.refl _ _)
                rw [hwv] at a1 la1 ⊢
                have d0 := (BXA.out.later BV.out).cell 0
                have dl := (BXA.out.later BV.out).lt
                have OO := Lib.hid (OL.out.later BV.out)
                have BB := Lib.hid (BA.out.trans (BV.out.mono BA.out.size))
                have hszv : wl.heap.size ≤ wv.heap.size := BB.out.size
                clear BV BXA OL BA hwv
                go_wp2_with (at_builtin; refine wpList_app1 rowBy rfl _ _ rfl wl.heap.size la n2 lc (byC (keptL M keep (bs.take k))) rfl OO.out #[.int .u8 bb, .int .i64 (-1)] rfl rfl (by simp [Value.oneCell']) (by omega) (by decide) hszv (n2 + 1) rfl (byC (keptL M keep (bs.take (k + 1)))) HZ.out ?_; rintro g5 c5 w5 p1 p2 p3 p4; have NX := Lib.hid (And.intro HZ2.out (And.intro p1 (BB.out.trans p3))); have sz5 := Nat.le_trans hszv p3.size; clear p1 p2 p3 p4 OO BB)
                go_roundw
                case rel => exact ⟨k + 1, n2 + 1, some ⟨g5, 0, none⟩, c5, by omega, rfl, by go_num, sz5, NX⟩
                case measure => exact cra_ms L k hkl
            · have hkd : decide ((k : Int) < (L : Int)) = false := decide_eq_false (by omega)
              have e9 : bs.take k = bs := List.take_of_length_le (by rw [HLL.out]; omega)
              rw [e9] at HJ
              have NX := Lib.hid (END.out wk la n2 lc HJ.out.2.2 HJ.out.2.1 HJ.out.1)
              obtain ⟨_, _, _, _, _, fz, gl⟩ := CS.out wk HJ.out.2.2
              clear HJ rw1
              go_wp2
              go_roundw
              case rel => exact ⟨s + 1, _, _, by omega, by go_num, NX⟩
              case measure => exact cra_ms i s hlt
        · have hid' : decide ((s : Int) < (i : Int)) = false := decide_eq_false (by omega)
          obtain rfl : s = i := by omega
          have FF : Hid (CrRP B d sa sc R V most next keep w (.returned (.tuple #[])) ((wl.setCell ⟨d, 3, none⟩ (.int .i64 0)).setCell ⟨d, 4, none⟩ (.int .i64 0))) := Lib.hid (by
            have k0 := HO.out.2.1.cells (w' := (wl.setCell ⟨d, 3, none⟩ (.int .i64 0)).setCell ⟨d, 4, none⟩ (.int .i64 0)) (next' := next) (first' := 0) (fails' := 0) ((HO.out.2.1.box.set 3 _).set 4 _) (((Only.refl (fun y => y = d) _).setCell (Or.inl rfl) _).setCell (Or.inl rfl) _) (by omega) (by omega) (by omega) (by omega)
            exact FIN.out R' V2 _ HO.out.1 k0.1 (HO.out.2.2.1.trans k0.2))
          have c3 := HO.out.2.1.box.cell 3
          have c4 := HO.out.2.1.box.cell 4
          have f3 := HO.out.2.1.box.free 3
          have f4 := HO.out.2.1.box.free 4
          have g4 : (wl.setCell ⟨d, 3, none⟩ (.int .i64 0)).frozen? ⟨d, 4, none⟩ = false := (HO.out.2.1.box.set 3 _).free 4
          clear HO FIN
          go_wp2
          exact bodyPost_end (v := .tuple #[]) (by simp [results, Try.results14, go_sem]) rfl FF.out
end
end Go.Proofs.Ytomeipjglnpciaa
