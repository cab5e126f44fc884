/- Package disk: Crash. -/
import Derived.Test.YtomeipjglnpciaaDkApp
namespace Go.Proofs.Ytomeipjglnpciaa
open Go Go.RowKit Go.Maps
set_option linter.unusedVariables false
set_option linter.unusedSimpArgs false
set_option maxRecDepth 10000

def vI : Value → Int
  | .int _ x => x
  | _ => 0
theorem cra_ms (mk i4 : Nat) (h : i4 < mk) : mk - ((i4 : Int) + 1).toNat < mk - ((i4 : Int)).toNat := by omega
/-- What stands between two pieces. -/
structure CrS (w wr : World) (B d bm : Nat) (S : Sgs) (V : VF) (ua : Option Addr) (uc : Nat) (un : Pcs) (most beh fal k : Int) (i : Nat) (ki : Int) (Si : Sgs) (Vi : VF) : Prop where
  box : Box wr d #[.int .i64 most, .map (some bm), .slice ua un.length uc, .int .i64 beh, .int .i64 fal] 51
  mp : Mp wr B bm Si Vi none
  own : Own wr B 54 2 ua un.length uc (pcC un)
  unok : UN Si (un.drop i)
  eq : crash ki Si (un.drop i) = crash k S un
  turn : TurnD d bm S V ua w Si Vi ua wr
  cnt : Si.length ≤ 16
  seg : ∀ n, (gD Si n).length ≤ 2048
  kw : ∀ n, (gS Si n).isSome = true → (Lit.int .i64 n).wf = true
theorem CrS.bm_ne {w wr : World} {B d bm uc i : Nat} {S Si : Sgs} {V Vi : VF} {ua : Option Addr} {un : Pcs} {most beh fal k ki : Int} (h : CrS w wr B d bm S V ua uc un most beh fal k i ki Si Vi) : d ≠ bm := by
  obtain ⟨D, m, ho, _⟩ := h.mp.mp
  exact ownsMap_not_box ho h.box
theorem CrS.later {w wr w' : World} {B d bm uc i : Nat} {S Si : Sgs} {V Vi : VF} {ua : Option Addr} {un : Pcs} {most beh fal k ki : Int} (h : CrS w wr B d bm S V ua uc un most beh fal k i ki Si Vi) (hb : Below wr.heap.size wr w') : CrS w w' B d bm S V ua uc un most beh fal k i ki Si Vi :=
  ⟨h.box.later hb, h.mp.later hb, h.own.later hb, h.unok, h.eq, h.turn.trans (TurnD.refl hb), h.cnt, h.seg, h.kw⟩
theorem CrS.step {w wr wc w8 : World} {B d bm uc i : Nat} {S Si : Sgs} {V Vi : VF} {ua : Option Addr} {un : Pcs} {most beh fal k ki k2 : Int} {g : Int} {z : Nat} {A : Option Addr} {C : Nat} (h : CrS w wr B d bm S V ua uc un most beh fal k i ki Si Vi) (hp : un[i]? = some (g, z)) (hk : k2 = ki - keptN ki z)
    (hA : lkA Si Vi g = A ∧ lkC Si Vi g = C) (ht : TurnD d bm Si Vi ua wr Si Vi ua wc) (hwc : CrS w wc B d bm S V ua uc un most beh fal k i ki Si Vi) (q6 : Mp w8 B bm (cut1 ki Si (g, z)) (setV Vi g A C) none) (q7 : wc.mapTurned w8 bm) :
    CrS w w8 B d bm S V ua uc un most beh fal k (i + 1) k2 (cut1 ki Si (g, z)) (setV Vi g A C) := by
  have hd : un.drop i = (g, z) :: un.drop (i + 1) := by
    obtain ⟨h1, h2⟩ := List.getElem?_eq_some_iff.1 hp
    rw [List.drop_eq_getElem_cons h1, h2]
  have hu := h.unok
  rw [hd] at hu
  have hs : (gS Si g).isSome = true := hu.1 (g, z) List.mem_cons_self
  have hbx : Box w8 d #[.int .i64 most, .map (some bm), .slice ua un.length uc, .int .i64 beh, .int .i64 fal] 51 := (q7.grown.block d (hwc.box.lt) (fun e => h.bm_ne (Option.some.inj e))).trans hwc.box
  have hown : Own w8 B 54 2 ua un.length uc (pcC un) := hwc.own.blocks fun j e => q7.grown.block j (own_lt hwc.own e).1 (fun e2 => by
    obtain ⟨D, m, ho, _⟩ := hwc.mp.mp
    exact ownsMap_not_own ho hwc.own e (Option.some.inj e2))
  have hOw : Only (MineD d bm Si Vi ua) wr w8 := ht.1.trans (Only.of_grown (R := MineD d bm Si Vi ua) q7.grown fun k hk => Or.inr (Or.inl (Or.inl (Option.some.inj hk).symm))) fun x hx => Or.inl hx
  have hmine : ∀ j, MineD d bm (cut1 ki Si (g, z)) (setV Vi g A C) ua j → MineD d bm Si Vi ua j := fun j hj => by
    rcases hj with hj | hj | hj
    · exact Or.inl hj
    · rcases hj with hj | ⟨m, b', hm, _, e⟩
      · exact Or.inr (Or.inl (Or.inl hj))
      · by_cases em : m = g
        · subst em
          rw [setV_same] at e
          exact Or.inr (Or.inl (lk_mine Si Vi m (by rw [hA.1]; exact e) bm))
        · rw [setV_other _ _ _ _ em] at e
          unfold cut1 at hm
          rw [gS_put, if_neg em] at hm
          exact Or.inr (Or.inl (Or.inr ⟨m, b', hm, by simp, e⟩))
    · exact Or.inr (Or.inr hj)
  refine ⟨hbx, q6, hown, hu.cut, ?_, h.turn.trans ⟨hOw, fun j hj => Or.inl (hmine j hj)⟩, by rw [len_cut h.mp.ss hs]; exact h.cnt, fun n => ?_, fun n hn => ?_⟩
  · rw [← h.eq, hd, crash, hk]
  · unfold cut1
    rw [gD_put]
    split
    · rw [List.length_take]
      dsimp only
      have := h.seg g
      omega
    · exact h.seg n
  · unfold cut1 at hn
    rw [gS_put] at hn
    split at hn
    · rename_i e
      rw [e]
      exact h.kw g hs
    · exact h.kw n hn
theorem CrS.done {w wr : World} {B d bm uc i : Nat} {S Si : Sgs} {V Vi : VF} {ua : Option Addr} {un : Pcs} {most beh fal k ki : Int} (h : CrS w wr B d bm S V ua uc un most beh fal k i ki Si Vi) (hB : B ≤ d) (hm : most ≤ 16) (h1 : beh ≤ 9223372036854775807) (h2 : fal ≤ 9223372036854775807) (hi : i = un.length) :
    Dm (wr.setCell ⟨d, 2, none⟩ (.slice none 0 0)) B d bm (crash k S un) Vi none 0 [] most beh fal ∧ TurnD d bm S V ua w (crash k S un) Vi none (wr.setCell ⟨d, 2, none⟩ (.slice none 0 0)) := by
  have he := h.eq
  rw [hi, List.drop_length] at he
  have he2 : Si = crash k S un := he
  have hmp : Mp (wr.setCell ⟨d, 2, none⟩ (.slice none 0 0)) B bm Si Vi none := h.mp.blocks fun j hj => Below.heap_setCell wr ⟨d, 2, none⟩ _ j fun e => h.mp.off (k := d) (cs := _) (t := 51) (z := (0, 0)) h.box (by decide) (by rw [show d = j from e.symm]; exact hj)
  have ht : TurnD d bm Si Vi ua wr Si Vi none (wr.setCell ⟨d, 2, none⟩ (.slice none 0 0)) := ⟨(Only.refl (MineD d bm Si Vi ua) _).setCell (Or.inl (Or.inl rfl)) _, fun j hj => Or.inl (by
    rcases hj with hj | hj | hj
    · exact Or.inl hj
    · exact Or.inr (Or.inl hj)
    · cases hj)⟩
  rw [← he2]
  exact ⟨⟨h.box.set 2 _, hmp, Own.nil _ _ _ _, UN.nil _, hB, h1, h2, hm, h.cnt, h.seg, h.kw⟩, h.turn.trans ht⟩
set_option maxHeartbeats 4000000 in
theorem crash_at {w : World} {B d bm uc : Nat} {S : Sgs} {V : VF} {ua : Option Addr} {un : Pcs} {most beh fal : Int} (h : Dm w B d bm S V ua uc un most beh fal) (k : Int) (hk1 : -9223372036854775808 ≤ k) (hk2 : k ≤ 9223372036854775807) :
    Calls Try.prog 13 #[.pointer (some ⟨d, 0, none⟩), .int .i64 k] w fun e w' => e = .returned (.tuple #[]) ∧ AftD B d bm S V ua w (crash k S un) [] most 0 0 w' := by
  have C0 : Hid (CrS w w B d bm S V ua uc un most beh fal k 0 k S V) := Lib.hid ⟨h.box, h.mp, h.own, h.un_ok, rfl, TurnD.refl (Below.refl _ _), h.cnt, h.seg, h.kw⟩
  have HB := Lib.hid (And.intro h.dB (And.intro h.mo (And.intro h.behB h.falB)))
  have c2 := h.box.cell 2
  have ld := h.box.lt
  obtain ⟨U, hU⟩ : ∃ U, un.length = U := ⟨_, rfl⟩
  rw [hU] at c2
  have HU := Lib.hid hU
  have hU63 : U ≤ 9223372036854775807 := by rw [← hU]; exact Nat.le_trans h.own.cap_le h.own.max
  clear h hU
  go_enter Try.func13, Try.ntmps13
  go_wp2_with fail
  clear c2
  go_loopw [1, 15] (fun vk vi wr => ∃ (i : Nat) (ki : Int) (Si : Sgs) (Vi : VF), i ≤ U ∧ (vk = .int .i64 ki ∧ -9223372036854775808 ≤ ki ∧ ki ≤ 9223372036854775807) ∧ vi = .int .i64 (i : Int) ∧ Hid (CrS w wr B d bm S V ua uc un most beh fal k i ki Si Vi)) (fun _ vi _ => U - (vI vi).toNat)
  case atStart => exact ⟨0, k, S, V, by omega, ⟨rfl, hk1, hk2⟩, rfl, C0⟩
  case round =>
    obtain ⟨i, ki, Si, Vi, hi, ⟨rfl, kb1, kb2⟩, rfl, HC⟩ := hrel
    clear C0
    obtain ⟨wl, rfl⟩ : ∃ W, W = wr := ⟨_, rfl⟩
    by_cases hlt : i < U
    · have hkd : decide ((i : Int) < (U : Int)) = true := decide_eq_true (by omega)
      obtain ⟨p, hp⟩ : ∃ p, un[i]? = some p := ⟨_, List.getElem?_eq_getElem (by rw [HU.out]; exact hlt)⟩
      obtain ⟨g, z⟩ := p
      obtain ⟨gu, rfl, _⟩ := HC.out.own.some_ (by rw [HU.out]; omega)
      obtain ⟨hg0, hg1⟩ := pcC_get hp
      have m0 := HC.out.own.cell hg0
      have m1 := HC.out.own.cell hg1
      have hi0 : (0 : Int) ≤ (i : Int) := by omega
      have hi1 : (i : Int) < (U : Int) := by omega
      have HPI := Lib.hid hp
      clear hp hg0 hg1
      have UH : Hid (z ≤ (gD Si g).length ∧ (gS Si g).isSome = true) := Lib.hid (by
        have hd : un.drop i = (g, z) :: un.drop (i + 1) := by
          obtain ⟨h1, h2⟩ := List.getElem?_eq_some_iff.1 HPI.out
          rw [List.drop_eq_getElem_cons h1, h2]
        have hu := HC.out.unok
        rw [hd] at hu
        exact ⟨hu.head, hu.1 (g, z) List.mem_cons_self⟩)
      obtain ⟨hz, hsome⟩ := UH.out
      have HGW := Lib.hid (HC.out.kw g hsome)
      have hz2 : z ≤ 2048 := Nat.le_trans hz (HC.out.seg g)
      clear hsome hz UH
      dsimp only at m0 m1
      have BN := Lib.hid (Box.new wl #[.int .i64 g, .int .i64 (z : Int)] 54)
      have BB := Lib.hid ((Below.refl wl.heap.size wl).alloc (Nat.le_refl _) (.cells #[.int .i64 g, .int .i64 (z : Int)] 54))
      obtain ⟨kp, hkp⟩ : ∃ x, keptN ki z = x := ⟨_, rfl⟩
      have hkp2 : (kp : Int) = max 0 (min ki (z : Int)) := by rw [← hkp]; exact keptN_int ki z
      have HKE := Lib.hid hkp
      have HK2 := Lib.hid hkp2
      have hkz : kp ≤ z := by rw [← hkp]; exact keptN_le ki z
      have hw1 : IntKind.i64.wrap (ki - (kp : Int)) = ki - (kp : Int) := IntWalk.i64_in _ (by omega)
      have HKN : Hid ((Value.int .i64 (ki - (kp : Int)) = .int .i64 (ki - (kp : Int))) ∧ -9223372036854775808 ≤ ki - (kp : Int) ∧ ki - (kp : Int) ≤ 9223372036854775807) := Lib.hid ⟨rfl, by omega, by omega⟩
      clear hkp hkp2
      go_upto_region 4 with fail
      obtain ⟨w4, hw4⟩ : ∃ W, wl.alloc (.cells #[.int .i64 g, .int .i64 (z : Int)] 54) = W := ⟨_, rfl⟩
      obtain ⟨pb, hpb⟩ : ∃ B, wl.heap.size = B := ⟨_, rfl⟩
      rw [hw4] at BN BB
      rw [hpb] at BN
      rw [hw4, hpb]
      have C4 := Lib.hid (HC.out.later BB.out)
      clear hw4 hpb BB HC m0 m1
      have p0 := BN.out.cell 0
      have p1 := BN.out.cell 1
      have lp := BN.out.lt
      go_cut [6] (fun v wx => v = .int .i64 (kp : Int) ∧ wx = w4)
      case first =>
        have hk9 := HK2.out
        go_wp2
        all_goals (go_meet; exact ⟨congrArg (Value.int .i64) (by omega), rfl⟩)
      case rest =>
        obtain ⟨rfl, hwx⟩ := hcut
        obtain ⟨w5, hw5⟩ : ∃ W, wc = W := ⟨_, rfl⟩
        rw [hw5] at hwx ⊢
        clear hw5
        obtain rfl : w4 = w5 := hwx.symm
        obtain ⟨A, hA⟩ : ∃ A, lkA Si Vi g = A := ⟨_, rfl⟩
        obtain ⟨C, hC⟩ : ∃ C, lkC Si Vi g = C := ⟨_, rfl⟩
        obtain ⟨L, hL⟩ : ∃ L, (gD Si g).length = L := ⟨_, rfl⟩
        obtain ⟨M, hM⟩ : ∃ M, z - kp = M := ⟨_, rfl⟩
        obtain ⟨N, hN⟩ : ∃ N, L - M = N := ⟨_, rfl⟩
        have LK : ∀ j, (Instr.lookup 48 (.map (some bm)) (.int .i64 g) false).run Try.prog (w4.drewN j) = .ok (.slice A L C) (w4.drewN j) := fun j => by
          rw [← hA, ← hC, ← hL]
          exact (C4.out.mp.blocks (w' := w4.drewN j) (fun _ _ => rfl)).look g HGW.out
        have LK0 := LK 0
        have hL2 : L ≤ 2048 := by rw [← hL]; exact C4.out.seg g
        have hzL : z ≤ L := by
          have hd : un.drop i = (g, z) :: un.drop (i + 1) := by
            obtain ⟨h1, h2⟩ := List.getElem?_eq_some_iff.1 HPI.out
            rw [List.drop_eq_getElem_cons h1, h2]
          have hu := C4.out.unok
          rw [hd] at hu
          rw [← hL]
          exact hu.head
        have HA := Lib.hid hA
        have HC := Lib.hid hC
        have HL := Lib.hid hL
        have HMM : Hid (z - keptN ki z = M) := Lib.hid (by rw [HKE.out]; exact hM)
        have HNN := Lib.hid hN
        have HMD : Hid (lkA Si Vi g = A ∧ lkC Si Vi g = C) := Lib.hid ⟨hA, hC⟩
        have HKP : Hid (ki - (kp : Int) = ki - (keptN ki z : Int)) := Lib.hid (by rw [HKE.out])
        have HNL : Hid (N ≤ L) := Lib.hid (by omega)
        have HNC : Hid (N ≤ C) := Lib.hid (by
          have h9 := (lk_own C4.out.mp g).cap_le
          rw [hL, hC] at h9
          omega)
        have HAC : Hid (A = none → C = 0) := Lib.hid (fun e => by
          have h9 := lk_own C4.out.mp g
          rw [hA, hC] at h9
          rcases h9.form with ⟨_, _, h⟩ | ⟨x, h, _⟩
          · exact h
          · rw [e] at h; cases h)
        have hw2 : IntKind.i64.wrap ((z : Int) - (kp : Int)) = (M : Int) := by rw [IntWalk.i64_in _ (by omega)]; omega
        have hw3 : IntKind.i64.wrap ((L : Int) - (M : Int)) = (N : Int) := by rw [IntWalk.i64_in _ (by omega)]; omega
        have BX4 := Lib.hid C4.out.box
        have c1 := BX4.out.cell 1
        have ld4 := BX4.out.lt
        clear hA hC hL hM hN
        go_upto_region 6 with fail
        go_quiet (fail)
        go_upto_region 7 with fail
        have BQ : Hid (Below w4.heap.size w4 (w4.drewN nq)) := Lib.hid (dk_drewN (Below.refl _ _) nq)
        obtain ⟨w7, hw7⟩ : ∃ W, w4.drewN nq = W := ⟨_, rfl⟩
        rw [hw7] at BQ ⊢
        have CS7 := Lib.hid (C4.out.later BQ.out)
        have BX7 := Lib.hid CS7.out.box
        have PX7 := Lib.hid (BN.out.later BQ.out)
        have ld7 := BX7.out.lt
        have lp7 := PX7.out.lt
        have D7 : True := trivial
        clear hw7 BQ C4 BX4 c1 ld4 LK LK0 BN p0 p1 lp
        refine wp_region_last 15 (fun w' => Below w7.heap.size w7 w') (by kernel_rfl) ((Below.refl _ _).drew) (fun hHeld hClosed => ?_)
        have BW := Lib.hid ((Below.refl w7.heap.size w7).drew)
        generalize w7.drew = wc at BW hHeld ⊢
        have PUT : Hid (∃ w', (Instr.mapUpdate 48 (.map (some bm)) (.int .i64 g) (.slice A N C)).run Try.prog wc = .ok () w' ∧ Mp w' B bm (cut1 ki Si (g, z)) (setV Vi g A C) none ∧ wc.mapTurned w' bm) := Lib.hid (by
          have m9 := CS7.out.mp.later BW.out
          have o9 := (lk_own m9 g).take (k := N) (by rw [HL.out]; exact HNL.out)
          rw [HA.out, HC.out] at o9
          have hbl : ((gD Si g).take ((gD Si g).length - (z - keptN ki z))).length = N := by rw [List.length_take, HL.out, HMM.out]; rw [HNN.out]; exact Nat.min_eq_left HNL.out
          have := m9.put_row (w3 := wc) (n := g) (a := A) (c := C) (b := (gD Si g).take ((gD Si g).length - (z - keptN ki z))) (Nat.le_trans CS7.out.cnt (by decide)) HGW.out (by rw [hbl]; have e9 : u8L ((gD Si g).take ((gD Si g).length - (z - keptN ki z))) = (u8L (gD Si g)).take (N * 1) := (by unfold u8L; rw [← List.map_take, Nat.mul_one, HL.out, HMM.out, HNN.out]); rw [e9]; exact o9) (World.grownBy.refl _ _) (fun k hk => Or.inl (by rw [HA.out, hk]; rfl))
          rw [hbl] at this
          exact this)
        refine wpAnyL_take (i := 0) (v := ?_) rfl (by kernel_rfl) (by kernel_rfl) (by kernel_rfl) (by kernel_rfl) (fun _ _ _ h => h) (by kernel_rfl) hClosed (Or.inl ⟨by rfl, ?_⟩) hHeld (fun hClosed => ?_)
        rotate_left
        · intro wv hSw; go_simp; all_goals (with_reducible rfl)
        (try simp only [List.getElem_toArray, List.getElem_cons_zero, put_at, List.set])
        refine wpAnyL_take (i := 1) (v := ?_) rfl (by kernel_rfl) (by kernel_rfl) (by kernel_rfl) (by kernel_rfl) (fun _ _ _ h => h) (by kernel_rfl) hClosed (Or.inl ⟨by rfl, ?_⟩) hHeld (fun hClosed => ?_)
        rotate_left
        · intro wv hSw; go_simp; all_goals (with_reducible rfl)
        (try simp only [List.getElem_toArray, List.getElem_cons_succ, List.getElem_cons_zero, put_at, List.set])
        refine wpAnyL_take (i := 2) (v := ?_) rfl (by kernel_rfl) (by kernel_rfl) (by kernel_rfl) (by kernel_rfl) (fun _ _ _ h => h) (by kernel_rfl) hClosed (Or.inl ⟨by rfl, ?_⟩) hHeld (fun hClosed => ?_)
        rotate_left
        · intro wv hSw; go_simp; all_goals (with_reducible rfl)
        (try simp only [List.getElem_toArray, List.getElem_cons_succ, List.getElem_cons_zero, put_at, List.set])
        refine wpAnyL_take (i := 3) (v := ?_) rfl (by kernel_rfl) (by kernel_rfl) (by kernel_rfl) (by kernel_rfl) (fun _ _ _ h => h) (by kernel_rfl) hClosed (Or.inl ⟨by rfl, ?_⟩) hHeld (fun hClosed => ?_)
        rotate_left
        · intro wv hSw; have c1 := (BX7.out.later hSw).cell 1; have p0 := (PX7.out.later hSw).cell 0; have p1 := (PX7.out.later hSw).cell 1; go_simp; all_goals (with_reducible rfl)
        (try simp only [List.getElem_toArray, List.getElem_cons_succ, List.getElem_cons_zero, put_at, List.set])
        refine wpAnyL_take (i := 4) (v := ?_) rfl (by kernel_rfl) (by kernel_rfl) (by kernel_rfl) (by kernel_rfl) (fun _ _ _ h => h) (by kernel_rfl) hClosed (Or.inl ⟨by rfl, ?_⟩) hHeld (fun hClosed => ?_)
        rotate_left
        · intro wv hSw; go_simp; all_goals (with_reducible rfl)
        (try simp only [List.getElem_toArray, List.getElem_cons_succ, List.getElem_cons_zero, put_at, List.set])
        refine wpAnyL_take (i := 5) (v := ?_) rfl (by kernel_rfl) (by kernel_rfl) (by kernel_rfl) (by kernel_rfl) (fun _ _ _ h => h) (by kernel_rfl) hClosed (Or.inl ⟨by rfl, ?_⟩) hHeld (fun hClosed => ?_)
        rotate_left
        · intro wv hSw; have c1 := (BX7.out.later hSw).cell 1; have p0 := (PX7.out.later hSw).cell 0; have p1 := (PX7.out.later hSw).cell 1; go_simp; all_goals (with_reducible rfl)
        (try simp only [List.getElem_toArray, List.getElem_cons_succ, List.getElem_cons_zero, put_at, List.set])
        refine wpAnyL_take (i := 6) (v := ?_) rfl (by kernel_rfl) (by kernel_rfl) (by kernel_rfl) (by kernel_rfl) (fun _ _ _ h => h) (by kernel_rfl) hClosed (Or.inl ⟨by rfl, ?_⟩) hHeld (fun hClosed => ?_)
        rotate_left
        · intro wv hSw; go_simp; all_goals (with_reducible rfl)
        (try simp only [List.getElem_toArray, List.getElem_cons_succ, List.getElem_cons_zero, put_at, List.set])
        refine wpAnyL_take (i := 7) (v := ?_) rfl (by kernel_rfl) (by kernel_rfl) (by kernel_rfl) (by kernel_rfl) (fun _ _ _ h => h) (by kernel_rfl) hClosed (Or.inl ⟨by rfl, ?_⟩) hHeld (fun hClosed => ?_)
        rotate_left
        · intro wv hSw; go_simp; all_goals (with_reducible rfl)
        (try simp only [List.getElem_toArray, List.getElem_cons_succ, List.getElem_cons_zero, put_at, List.set])
        refine wpAnyL_take (i := 8) (v := ?_) rfl (by kernel_rfl) (by kernel_rfl) (by kernel_rfl) (by kernel_rfl) (fun _ _ _ h => h) (by kernel_rfl) hClosed (Or.inl ⟨by rfl, ?_⟩) hHeld (fun hClosed => ?_)
        rotate_left
        · intro wv hSw; go_simp; all_goals (with_reducible rfl)
        (try simp only [List.getElem_toArray, List.getElem_cons_succ, List.getElem_cons_zero, put_at, List.set])
        refine wpAnyL_take (i := 9) (v := ?_) rfl (by kernel_rfl) (by kernel_rfl) (by kernel_rfl) (by kernel_rfl) (fun _ _ _ h => h) (by kernel_rfl) hClosed (Or.inl ⟨by rfl, ?_⟩) hHeld (fun hClosed => ?_)
        rotate_left
        · intro wv hSw; go_simp; all_goals (with_reducible rfl)
        (try simp only [List.getElem_toArray, List.getElem_cons_succ, List.getElem_cons_zero, put_at, List.set])
        refine wpAnyL_take (i := 10) (v := ?_) rfl (by kernel_rfl) (by kernel_rfl) (by kernel_rfl) (by kernel_rfl) (fun _ _ _ h => h) (by kernel_rfl) hClosed (Or.inl ⟨by rfl, ?_⟩) hHeld (fun hClosed => ?_)
        rotate_left
        · intro wv hSw; have c1 := (BX7.out.later hSw).cell 1; have p0 := (PX7.out.later hSw).cell 0; have p1 := (PX7.out.later hSw).cell 1; go_simp; all_goals (with_reducible rfl)
        (try simp only [List.getElem_toArray, List.getElem_cons_succ, List.getElem_cons_zero, put_at, List.set])
        refine wpAnyL_take (i := 11) (v := ?_) rfl (by kernel_rfl) (by kernel_rfl) (by kernel_rfl) (by kernel_rfl) (fun _ _ _ h => h) (by kernel_rfl) hClosed (Or.inl ⟨by rfl, ?_⟩) hHeld (fun hClosed => ?_)
        rotate_left
        · intro wv hSw; go_simp; all_goals (with_reducible rfl)
        (try simp only [List.getElem_toArray, List.getElem_cons_succ, List.getElem_cons_zero, put_at, List.set])
        refine wpAnyL_take (i := 12) (v := ?_) rfl (by kernel_rfl) (by kernel_rfl) (by kernel_rfl) (by kernel_rfl) (fun _ _ _ h => h) (by kernel_rfl) hClosed (Or.inl ⟨by rfl, ?_⟩) hHeld (fun hClosed => ?_)
        rotate_left
        · intro wv hSw; go_simp; all_goals (with_reducible rfl)
        (try simp only [List.getElem_toArray, List.getElem_cons_succ, List.getElem_cons_zero, put_at, List.set])
        refine wpAnyL_take (i := 13) (v := ?_) rfl (by kernel_rfl) (by kernel_rfl) (by kernel_rfl) (by kernel_rfl) (fun _ _ _ h => h) (by kernel_rfl) hClosed (Or.inl ⟨by rfl, ?_⟩) hHeld (fun hClosed => ?_)
        rotate_left
        · intro wv hSw; go_simp; all_goals (with_reducible rfl)
        (try simp only [List.getElem_toArray, List.getElem_cons_succ, List.getElem_cons_zero, put_at, List.set])
        refine wpAnyL_take (i := 14) (v := .slice A N C) rfl (by kernel_rfl) (by kernel_rfl) (by kernel_rfl) (by kernel_rfl) (fun _ _ _ h => h) (by kernel_rfl) hClosed (Or.inl ⟨by rfl, ?_⟩) hHeld (fun hClosed => ?_)
        · intro wv hSw; exact exec_slice (by rfl) (by rfl) (fun w => sliceTo_run rowU8 A L C N HNC.out w HAC.out)
        (try simp only [List.getElem_toArray, List.getElem_cons_succ, List.getElem_cons_zero, put_at, List.set])
        refine wpAnyL_last rfl (by kernel_rfl) (by kernel_rfl) (fun KK hK => ?_)
        obtain ⟨w8, q5, q6, q7⟩ := PUT.out
        go_simp
        refine hK.out _ _ ?_
        (try simp only [put_at, List.set])
        have NX := Lib.hid (CS7.out.step HPI.out HKP.out HMD.out (TurnD.refl BW.out) (CS7.out.later BW.out) q6 q7)
        clear q5 q6 q7 CS7 BX7 PX7 D7 hHeld PUT
        go_wp2
        go_roundw
        case rel => exact ⟨i + 1, _, _, _, by omega, HKN.out, by go_num, NX⟩
        case measure => exact cra_ms U i hlt
    · have hkd : decide ((i : Int) < (U : Int)) = false := decide_eq_false (by omega)
      obtain rfl : i = U := by omega
      have BX := Lib.hid HC.out.box
      have c2 := BX.out.cell 2
      have f2 := BX.out.free 2
      have ldx := BX.out.lt
      have DN := Lib.hid (HC.out.done HB.out.1 HB.out.2.1 HB.out.2.2.1 HB.out.2.2.2 (by rw [HU.out]))
      have FA := Lib.hid (fault_at DN.out.1 0 0 (by omega) (by omega))
      clear HC BX
      go_wp2_with fail
      refine FA.out.mono ?_
      rintro e w9 ⟨rfl, d9, t9⟩
      have FIN : Hid (AftD B d bm S V ua w (crash k S un) [] most 0 0 w9) := Lib.hid ⟨_, _, _, d9, DN.out.2.trans t9⟩
      clear d9 t9 FA DN c2 f2
      go_wp2
      exact bodyPost_end (v := .tuple #[]) (by simp [results, Try.results13, go_sem]) rfl ⟨rfl, FIN.out⟩
end Go.Proofs.Ytomeipjglnpciaa
