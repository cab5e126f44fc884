/- The library's DeleteFunc over pieces: its walk. -/
import Derived.Test.YtomeipjglnpciaaDkDel2
namespace Go.Proofs.Ytomeipjglnpciaa
open Go Go.RowKit Go.Maps
set_option linter.unusedVariables false
set_option linter.unusedSimpArgs false
set_option maxRecDepth 10000

theorem keepP_none {id : Int} {u : Pcs} (h : ∀ q ∈ u, pcB id q = false) : keepP id u = u := by
  unfold keepP
  rw [List.filter_eq_self]
  intro q hq
  rw [h q hq]
  rfl
theorem wpList_storeP {P : Program} {ops : Array Oper} {rest : List Oper} {o : Oper} {act : Act} {Q : Exit → Act → World → Prop} {w w' : World} (hgd : o.guard = none) (ty : TypeId) (x y : Operand) (ho : o.op = .store ty x y) {u v : Value} (hx : act.eval x = u) (hy : act.eval y = v)
    (hr : (Instr.storeAt ty u v).run P w = .ok () w') (h : wpList P ops Q rest (act.put o.dst undef) w') : wpList P ops Q (o :: rest) act w := by
  refine wpList_plain hgd fun K hK => ?_
  unfold Oper.wp execOp
  simp only [ho, hx, hy, Sem.run_bind, Sem.run_pure, hr, Result.andThen_ok]
  exact hK _ _ h
def DelP (B : Nat) (u : Pcs) (id : Int) (uc : Nat) (ua : Option Addr) (w : World) (e : Ending) (w' : World) : Prop := ∃ m, e = .returned (.slice ua m uc) ∧ (keepP id u).length = m ∧ Own w' B 54 2 ua m uc (pcC (keepP id u)) ∧ Only (fun k => ua = some ⟨k, 0, none⟩) w w'
theorem del_ms (mk i4 : Nat) (h : i4 < mk) : mk - ((i4 : Int) + 1).toNat < mk - ((i4 : Int)).toNat := by omega
set_option maxHeartbeats 4000000 in
theorem delf_at (u : Pcs) (n : Nat) (hn : u.length = n) {w : World} {B uc idb : Nat} {ua : Option Addr} (ho : Own w B 54 2 ua n uc (pcC u)) (id : Int) (hbx : Box w idb #[.int .i64 id] 3) :
    Calls Try.prog 22 #[.slice ua n uc, .func (.func 23) #[] #[.pointer (some ⟨idb, 0, none⟩)]] w (DelP B u id uc ua w) := by
  have eg := egP
  have hn2 : n ≤ 9223372036854775807 := Nat.le_trans ho.cap_le ho.max
  have hnc := ho.cap_le
  have IX := Lib.hid (idxP_at u n hn ho id hbx)
  have HO := Lib.hid ho
  have HB := Lib.hid hbx
  have HN := Lib.hid hn
  clear ho hbx hn
  go_enter Try.func22, Try.ntmps22
  go_wp2_with fail
  refine IX.out.mono ?_
  rintro e w1 ⟨i0, rfl, b1, hc⟩
  have B1 := Lib.hid b1
  clear b1 IX
  rcases hc with ⟨rfl, hno⟩ | ⟨k, rfl, hkn, hpre, q, hq, hpq⟩
  · have FIN : Hid (DelP B u id uc ua w (.returned (.slice ua n uc)) w1) := Lib.hid ⟨n, rfl, by rw [keepP_none hno]; exact HN.out, by rw [keepP_none hno]; exact HO.out.later B1.out, Only.of_below _ B1.out⟩
    clear hno HO HB
    go_wp2
    go_ret
    exact FIN.out
  · rw [HN.out] at hkn
    obtain ⟨g, rfl, _⟩ := HO.out.some_ (by omega)
    have hk1 : ((k : Int) == -1) = false := by simp
    have D0 : Hid (DelS w w1 B g n uc u id k (k + 1) (pcC u)) := Lib.hid (by
      have h1 : keepP id (u.take k) = u.take k := keepP_none fun q hq => by
        obtain ⟨j, hj⟩ := List.mem_iff_getElem?.1 hq
        rw [List.getElem?_take] at hj
        split at hj
        · rename_i hlt
          exact hpre j q hlt hj
        · cases hj
      have h2 := keepP_snoc id hq
      rw [hpq, if_pos rfl, List.append_nil, h1] at h2
      exact ⟨HO.out.later B1.out, Only.of_below _ B1.out, by rw [h2, pcC_take], (pcC_drop u _).symm, by rw [h2, List.length_take, HN.out]; omega⟩)
    have NB : Hid (idb ≠ g) := Lib.hid (fun e => own_not_box HO.out HB.out (by decide) e.symm)
    clear hpre hq hpq
    go_wp2_with fail
    go_loopw [5, 6] (fun vi vj wr => ∃ (i j : Nat) (xs : List Value), i < j ∧ j ≤ n ∧ vi = .int .i64 (i : Int) ∧ vj = .int .i64 (j : Int) ∧ Hid (DelS w wr B g n uc u id i j xs)) (fun _ vj _ => n - (vJ vj).toNat)
    case atStart => exact ⟨k, k + 1, _, by omega, by omega, rfl, by go_num, D0⟩
    case round =>
      obtain ⟨i, j, xs, hij, hjn, rfl, rfl, HS⟩ := hrel
      clear D0
      obtain ⟨wl, rfl⟩ : ∃ W, W = wr := ⟨_, rfl⟩
      by_cases hlt : j < n
      · have hkd : decide ((j : Int) < (n : Int)) = true := decide_eq_true (by omega)
        obtain ⟨q, hq⟩ : ∃ q, u[j]? = some q := ⟨_, List.getElem?_eq_getElem (by rw [HN.out]; exact hlt)⟩
        obtain ⟨m0, m1⟩ := HS.out.at hq
        have hj0 : (0 : Int) ≤ (j : Int) := by omega
        have hj1 : (j : Int) < (n : Int) := by omega
        have hi0 : (0 : Int) ≤ (i : Int) := by omega
        have hi1 : (i : Int) < (n : Int) := by omega
        have HQ := Lib.hid hq
        clear hq
        have BXI := Lib.hid (HB.out.only HS.out.only NB.out)
        obtain ⟨b, hb⟩ : ∃ b, pcB id q = b := ⟨_, rfl⟩
        have HBB := Lib.hid hb
        have MQ : Hid (∀ W, Below wl.heap.size wl W → Calls Try.prog 23 #[.agg #[.int .i64 q.1, .int .i64 (q.2 : Int)], .pointer (some ⟨idb, 0, none⟩)] W fun e w' => e = .returned (.bool b) ∧ Below W.heap.size W w') := Lib.hid (fun W hW => by rw [← hb]; exact del1_at q id idb W (BXI.out.later hW))
        have MV : Hid (∀ w' W, b = false → Below wl.heap.size wl W → Own w' B 54 2 (some ⟨g, 0, none⟩) n uc ((xs.set (i * 2) (.int .i64 q.1)).set (i * 2 + 1) (.int .i64 (q.2 : Int))) → W.grownBy w' (some g) → DelS w w' B g n uc u id (i + 1) (j + 1) ((xs.set (i * 2) (.int .i64 q.1)).set (i * 2 + 1) (.int .i64 (q.2 : Int)))) := Lib.hid (fun w' W hb' hW h1 h2 => (HS.out.later hW).move HQ.out (by rw [HBB.out]; exact hb') hij hlt h1 h2)
        have SK : Hid (b = true → ∀ W, Below wl.heap.size wl W → DelS w W B g n uc u id i (j + 1) xs) := Lib.hid (fun hb' W hW => (HS.out.later hW).skip HQ.out (by rw [HBB.out]; exact hb'))
        have OX : Hid (∀ W, Below wl.heap.size wl W → Own W B 54 2 (some ⟨g, 0, none⟩) n uc xs) := Lib.hid (fun W hW => (HS.out.later hW).own)
        obtain ⟨qx, qz⟩ := q
        dsimp only at m0 m1 MQ MV
        have BN := Lib.hid (Box.new wl #[.int .i64 qx, .int .i64 (qz : Int)] 54)
        have BB := Lib.hid ((Below.refl wl.heap.size wl).alloc (Nat.le_refl _) (.cells #[.int .i64 qx, .int .i64 (qz : Int)] 54))
        clear hb HS
        go_upto_region 8 with fail
        obtain ⟨w4, hw4⟩ : ∃ W, wl.alloc (.cells #[.int .i64 qx, .int .i64 (qz : Int)] 54) = W := ⟨_, rfl⟩
        obtain ⟨vb, hvb⟩ : ∃ B, wl.heap.size = B := ⟨_, rfl⟩
        have hbel : Below wl.heap.size wl w4 := by rw [← hw4]; exact BB.out
        have BE := Lib.hid hbel
        rw [hw4] at BN
        rw [hvb] at BN
        rw [hw4, hvb]
        clear hw4 hvb hbel m0 m1 BB
        have p0 := BN.out.cell 0
        have p1 := BN.out.cell 1
        have lp := BN.out.lt
        go_wp2_with fail
        refine (MQ.out _ BE.out).mono ?_
        rintro e w5 ⟨rfl, b5⟩
        have B5 := Lib.hid (BE.out.trans (b5.mono BE.out.size))
        have BN5 := Lib.hid (BN.out.later b5)
        clear b5 MQ BN p0 p1 lp
        cases b with
        | true =>
          have NX := Lib.hid (SK.out rfl w5 B5.out)
          clear MV SK OX
          go_wp2
          go_roundw
          case rel => exact ⟨i, j + 1, xs, by omega, by omega, rfl, by go_num, NX⟩
          case measure => exact del_ms n j hlt
        | false =>
          obtain ⟨w6, hst, o6, g6⟩ := storeP (OX.out w5 B5.out) (by omega : i < n) qx (qz : Int)
          have NX := Lib.hid (MV.out _ _ rfl B5.out o6 g6)
          have p0 := BN5.out.cell 0
          have p1 := BN5.out.cell 1
          have lp := BN5.out.lt
          clear MV SK OX o6 g6
          go_wp2_with (refine wpList_storeP rfl _ _ _ rfl rfl rfl hst ?_)
          go_roundw
          case rel => exact ⟨i + 1, j + 1, _, by omega, by omega, by go_num, by go_num, NX⟩
          case measure => exact del_ms n j hlt
      · have hkd : decide ((j : Int) < (n : Int)) = false := decide_eq_false (by omega)
        obtain rfl : j = n := by omega
        obtain ⟨w6, hcl, o6, g6⟩ := clearP HS.out.own (by omega : i < j) 3
        have hcl2 : ∀ ty, (Builtin.clear_ #[49] ty #[.slice (some ⟨g, i * 2, none⟩) (j - i) (uc - i)]).run Try.prog wl = .ok (.tuple #[]) w6 := fun ty => hcl
        have hsf : ∀ W, (Instr.sliceAt 49 (.slice (some ⟨g, 0, none⟩) j uc) (some (.int .i64 (i : Int))) none none).run Try.prog W = .ok (.slice (some ⟨g, i * 2, none⟩) (j - i) (uc - i)) W := fun W => by
          obtain ⟨off, h1, h2⟩ := sliceFrom_off rowPc g j uc i (by omega) hnc
          rw [h1 W, h2 (by omega)]
        have hsl : ∀ W, (Instr.sliceAt 49 (.slice (some ⟨g, 0, none⟩) j uc) none (some (.int .i64 (i : Int))) none).run Try.prog W = .ok (.slice (some ⟨g, 0, none⟩) i uc) W := fun W => sliceTo_run rowPc (some ⟨g, 0, none⟩) j uc i (by omega) W (fun e => by cases e)
        have FIN : Hid (DelP B u id uc (some ⟨g, 0, none⟩) w (.returned (.slice (some ⟨g, 0, none⟩) i uc)) w6) := Lib.hid (by
          have hh := HS.out.head
          have hl := HS.out.len
          have e9 : u.take j = u := List.take_of_length_le (by rw [HN.out]; exact Nat.le_refl _)
          rw [e9] at hh hl
          rw [hh] at o6
          refine ⟨i, rfl, hl, o6, ?_⟩
          have hO := HS.out.only.trans (Only.of_grown (R := fun k => k = g) g6 fun k hk => (Option.some.inj hk).symm) (fun x hx => Or.inl hx)
          exact ⟨hO.os, hO.tape, hO.output, hO.size, fun k hk hne => hO.block k hk fun e => hne (by rw [e])⟩)
        clear HS o6 g6 hcl HB HO
        go_wp2
        go_ret
        exact FIN.out
end Go.Proofs.Ytomeipjglnpciaa
