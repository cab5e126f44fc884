/- Part of a chain: SpRcs, SpPck, SpRew. -/
import Derived.Test.YtimkgaokcldgkaaGreatDoorFd28
/- Package spill: records. Written by gen_records.py. -/
namespace Go.Proofs.YtimkgaokcldgkaaGreatDoor
open Go Go.RowKit Go.Maps Go.Sort
set_option linter.unusedVariables false
set_option linter.unusedSimpArgs false
set_option maxRecDepth 100000

theorem now_cells {w : World} (h : NowM w) : ∀ (j : Nat) (v : Value), (plC nowh)[j]? = some v → w.cell? ⟨gNow, 0 + j, none⟩ = some v := fun j v hj => by
  have hlt : j < 3 := (Array.getElem?_eq_some_iff.1 hj).1
  rw [Nat.zero_add, h j hlt]
  exact hj
def fE (e : En) : Pl × List Int := (e.p, e.b)
theorem fE_stab (es : List En) : (stabS ltE es.toArray).toList.map fE = (stabS ltP (es.map fE).toArray).toList := by
  have h := mp_stabS fE rfl ltP es.toArray
  rw [← List.map_toArray, h]
  simp
  rfl
theorem ins_none (a : Option Addr) (c : Nat) (fv : Value) (w : World) : Calls Tryz.prog 131 #[.slice a 0 c, .int .i64 0, .int .i64 0, fv] w fun e w' => e = .returned (.tuple #[]) ∧ w' = w := by
  go_enter Tryz.func131, Tryz.ntmps131
  go_wp2
  refine wp_loop_rounds 1 ?_
  rw [rounds_succ]
  go_wp2
  go_end0
  exact ⟨rfl, rfl⟩
theorem stable_none (a : Option Addr) (c : Nat) (w : World) : Calls Tryz.prog 119 #[.slice a 0 c, .int .i64 0, .func (.func 108) #[] #[]] w fun e w' => e = .returned (.tuple #[]) ∧ w' = w := by
  have IN := Lib.hid (fun W => ins_none a c (.func (.func 108) #[] #[]) W)
  go_enter Tryz.func119, Tryz.ntmps119
  go_wp2
  refine wp_loop_rounds 1 ?_
  rw [rounds_succ]
  go_wp2_with fail
  refine (IN.out _).mono ?_
  rintro e w2 ⟨rfl, rfl⟩
  go_wp2_with fail
  refine wp_loop_rounds 1 ?_
  rw [rounds_succ]
  go_wp2
  go_end0
  exact ⟨rfl, rfl⟩
theorem sortStable_none (a : Option Addr) (c : Nat) (w : World) : Calls Tryz.prog 107 #[.slice a 0 c, .func (.func 108) #[] #[]] w fun e w' => e = .returned (.tuple #[]) ∧ w' = w := by
  have SB := Lib.hid (stable_none a c w)
  go_enter Tryz.func107, Tryz.ntmps107
  go_wp2_with fail
  refine SB.out.mono ?_
  rintro e w2 ⟨rfl, rfl⟩
  go_wp2_with fail
  go_end0
  exact ⟨rfl, rfl⟩
/-- Records under way in a log. -/
structure RcS (w : World) (RD RL : Nat → Prop) (d L : Nat) (g : Lg) (lb n c : Nat) (a : Option Addr) (es : List En) (X : List (Pl × List Int)) (wr : World) : Prop where
  lg : LgM wr RD RL d L g
  rm : RecM wr w.heap.size lb n c a es
  eq : es.map fE = X
  bel : Below w.heap.size w wr
theorem RcS.later {w : World} {RD RL : Nat → Prop} {d L : Nat} {g : Lg} {lb n c : Nat} {a : Option Addr} {es : List En} {X : List (Pl × List Int)} {wr w' : World} (h : RcS w RD RL d L g lb n c a es X wr) (hb : Below wr.heap.size wr w') : RcS w RD RL d L g lb n c a es X w' :=
  ⟨h.lg.later hb, h.rm.later hb, h.eq, h.bel.trans (hb.mono h.bel.size)⟩
/-- What keep does to the world. -/
def KeptW (w : World) (RD RL : Nat → Prop) (d L : Nat) (g : Lg) (lb n : Nat) (a : Option Addr) (X : List (Pl × List Int)) (p : Pl) (b : List Int) (wr w' : World) : Prop :=
  ∃ (a' : Option Addr) (c' : Nat) (es' : List En), RcS w RD RL d L g lb (n + 1) c' a' es' (X ++ [(p, b)]) w' ∧ Only (fun k => k = lb ∨ a = some ⟨k, 0, none⟩) wr w'
theorem RcS.kept {w : World} {RD RL : Nat → Prop} {d L : Nat} {g : Lg} {lb n c : Nat} {a : Option Addr} {es : List En} {X : List (Pl × List Int)} {wr w' : World} (G0 : LgM w RD RL d L g) (h : RcS w RD RL d L g lb n c a es X wr) {p : Pl} {b : List Int}
    (h2 : ∃ (a' : Option Addr) (c' : Nat) (x : En), x.p = p ∧ x.b = b ∧ RecM w' w.heap.size lb (n + 1) c' a' (es ++ [x]) ∧ Only (fun k => k = lb ∨ a = some ⟨k, 0, none⟩) wr w' ∧ ∀ k, a' = some ⟨k, 0, none⟩ → a = some ⟨k, 0, none⟩ ∨ wr.heap.size ≤ k) : KeptW w RD RL d L g lb n a X p b wr w' := by
  obtain ⟨a', c', x, hp, hb, hr, ho, _⟩ := h2
  have hge : ∀ k, (k = lb ∨ a = some ⟨k, 0, none⟩) → w.heap.size ≤ k := fun k hk => by
    rcases hk with hk | hk
    · rw [hk]; exact h.rm.lB
    · exact (own_lt h.rm.own hk).2
  refine ⟨a', c', _, ⟨h.lg.keep ho.size fun k hk hm => ho.block k hk fun e => ?_, hr, ?_, h.bel.trans (ho.below h.bel.size hge)⟩, ho⟩
  · have := hge k e
    rcases hm with hm | hm | hm
    · have := G0.dk.lt k hm; omega
    · have := G0.lx.lt k hm; omega
    · have := G0.now.lt; omega
  · rw [List.map_append, h.eq]
    show X ++ [fE x] = _
    unfold fE
    rw [hp, hb]
theorem RecM.own_off {w w' : World} {B lb n c : Nat} {a : Option Addr} {es : List En} (h : RecM w B lb n c a es) (ho : Only (fun k => k = lb ∨ a = some ⟨k, 0, none⟩) w w') {B2 size m c2 : Nat} {E : TypeId} {a2 : Option Addr} {xs : List Value} (hx : Own w B2 E size a2 m c2 xs) (h1 : 149 ≠ E) (h2 : E ≠ 152) : Own w' B2 E size a2 m c2 xs :=
  hx.only ho fun k hk => by
    rintro (e | e)
    · subst e
      rw [hk] at hx
      exact own_not_box hx h.box h1 rfl
    · exact own_apart hx h.own hk e h2
theorem srtS_len (l : List ByteArray) : (srtS l).length = l.length := by unfold srtS; rw [List.length_map, List.length_mergeSort, List.length_map]
theorem srtS_mem {l : List ByteArray} {x : ByteArray} : x ∈ srtS l ↔ x ∈ l := by
  unfold srtS
  rw [List.mem_map]
  constructor
  · rintro ⟨b, hb, rfl⟩
    rw [List.mem_mergeSort, List.mem_map] at hb
    obtain ⟨s, hs, rfl⟩ := hb
    exact hs
  · intro h
    exact ⟨x.data.toList, by rw [List.mem_mergeSort, List.mem_map]; exact ⟨x, h, rfl⟩, rfl⟩
theorem WtM.kk {w : World} {wm : Option Nat} {S : List (ByteArray × Wt)} (h : WtM w wm S) : ∀ p ∈ S, okS p.1 := by
  rcases h with ⟨_, rfl⟩ | ⟨m, _, h⟩
  · intro p hp; cases hp
  · exact h.kk
theorem LgM.hosts_ok {w : World} {RD RL : Nat → Prop} {d L : Nat} {g : Lg} (h : LgM w RD RL d L g) : ∀ s ∈ srtS (g.x.waits.map Prod.fst), okS s := fun s hs => by
  obtain ⟨pm, wm, hi, hmi⟩ := h.lx.ix
  obtain ⟨p, hp, rfl⟩ := List.mem_map.1 (srtS_mem.1 hs)
  exact hi.waits.kk p hp
/-- The blocks of an index are what they were, as long as the log is as it was. -/
theorem LgM.same {w w' : World} {RD RL : Nat → Prop} {d L : Nat} {g : Lg} {pm : Nat} {wm : Option Nat} (G0 : LgM w RD RL d L g) (hi : IxM w 0 L 2 (logC d g.n pm wm g.x.top) 66 pm wm g.x) (hb : Below w.heap.size w w') : IxM w' 0 L 2 (logC d g.n pm wm g.x.top) 66 pm wm g.x := hi.later hb
set_option maxHeartbeats 8000000 in
theorem records_at {w : World} {RD RL : Nat → Prop} {d L : Nat} {g : Lg} (h : LgM w RD RL d L g) (hf : Few g.x) :
    Calls Tryz.prog 83 #[.pointer (some ⟨L, 0, none⟩)] w fun e w' => ∃ (n c : Nat) (a : Option Addr) (es : List En), e = .returned (.slice a n c) ∧ n ≤ 2000001 ∧ Own w' w.heap.size 152 4 a n c (flE enE es) ∧ es.length = n ∧ (∀ e ∈ es, e.b.length = e.n ∧ Own w' w.heap.size 5 1 e.a e.n e.c (u8L e.b)) ∧ (es.Pairwise fun x y => ∀ g, x.a = some ⟨g, 0, none⟩ → y.a ≠ some ⟨g, 0, none⟩) ∧ es.map fE = sortedL g ∧ Below w.heap.size w w' := by
  obtain ⟨pm, wm, hi, hmi⟩ := h.lx.ix
  obtain ⟨K, hK⟩ : ∃ K, g.x.puts.length = K := ⟨_, rfl⟩
  obtain ⟨ks, hks⟩ : ∃ ks, srtI (g.x.puts.map Prod.fst) = ks := ⟨_, rfl⟩
  obtain ⟨K2, hK2⟩ : ∃ K, g.x.waits.length = K := ⟨_, rfl⟩
  obtain ⟨hs, hhs⟩ : ∃ hs, srtS (g.x.waits.map Prod.fst) = hs := ⟨_, rfl⟩
  have hKn : K ≤ 900000 := hK ▸ hf.1
  have hK2n : K2 ≤ 900000 := hK2 ▸ hf.2
  have HKO := Lib.hid (hks ▸ h.keys_ok)
  have HHO := Lib.hid (hhs ▸ h.hosts_ok)
  have HKL : Hid (ks.length = K) := Lib.hid (by rw [← hks, srtI_len, List.length_map, hK])
  have HHL : Hid (hs.length = K2) := Lib.hid (by rw [← hhs, srtS_len, List.length_map, hK2])
  have HFIN : Hid (sortedL g = (stabS ltP (ks.filterMap (recP g) ++ hs.map (recW g.x) ++ recT g.x).toArray).toList) := Lib.hid (by rw [← hks, ← hhs]; rfl)
  have G := Lib.hid h
  have HI := Lib.hid hi
  have KP := Lib.hid (fun (W : World) (hW : Below w.heap.size w W) => keysP_at (hi.later hW).puts K hK (by omega))
  have KW := Lib.hid (fun (W : World) (hW : Below w.heap.size w W) => keysW_at (hi.later hW).waits K2 hK2 (by omega))
  rw [hks] at KP
  rw [hhs] at KW
  have ENT : ∀ args w, (callFunc 106 args).run Tryz.prog w = .ok (.enter 106 args) w := enters_of Tryz.func106 (by kernel_rfl) rfl
  clear hks hK hhs hK2 hi h hf
  go_enter Tryz.func83, Tryz.ntmps83
  go_upto_region 3 with fail
  refine code_forget (fun W => Hid (RcS w RD RL d L g w.heap.size 0 0 none [] [] W)) (Lib.hid ⟨G.out.later ((Below.refl _ _).alloc (Nat.le_refl _) _), ⟨Box.new w _ _, Own.nil _ _ _ _, rfl, fun e he => (by cases he), List.Pairwise.nil, Nat.le_refl _⟩, rfl, (Below.refl _ _).alloc (Nat.le_refl _) _⟩) ?_
  obtain ⟨lb, hlb⟩ : ∃ p, w.heap.size = p := ⟨_, rfl⟩
  intro w1 RS1
  have HLB := Lib.hid hlb
  rw [show RcS w RD RL d L g w.heap.size 0 0 none [] [] w1 = RcS w RD RL d L g lb 0 0 none [] [] w1 by rw [hlb]] at RS1
  rw [hlb]
  clear hlb
  have l2 : w1.cell? ⟨L, 2, none⟩ = some (.map (some pm)) := (HI.out.later RS1.out.bel).box.cell 2
  have KP1 := Lib.hid (KP.out w1 RS1.out.bel)
  clear KP
  go_wp2_with fail
  refine KP1.out.mono ?_
  rintro e w2 ⟨ka, kc, rfl, ho, hb⟩
  have ST : Hid (RcS w RD RL d L g lb 0 0 none [] [] w2 ∧ Own w2 w1.heap.size 3 1 ka K kc (inL ks)) := Lib.hid ⟨RS1.out.later hb, ho⟩
  clear KP1 ho hb l2 RS1
  go_wp2_with fail
  go_loopw [22] (fun vi wr => ∃ (k n c : Nat) (a : Option Addr) (es : List En), vi = .int .i64 (k : Int) ∧ k ≤ K ∧ n ≤ k ∧ Hid (RcS w RD RL d L g lb n c a es ((ks.take k).filterMap (recP g)) wr ∧ Own wr w1.heap.size 3 1 ka K kc (inL ks))) (fun vi _ => K - (intV vi).toNat)
  case atStart => exact ⟨0, 0, 0, none, [], rfl, Nat.zero_le _, Nat.le_refl _, ST⟩
  case round =>
    clear ST
    obtain ⟨k, n, c, a, es, rfl, hk, hnk, HS⟩ := hrel
    by_cases hkK : k < K
    · have d1 : decide ((k : Int) < (K : Int)) = true := decide_eq_true (by omega)
      have d1n : decide (k < K) = true := decide_eq_true hkK
      obtain ⟨id, hid⟩ : ∃ id, ks[k]? = some id := ⟨_, List.getElem?_eq_getElem (by rw [HKL.out]; exact hkK)⟩
      have hok := HKO.out id (List.mem_of_getElem? hid)
      obtain ⟨g9, hg9, _, _⟩ := HS.out.2.some_ (by omega)
      subst hg9
      have ck := HS.out.2.cell (j := k) (u := .int .i64 id) (by unfold inL; rw [List.getElem?_map, hid]; rfl)
      have ik0 : (0 : Int) ≤ (k : Int) := by omega
      obtain ⟨o, ho⟩ : ∃ o, loadL g id = o := ⟨_, rfl⟩
      have LD := Lib.hid (load_at HS.out.1.lg id hok)
      rw [ho] at LD
      have TK : Hid ((ks.take (k + 1)).filterMap (recP g) = (ks.take k).filterMap (recP g) ++ (o.map fun r => (atI g.x id, encO ⟨1, r.id, r.host, r.path, r.prio, r.till⟩)).toList) := Lib.hid (by
        rw [List.take_add_one, hid, List.filterMap_append]
        congr 1
        show List.filterMap (recP g) [id] = _
        have e9 : recP g id = o.map fun r => (atI g.x id, encO ⟨1, r.id, r.host, r.path, r.prio, r.till⟩) := by unfold recP; rw [ho]
        rw [List.filterMap_cons, e9]
        cases o <;> rfl)
      have hPI : Hid (∀ W, PtM W pm g.x.puts → (Instr.lookup 58 (.map (some pm)) (.int .i64 id) false).run Tryz.prog W = .ok (plV (atI g.x id)) W) := Lib.hid (fun W hW => by
        rw [hW.look tyP id hok, getD_map]
        rfl)
      clear hid hok ho
      go_wp2_with fail
      refine LD.out.mono ?_
      rintro e w3 ⟨rfl, hb⟩
      have HS3 : Hid (RcS w RD RL d L g lb n c a es ((ks.take k).filterMap (recP g)) w3 ∧ Own w3 w1.heap.size 3 1 (some ⟨g9, 0, none⟩) K kc (inL ks)) := Lib.hid ⟨HS.out.1.later hb, HS.out.2.later hb⟩
      clear LD hb ck HS
      cases o with
      | none =>
        have hal := (Below.refl w3.heap.size w3).alloc (Nat.le_refl _) (.cells (reqL rc0).toArray 35)
        have NX : Hid (RcS w RD RL d L g lb n c a es ((ks.take (k + 1)).filterMap (recP g)) (w3.alloc (.cells (reqL rc0).toArray 35)) ∧ Own (w3.alloc (.cells (reqL rc0).toArray 35)) w1.heap.size 3 1 (some ⟨g9, 0, none⟩) K kc (inL ks)) := Lib.hid (by
          have t9 : (ks.take (k + 1)).filterMap (recP g) = (ks.take k).filterMap (recP g) := by rw [TK.out]; simp
          rw [t9]
          exact ⟨HS3.out.1.later hal, HS3.out.2.later hal⟩)
        unfold reqL rc0 at NX
        dsimp only at NX
        clear TK HS3 hal hPI
        simp only [Option.getD_none, Option.isSome_none, reqL, rc0]
        go_wp2_with fail
        go_roundw
        case rel => exact ⟨k + 1, n, c, a, es, by go_num, by omega, by omega, NX⟩
        case measure => simp [intV]; omega
      | some r =>
        obtain ⟨r0, r1, r2, r3, r4, r5⟩ := r
        have hal := (Below.refl w3.heap.size w3).alloc (Nat.le_refl _) (.cells #[.int .i64 r1, .string r2, .string r3, .int .i64 r4, .int .i64 r5] 35)
        have B4 : Hid (Box (w3.alloc (.cells #[.int .i64 r1, .string r2, .string r3, .int .i64 r4, .int .i64 r5] 35)) w3.heap.size #[.int .i64 r1, .string r2, .string r3, .int .i64 r4, .int .i64 r5] 35) := Lib.hid (Box.new w3 _ _)
        have HS4 : Hid (RcS w RD RL d L g lb n c a es ((ks.take k).filterMap (recP g)) (w3.alloc (.cells #[.int .i64 r1, .string r2, .string r3, .int .i64 r4, .int .i64 r5] 35)) ∧ Own (w3.alloc (.cells #[.int .i64 r1, .string r2, .string r3, .int .i64 r4, .int .i64 r5] 35)) w1.heap.size 3 1 (some ⟨g9, 0, none⟩) K kc (inL ks)) := Lib.hid ⟨HS3.out.1.later hal, HS3.out.2.later hal⟩
        simp only [Option.getD_some, Option.isSome_some, reqL]
        go_upto_region 8 with fail
        refine code_forget (fun W => Hid (RcS w RD RL d L g lb n c a es ((ks.take k).filterMap (recP g)) W ∧ Own W w1.heap.size 3 1 (some ⟨g9, 0, none⟩) K kc (inL ks)) ∧ Hid (Box W w3.heap.size #[.int .i64 r1, .string r2, .string r3, .int .i64 r4, .int .i64 r5] 35)) ⟨HS4, B4⟩ ?_
        obtain ⟨qb, hqb⟩ : ∃ p, w3.heap.size = p := ⟨_, rfl⟩
        rw [hqb]
        clear HS4 B4 HS3 hqb hal
        rintro w4 ⟨HS4, BQ3⟩
        obtain ⟨P, hP⟩ : ∃ P, atI g.x id = P := ⟨_, rfl⟩
        rw [hP] at hPI TK
        have LKP := hPI
        clear hPI hP
        have BL3 := Lib.hid (HI.out.later HS4.out.1.bel).box
        have PT3 : PtM w4.drew pm g.x.puts := (HI.out.later HS4.out.1.bel).puts.later (Below.refl _ _).drew
        have KP := Lib.hid (keep_at (HS4.out.1.rm.later (Below.refl _ _).drew) (show w.heap.size ≤ w4.drew.heap.size from HS4.out.1.bel.size) (by omega) P ⟨1, r1, r2, r3, r4, r5⟩)
        have NEXT : Hid (∀ w5, (∃ (a' : Option Addr) (c' : Nat) (x : En), x.p = P ∧ x.b = encO ⟨1, r1, r2, r3, r4, r5⟩ ∧ RecM w5 w.heap.size lb (n + 1) c' a' (es ++ [x]) ∧ Only (fun k => k = lb ∨ a = some ⟨k, 0, none⟩) w4.drew w5 ∧ ∀ k, a' = some ⟨k, 0, none⟩ → a = some ⟨k, 0, none⟩ ∨ w4.drew.heap.size ≤ k) →
            ∃ (a' : Option Addr) (c' : Nat) (es' : List En), RcS w RD RL d L g lb (n + 1) c' a' es' ((ks.take (k + 1)).filterMap (recP g)) w5 ∧ Own w5 w1.heap.size 3 1 (some ⟨g9, 0, none⟩) K kc (inL ks)) := Lib.hid (fun w5 h5 => by
          obtain ⟨a', c', es', q1, q2⟩ := (HS4.out.1.later (Below.refl _ _).drew).kept G.out h5
          rw [TK.out]
          exact ⟨a', c', es', q1, (HS4.out.1.later (Below.refl _ _).drew).rm.own_off q2 HS4.out.2.drew (by decide) (by decide)⟩)
        obtain ⟨p1, p2, p3⟩ := P
        unfold plV plC reqL at KP
        dsimp only at KP
        clear HS4 TK
        refine wp_region_last 9 (fun w' => PtM w' pm g.x.puts ∧ Box w' L (logC d g.n pm wm g.x.top) 66 ∧ Box w' qb #[.int .i64 r1, .string r2, .string r3, .int .i64 r4, .int .i64 r5] 35) (by kernel_rfl) (⟨PT3, BL3.out.drew, BQ3.out.drew⟩) (fun hHeld hClosed => ?_)
        refine wpAnyL_take (i := 0) (v := ?_) rfl (by kernel_rfl) (by kernel_rfl) (by kernel_rfl) (by kernel_rfl) (fun _ _ _ h => h) (by kernel_rfl) hClosed (Or.inl ⟨by rfl, ?_⟩) hHeld (fun hClosed => ?_)
        rotate_left
        · intro wv hSw; go_simp; all_goals (with_reducible rfl)
        (try simp only [List.getElem_toArray, List.getElem_cons_zero, put_at, List.set])
        refine wpAnyL_take (i := 1) (v := ?_) rfl (by kernel_rfl) (by kernel_rfl) (by kernel_rfl) (by kernel_rfl) (fun _ _ _ h => h) (by kernel_rfl) hClosed (Or.inl ⟨by rfl, ?_⟩) hHeld (fun hClosed => ?_)
        rotate_left
        · intro wv hSw; go_simp; all_goals (with_reducible rfl)
        (try simp only [List.getElem_toArray, List.getElem_cons_succ, List.getElem_cons_zero, put_at, List.set])
        refine wpAnyL_take (i := 2) (v := ?_) rfl (by kernel_rfl) (by kernel_rfl) (by kernel_rfl) (by kernel_rfl) (fun _ _ _ h => h) (by kernel_rfl) hClosed (Or.inl ⟨by rfl, ?_⟩) hHeld (fun hClosed => ?_)
        rotate_left
        · intro wv hSw; go_simp; all_goals (with_reducible rfl)
        (try simp only [List.getElem_toArray, List.getElem_cons_succ, List.getElem_cons_zero, put_at, List.set])
        refine wpAnyL_take (i := 3) (v := ?_) rfl (by kernel_rfl) (by kernel_rfl) (by kernel_rfl) (by kernel_rfl) (fun _ _ _ h => h) (by kernel_rfl) hClosed (Or.inl ⟨by rfl, ?_⟩) hHeld (fun hClosed => ?_)
        rotate_left
        · intro wv hSw; go_simp; all_goals (with_reducible rfl)
        (try simp only [List.getElem_toArray, List.getElem_cons_succ, List.getElem_cons_zero, put_at, List.set])
        refine wpAnyL_take (i := 4) (v := ?_) rfl (by kernel_rfl) (by kernel_rfl) (by kernel_rfl) (by kernel_rfl) (fun _ _ _ h => h) (by kernel_rfl) hClosed (Or.inl ⟨by rfl, ?_⟩) hHeld (fun hClosed => ?_)
        rotate_left
        · intro wv hSw; go_simp; all_goals (with_reducible rfl)
        (try simp only [List.getElem_toArray, List.getElem_cons_succ, List.getElem_cons_zero, put_at, List.set])
        refine wpAnyL_take (i := 5) (v := ?_) rfl (by kernel_rfl) (by kernel_rfl) (by kernel_rfl) (by kernel_rfl) (fun _ _ _ h => h) (by kernel_rfl) hClosed (Or.inl ⟨by rfl, ?_⟩) hHeld (fun hClosed => ?_)
        rotate_left
        · intro wv hSw; have l2 : wv.cell? ⟨L, 2, none⟩ = some (.map (some pm)) := hSw.2.1.cell 2; have lk9 := LKP.out _ hSw.1; unfold plV plC at lk9; dsimp only at lk9; go_simp; all_goals (with_reducible rfl)
        (try simp only [List.getElem_toArray, List.getElem_cons_succ, List.getElem_cons_zero, put_at, List.set])
        refine wpAnyL_take (i := 6) (v := ?_) rfl (by kernel_rfl) (by kernel_rfl) (by kernel_rfl) (by kernel_rfl) (fun _ _ _ h => h) (by kernel_rfl) hClosed (Or.inl ⟨by rfl, ?_⟩) hHeld (fun hClosed => ?_)
        rotate_left
        · intro wv hSw; go_simp; all_goals (with_reducible rfl)
        (try simp only [List.getElem_toArray, List.getElem_cons_succ, List.getElem_cons_zero, put_at, List.set])
        refine wpAnyL_take (i := 7) (v := ?_) rfl (by kernel_rfl) (by kernel_rfl) (by kernel_rfl) (by kernel_rfl) (fun _ _ _ h => h) (by kernel_rfl) hClosed (Or.inl ⟨by rfl, ?_⟩) hHeld (fun hClosed => ?_)
        rotate_left
        · intro wv hSw; have l2 : wv.cell? ⟨L, 2, none⟩ = some (.map (some pm)) := hSw.2.1.cell 2; have lk9 := LKP.out _ hSw.1; unfold plV plC at lk9; dsimp only at lk9; go_simp; all_goals (with_reducible rfl)
        (try simp only [List.getElem_toArray, List.getElem_cons_succ, List.getElem_cons_zero, put_at, List.set])
        refine wpAnyL_take (i := 8) (v := (.agg #[.int .i64 r1, .string r2, .string r3, .int .i64 r4, .int .i64 r5])) rfl (by kernel_rfl) (by kernel_rfl) (by kernel_rfl) (by kernel_rfl) (fun _ _ _ h => h) (by kernel_rfl) hClosed (Or.inl ⟨by rfl, ?_⟩) hHeld (fun hClosed => ?_)
        · intro wv hSw; exact exec_load_box (by rfl) (by rfl) hSw.2.2 Tryz.underlying35 rfl (by kernel_rfl)
        (try simp only [List.getElem_toArray, List.getElem_cons_succ, List.getElem_cons_zero, put_at, List.set])
        refine wpAnyL_last rfl (by kernel_rfl) (by kernel_rfl) (fun KK hK => ?_)
        have KP9 := Lib.hid (KP.out)
        clear hHeld
        go_simp
        refine KP9.out.mono ?_
        rintro e w4 ⟨rfl, hkp⟩
        obtain ⟨a', c', es', hn4, hk4⟩ := NEXT.out w4 hkp
        have NX := Lib.hid (And.intro hn4 hk4)
        clear hn4 hk4 hkp NEXT KP9 KP
        go_wp2_with fail
        refine hK.out _ _ ?_
        (try simp only [put_at, List.set])
        go_wp2_with fail
        go_roundw
        case rel => exact ⟨k + 1, n + 1, c', a', es', by go_num, by omega, by omega, NX⟩
        case measure => simp [intV]; omega
    · have d1 : decide ((k : Int) < (K : Int)) = false := decide_eq_false (by omega)
      have hkk : k = K := by omega
      subst hkk
      have RS3 : Hid (RcS w RD RL d L g lb n c a es (ks.filterMap (recP g)) wr) := Lib.hid (by
        have h9 := HS.out.1
        rw [List.take_of_length_le (by rw [HKL.out]; exact Nat.le_refl _)] at h9
        exact h9)
      clear HS
      have l3 : wr.cell? ⟨L, 3, none⟩ = some (.map wm) := (HI.out.later RS3.out.bel).box.cell 3
      have KW1 := Lib.hid (KW.out wr RS3.out.bel)
      clear KW
      go_wp2_with fail
      refine KW1.out.mono ?_
      rintro e w3 ⟨ha, hc, rfl, ho, hb⟩
      have ST : Hid (RcS w RD RL d L g lb n c a es (ks.filterMap (recP g) ++ (hs.take 0).map (recW g.x)) w3 ∧ Own w3 wr.heap.size 9 1 ha K2 hc (hs.map Value.string)) := Lib.hid ⟨by rw [List.take_zero, List.map_nil, List.append_nil]; exact RS3.out.later hb, ho⟩
      obtain ⟨B8, hB8⟩ : ∃ B, wr.heap.size = B := ⟨_, rfl⟩
      rw [hB8] at ST
      clear KW1 ho hb l3 RS3 hB8
      go_wp2_with fail
      go_loopw [51] (fun vi wr => ∃ (k n c : Nat) (a : Option Addr) (es : List En), vi = .int .i64 (k : Int) ∧ k ≤ K2 ∧ n ≤ 900000 + k ∧ Hid (RcS w RD RL d L g lb n c a es (ks.filterMap (recP g) ++ (hs.take k).map (recW g.x)) wr ∧ Own wr B8 9 1 ha K2 hc (hs.map Value.string))) (fun vi _ => K2 - (intV vi).toNat)
      case atStart => exact ⟨0, n, c, a, es, rfl, Nat.zero_le _, by omega, ST⟩
      case round =>
        clear ST
        obtain ⟨k, n, c, a, es, rfl, hk, hnk, HS⟩ := hrel
        by_cases hkK : k < K2
        · have d1 : decide ((k : Int) < (K2 : Int)) = true := decide_eq_true (by omega)
          have d1n : decide (k < K2) = true := decide_eq_true hkK
          obtain ⟨s, hid⟩ : ∃ s, hs[k]? = some s := ⟨_, List.getElem?_eq_getElem (by rw [HHL.out]; exact hkK)⟩
          have hok := HHO.out s (List.mem_of_getElem? hid)
          obtain ⟨g9, hg9, _, _⟩ := HS.out.2.some_ (by omega)
          subst hg9
          have ck := HS.out.2.cell (j := k) (u := .string s) (by rw [List.getElem?_map, hid]; rfl)
          have ik0 : (0 : Int) ≤ (k : Int) := by omega
          obtain ⟨v, hv⟩ : ∃ v, waitI g.x s = v := ⟨_, rfl⟩
          have IX := HI.out.later HS.out.1.bel
          have lkw : (Instr.lookup 59 (.map wm) (.string s) false).run Tryz.prog wr = .ok (wtV v) wr := by rw [IX.waits.look s hok, ← hv]; rfl
          have l3 : wr.cell? ⟨L, 3, none⟩ = some (.map wm) := IX.box.cell 3
          have TK : Hid (ks.filterMap (recP g) ++ (hs.take (k + 1)).map (recW g.x) = (ks.filterMap (recP g) ++ (hs.take k).map (recW g.x)) ++ [(v.at_, encO ⟨3, 0, s, ⟨#[]⟩, 0, v.till⟩)]) := Lib.hid (by
            rw [List.take_add_one, hid, List.map_append, List.append_assoc]
            show _ ++ (_ ++ [recW g.x s]) = _
            unfold recW
            rw [hv])
          obtain ⟨v0, v1, v2, v3⟩ := v
          unfold wtV at lkw
          dsimp only at lkw TK
          clear hid hok hv IX
          go_upto_region 14 with fail
          refine code_forget (fun W => Hid (RcS w RD RL d L g lb n c a es (ks.filterMap (recP g) ++ (hs.take k).map (recW g.x)) W ∧ Own W B8 9 1 (some ⟨g9, 0, none⟩) K2 hc (hs.map Value.string)) ∧ Hid (Box W wr.heap.size #[.int .i64 v0, .int .i64 v1, .int .i64 v2, .int .i64 v3] 142)) ⟨Lib.hid ⟨HS.out.1.later ((Below.refl _ _).alloc (Nat.le_refl _) _), HS.out.2.alloc _⟩, Lib.hid (Box.new _ _ _)⟩ ?_
          obtain ⟨qb, hqb⟩ : ∃ p, wr.heap.size = p := ⟨_, rfl⟩
          rw [hqb]
          clear HS hqb ck lkw l3
          rintro w4 ⟨HS4, BQ⟩
          have q0 := BQ.out.cell 0
          have q1 := BQ.out.cell 1
          have q2 := BQ.out.cell 2
          have q3 := BQ.out.cell 3
          have KP := Lib.hid (keep_at HS4.out.1.rm (show w.heap.size ≤ w4.heap.size from HS4.out.1.bel.size) (by omega) ⟨v1, v2, v3⟩ ⟨3, 0, s, ⟨#[]⟩, 0, v0⟩)
          have NEXT : Hid (∀ w5, (∃ (a' : Option Addr) (c' : Nat) (x : En), x.p = ⟨v1, v2, v3⟩ ∧ x.b = encO ⟨3, 0, s, ⟨#[]⟩, 0, v0⟩ ∧ RecM w5 w.heap.size lb (n + 1) c' a' (es ++ [x]) ∧ Only (fun k => k = lb ∨ a = some ⟨k, 0, none⟩) w4 w5 ∧ ∀ k, a' = some ⟨k, 0, none⟩ → a = some ⟨k, 0, none⟩ ∨ w4.heap.size ≤ k) →
              ∃ (a' : Option Addr) (c' : Nat) (es' : List En), RcS w RD RL d L g lb (n + 1) c' a' es' (ks.filterMap (recP g) ++ (hs.take (k + 1)).map (recW g.x)) w5 ∧ Own w5 B8 9 1 (some ⟨g9, 0, none⟩) K2 hc (hs.map Value.string)) := Lib.hid (fun w5 h5 => by
            obtain ⟨a', c', es', q1, q2⟩ := HS4.out.1.kept G.out h5
            rw [TK.out]
            exact ⟨a', c', es', q1, HS4.out.1.rm.own_off q2 HS4.out.2 (by decide) (by decide)⟩)
          unfold plV plC reqL at KP
          dsimp only at KP
          clear HS4 TK
          go_wp2_with fail
          refine KP.out.mono ?_
          rintro e w5 ⟨rfl, hkp⟩
          obtain ⟨a', c', es', hn4, hk4⟩ := NEXT.out w5 hkp
          have NX := Lib.hid (And.intro hn4 hk4)
          clear hn4 hk4 hkp NEXT KP BQ q0 q1 q2 q3
          go_wp2_with fail
          go_roundw
          case rel => exact ⟨k + 1, n + 1, c', a', es', by go_num, by omega, by omega, NX⟩
          case measure => simp [intV]; omega
        · have d1 : decide ((k : Int) < (K2 : Int)) = false := decide_eq_false (by omega)
          have hkk : k = K2 := by omega
          subst hkk
          obtain ⟨X, hX⟩ : ∃ X, ks.filterMap (recP g) ++ hs.map (recW g.x) = X := ⟨_, rfl⟩
          have HX : Hid (sortedL g = (stabS ltP (X ++ recT g.x).toArray).toList) := Lib.hid (by rw [← hX]; exact HFIN.out)
          have RS6 : Hid (RcS w RD RL d L g lb n c a es X wr) := Lib.hid (by
            have h9 := HS.out.1
            rw [List.take_of_length_le (by rw [HHL.out]; exact Nat.le_refl _), hX] at h9
            exact h9)
          have hn9 : n ≤ 1800000 := by omega
          clear HS hX HFIN HKO HHO HKL HHL
          have IX := HI.out.later RS6.out.bel
          have BL6 := Lib.hid IX.box
          have PT6 : PtM wr.drew pm g.x.puts := IX.puts.later (Below.refl _ _).drew
          have htk : okI g.x.top := okI_of (by have := G.out.lx.ok.top0; omega) G.out.lx.ok.top1
          obtain ⟨q, hq⟩ : ∃ q, (gA g.x.puts g.x.top).isSome = q := ⟨_, rfl⟩
          have LKT : Hid (∀ W, PtM W pm g.x.puts → (Instr.lookup 58 (.map (some pm)) (.int .i64 g.x.top) true).run Tryz.prog W = .ok (.tuple #[plV (atI g.x g.x.top), .bool q]) W) := Lib.hid (fun W hW => by
            rw [hW.look_ok tyP _ htk, getD_map, hq]
            rfl)
          have HT : Hid (recT g.x = if (!q && decide (0 < g.x.top)) = true then [(nowh, encO ⟨2, g.x.top, ⟨#[]⟩, ⟨#[]⟩, 0, 0⟩)] else []) := Lib.hid (by rw [← hq]; rfl)
          clear hq IX htk
          go_upto_region 16 with fail
          refine wp_region_last 16 (fun w' => PtM w' pm g.x.puts ∧ Box w' L (logC d g.n pm wm g.x.top) 66 ∧ RcS w RD RL d L g lb n c a es X w') (by kernel_rfl) (⟨PT6, BL6.out.drew, RS6.out.later (Below.refl _ _).drew⟩) (fun hHeld hClosed => ?_)
          refine wpAnyL_take (i := 0) (v := ?_) rfl (by kernel_rfl) (by kernel_rfl) (by kernel_rfl) (by kernel_rfl) (fun _ _ _ h => h) (by kernel_rfl) hClosed (Or.inl ⟨by rfl, ?_⟩) hHeld (fun hClosed => ?_)
          rotate_left
          · intro wv hSw; go_simp; all_goals (with_reducible rfl)
          (try simp only [List.getElem_toArray, List.getElem_cons_zero, put_at, List.set])
          refine wpAnyL_take (i := 1) (v := ?_) rfl (by kernel_rfl) (by kernel_rfl) (by kernel_rfl) (by kernel_rfl) (fun _ _ _ h => h) (by kernel_rfl) hClosed (Or.inl ⟨by rfl, ?_⟩) hHeld (fun hClosed => ?_)
          rotate_left
          · intro wv hSw; go_simp; all_goals (with_reducible rfl)
          (try simp only [List.getElem_toArray, List.getElem_cons_succ, List.getElem_cons_zero, put_at, List.set])
          refine wpAnyL_take (i := 2) (v := ?_) rfl (by kernel_rfl) (by kernel_rfl) (by kernel_rfl) (by kernel_rfl) (fun _ _ _ h => h) (by kernel_rfl) hClosed (Or.inl ⟨by rfl, ?_⟩) hHeld (fun hClosed => ?_)
          rotate_left
          · intro wv hSw; go_simp; all_goals (with_reducible rfl)
          (try simp only [List.getElem_toArray, List.getElem_cons_succ, List.getElem_cons_zero, put_at, List.set])
          refine wpAnyL_take (i := 3) (v := ?_) rfl (by kernel_rfl) (by kernel_rfl) (by kernel_rfl) (by kernel_rfl) (fun _ _ _ h => h) (by kernel_rfl) hClosed (Or.inl ⟨by rfl, ?_⟩) hHeld (fun hClosed => ?_)
          rotate_left
          · intro wv hSw; go_simp; all_goals (with_reducible rfl)
          (try simp only [List.getElem_toArray, List.getElem_cons_succ, List.getElem_cons_zero, put_at, List.set])
          refine wpAnyL_take (i := 4) (v := ?_) rfl (by kernel_rfl) (by kernel_rfl) (by kernel_rfl) (by kernel_rfl) (fun _ _ _ h => h) (by kernel_rfl) hClosed (Or.inl ⟨by rfl, ?_⟩) hHeld (fun hClosed => ?_)
          rotate_left
          · intro wv hSw; have l2 : wv.cell? ⟨L, 2, none⟩ = some (.map (some pm)) := hSw.2.1.cell 2; have l4 : wv.cell? ⟨L, 4, none⟩ = some (.int .i64 g.x.top) := hSw.2.1.cell 4; have lk9 := LKT.out _ hSw.1; unfold plV plC at lk9; (try dsimp only at lk9); go_simp; all_goals (with_reducible rfl)
          (try simp only [List.getElem_toArray, List.getElem_cons_succ, List.getElem_cons_zero, put_at, List.set])
          refine wpAnyL_take (i := 5) (v := ?_) rfl (by kernel_rfl) (by kernel_rfl) (by kernel_rfl) (by kernel_rfl) (fun _ _ _ h => h) (by kernel_rfl) hClosed (Or.inl ⟨by rfl, ?_⟩) hHeld (fun hClosed => ?_)
          rotate_left
          · intro wv hSw; go_simp; all_goals (with_reducible rfl)
          (try simp only [List.getElem_toArray, List.getElem_cons_succ, List.getElem_cons_zero, put_at, List.set])
          refine wpAnyL_take (i := 6) (v := ?_) rfl (by kernel_rfl) (by kernel_rfl) (by kernel_rfl) (by kernel_rfl) (fun _ _ _ h => h) (by kernel_rfl) hClosed (Or.inl ⟨by rfl, ?_⟩) hHeld (fun hClosed => ?_)
          rotate_left
          · intro wv hSw; go_simp; all_goals (with_reducible rfl)
          (try simp only [List.getElem_toArray, List.getElem_cons_succ, List.getElem_cons_zero, put_at, List.set])
          refine wpAnyL_take (i := 7) (v := ?_) rfl (by kernel_rfl) (by kernel_rfl) (by kernel_rfl) (by kernel_rfl) (fun _ _ _ h => h) (by kernel_rfl) hClosed (Or.inl ⟨by rfl, ?_⟩) hHeld (fun hClosed => ?_)
          rotate_left
          · intro wv hSw; go_simp; all_goals (with_reducible rfl)
          (try simp only [List.getElem_toArray, List.getElem_cons_succ, List.getElem_cons_zero, put_at, List.set])
          refine wpAnyL_take (i := 8) (v := ?_) rfl (by kernel_rfl) (by kernel_rfl) (by kernel_rfl) (by kernel_rfl) (fun _ _ _ h => h) (by kernel_rfl) hClosed (Or.inl ⟨by rfl, ?_⟩) hHeld (fun hClosed => ?_)
          rotate_left
          · intro wv hSw; go_simp; all_goals (with_reducible rfl)
          (try simp only [List.getElem_toArray, List.getElem_cons_succ, List.getElem_cons_zero, put_at, List.set])
          refine wpAnyL_take (i := 9) (v := ?_) rfl (by kernel_rfl) (by kernel_rfl) (by kernel_rfl) (by kernel_rfl) (fun _ _ _ h => h) (by kernel_rfl) hClosed (Or.inl ⟨by rfl, ?_⟩) hHeld (fun hClosed => ?_)
          rotate_left
          · intro wv hSw; have l2 : wv.cell? ⟨L, 2, none⟩ = some (.map (some pm)) := hSw.2.1.cell 2; have l4 : wv.cell? ⟨L, 4, none⟩ = some (.int .i64 g.x.top) := hSw.2.1.cell 4; have lk9 := LKT.out _ hSw.1; unfold plV plC at lk9; (try dsimp only at lk9); go_simp; all_goals (with_reducible rfl)
          (try simp only [List.getElem_toArray, List.getElem_cons_succ, List.getElem_cons_zero, put_at, List.set])
          refine wpAnyL_take (i := 10) (v := ?_) rfl (by kernel_rfl) (by kernel_rfl) (by kernel_rfl) (by kernel_rfl) (fun _ _ _ h => h) (by kernel_rfl) hClosed (Or.inl ⟨by rfl, ?_⟩) hHeld (fun hClosed => ?_)
          rotate_left
          · intro wv hSw; have l2 : wv.cell? ⟨L, 2, none⟩ = some (.map (some pm)) := hSw.2.1.cell 2; have l4 : wv.cell? ⟨L, 4, none⟩ = some (.int .i64 g.x.top) := hSw.2.1.cell 4; have lk9 := LKT.out _ hSw.1; unfold plV plC at lk9; (try dsimp only at lk9); go_simp; all_goals (with_reducible rfl)
          (try simp only [List.getElem_toArray, List.getElem_cons_succ, List.getElem_cons_zero, put_at, List.set])
          refine wpAnyL_take (i := 11) (v := ?_) rfl (by kernel_rfl) (by kernel_rfl) (by kernel_rfl) (by kernel_rfl) (fun _ _ _ h => h) (by kernel_rfl) hClosed (Or.inl ⟨by rfl, ?_⟩) hHeld (fun hClosed => ?_)
          rotate_left
          · intro wv hSw; go_simp; all_goals (with_reducible rfl)
          (try simp only [List.getElem_toArray, List.getElem_cons_succ, List.getElem_cons_zero, put_at, List.set])
          refine wpAnyL_take (i := 12) (v := ?_) rfl (by kernel_rfl) (by kernel_rfl) (by kernel_rfl) (by kernel_rfl) (fun _ _ _ h => h) (by kernel_rfl) hClosed (Or.inl ⟨by rfl, ?_⟩) hHeld (fun hClosed => ?_)
          rotate_left
          · intro wv hSw; go_simp; all_goals (with_reducible rfl)
          (try simp only [List.getElem_toArray, List.getElem_cons_succ, List.getElem_cons_zero, put_at, List.set])
          refine wpAnyL_take (i := 13) (v := ?_) rfl (by kernel_rfl) (by kernel_rfl) (by kernel_rfl) (by kernel_rfl) (fun _ _ _ h => h) (by kernel_rfl) hClosed (Or.inl ⟨by rfl, ?_⟩) hHeld (fun hClosed => ?_)
          rotate_left
          · intro wv hSw; go_simp; all_goals (with_reducible rfl)
          (try simp only [List.getElem_toArray, List.getElem_cons_succ, List.getElem_cons_zero, put_at, List.set])
          refine wpAnyL_one (i := 14) rfl (by kernel_rfl) (by kernel_rfl) hClosed (fun KK hK => ?_)
          go_simp
          refine hK.out _ _ ?_ (fun hClosed hHeld => ?_)
          · exact ⟨hHeld.1.later ((Below.refl _ _).alloc (Nat.le_refl _) _), hHeld.2.1.alloc _, hHeld.2.2.later ((Below.refl _ _).alloc (Nat.le_refl _) _)⟩
          clear hK KK
          (first | simp only [List.getElem_toArray, List.getElem_cons_succ, List.getElem_cons_zero, put_at, List.set] | (try simp only [put_at, List.set]))
          refine wpAnyL_one (i := 15) rfl (by kernel_rfl) (by kernel_rfl) hClosed (fun KK hK => ?_)
          have hbz : Box (wr.drew.alloc (.cells #[.int .i64 0, .int .i64 0, .int .i64 0] 81)) wr.drew.heap.size #[.int .i64 0, .int .i64 0, .int .i64 0] 81 := Box.new _ _ _
          refine step_store_row rfl rfl rfl rfl hbz rfl (by kernel_rfl) (by simp [Value.oneCell']) ?_
          refine hK.out _ _ ?_ (fun hClosed hHeld => ?_)
          · exact ⟨PT6.later (below_row ((Below.refl _ _).alloc (Nat.le_refl _) _) (Nat.le_refl _) _), BL6.out.drew.alloc _ |>.otherRow (by have := BL6.out.lt; show L ≠ wr.heap.size; omega) _, (RS6.out.later (Below.refl _ _).drew).later (below_row ((Below.refl _ _).alloc (Nat.le_refl _) _) (by show wr.heap.size ≤ wr.heap.size; omega) _)⟩
          clear hK KK
          (first | simp only [List.getElem_toArray, List.getElem_cons_succ, List.getElem_cons_zero, put_at, List.set] | (try simp only [put_at, List.set]))
          refine last_forget (fun W => Hid (RcS w RD RL d L g lb n c a es X W)) (Lib.hid hHeld.2.2) ?_
          clear hHeld RS6 BL6 PT6
          intro w7 RS7
          refine wpAnyL_last rfl (by kernel_rfl) (by kernel_rfl) (fun KK hK => ?_)
          go_simp
          refine hK.out _ _ ?_
          (try simp only [put_at, List.set])
          clear hClosed
          obtain ⟨Q, hQ⟩ : ∃ Q, (!q && decide (0 < g.x.top)) = Q := ⟨_, rfl⟩
          have HT2 : Hid (recT g.x = if Q = true then [(nowh, encO ⟨2, g.x.top, ⟨#[]⟩, ⟨#[]⟩, 0, 0⟩)] else []) := Lib.hid (by rw [HT.out, hQ])
          clear HT
          have BL7 := Lib.hid (HI.out.later RS7.out.bel).box
          have l4 : w7.cell? ⟨L, 4, none⟩ = some (.int .i64 g.x.top) := BL7.out.cell 4
          go_upto_region 17 with fail
          go_cut [94] (fun v wx => v = .bool Q ∧ wx = w7)
          case first =>
            cases q with
            | true =>
              obtain rfl : false = Q := hQ
              go_wp2_with fail
              go_meet
              exact ⟨rfl, rfl⟩
            | false =>
              obtain rfl : decide (0 < g.x.top) = Q := hQ
              go_wp2_with fail
              go_meet
              exact ⟨rfl, rfl⟩
          case rest =>
          obtain ⟨rfl, he1⟩ := hcut
          have he1 := he1.symm
          subst he1
          clear hQ
          go_upto_if 94 with fail
          go_cut [] (fun wc => ∃ (n c : Nat) (a : Option Addr) (es : List En), n ≤ 1800001 ∧ Hid (RcS w RD RL d L g lb n c a es (X ++ recT g.x) wc))
          case first =>
            cases Q with
            | false =>
              have RS8 : Hid (RcS w RD RL d L g lb n c a es (X ++ recT g.x) w7) := Lib.hid (by
                rw [show recT g.x = [] from HT2.out, List.append_nil]
                exact RS7.out)
              go_wp2_with fail
              go_meet
              exact ⟨n, c, a, es, by omega, RS8⟩
            | true =>
              have KP := Lib.hid (keep_at (RS7.out.rm.later (Below.refl _ _).drew) (show w.heap.size ≤ w7.drew.heap.size from RS7.out.bel.size) (by omega) nowh ⟨2, g.x.top, ⟨#[]⟩, ⟨#[]⟩, 0, 0⟩)
              have NEXT : Hid (∀ w5, (∃ (a' : Option Addr) (c' : Nat) (x : En), x.p = nowh ∧ x.b = encO ⟨2, g.x.top, ⟨#[]⟩, ⟨#[]⟩, 0, 0⟩ ∧ RecM w5 w.heap.size lb (n + 1) c' a' (es ++ [x]) ∧ Only (fun k => k = lb ∨ a = some ⟨k, 0, none⟩) w7.drew w5 ∧ ∀ k, a' = some ⟨k, 0, none⟩ → a = some ⟨k, 0, none⟩ ∨ w7.drew.heap.size ≤ k) →
                  ∃ (a' : Option Addr) (c' : Nat) (es' : List En), RcS w RD RL d L g lb (n + 1) c' a' es' (X ++ recT g.x) w5 ∧ True) := Lib.hid (fun w5 h5 => by
                obtain ⟨a', c', es', q1, q2⟩ := (RS7.out.later (Below.refl _ _).drew).kept G.out h5
                rw [show recT g.x = _ from HT2.out]
                exact ⟨a', c', es', q1, trivial⟩)
              unfold plV reqL at KP
              dsimp only at KP
              go_upto_region 18 with fail
              refine wp_region_last 8 (fun w' => NowM w' ∧ Box w' L (logC d g.n pm wm g.x.top) 66) (by kernel_rfl) (⟨RS7.out.lg.now.later (Below.refl _ _).drew, BL7.out.drew⟩) (fun hHeld hClosed => ?_)
              refine wpAnyL_take (i := 0) (v := ?_) rfl (by kernel_rfl) (by kernel_rfl) (by kernel_rfl) (by kernel_rfl) (fun _ _ _ h => h) (by kernel_rfl) hClosed (Or.inl ⟨by rfl, ?_⟩) hHeld (fun hClosed => ?_)
              rotate_left
              · intro wv hSw; go_simp; all_goals (with_reducible rfl)
              (try simp only [List.getElem_toArray, List.getElem_cons_zero, put_at, List.set])
              refine wpAnyL_take (i := 1) (v := (.agg (plC nowh))) rfl (by kernel_rfl) (by kernel_rfl) (by kernel_rfl) (by kernel_rfl) (fun _ _ _ h => h) (by kernel_rfl) hClosed (Or.inl ⟨by rfl, ?_⟩) hHeld (fun hClosed => ?_)
              · intro wv hSw; exact exec_load_at (by rfl) (by rfl) (now_cells hSw.1) Tryz.underlying81 rfl (by kernel_rfl)
              (try simp only [List.getElem_toArray, List.getElem_cons_succ, List.getElem_cons_zero, put_at, List.set])
              refine wpAnyL_take (i := 2) (v := ?_) rfl (by kernel_rfl) (by kernel_rfl) (by kernel_rfl) (by kernel_rfl) (fun _ _ _ h => h) (by kernel_rfl) hClosed (Or.inl ⟨by rfl, ?_⟩) hHeld (fun hClosed => ?_)
              rotate_left
              · intro wv hSw; go_simp; all_goals (with_reducible rfl)
              (try simp only [List.getElem_toArray, List.getElem_cons_succ, List.getElem_cons_zero, put_at, List.set])
              refine wpAnyL_take (i := 3) (v := ?_) rfl (by kernel_rfl) (by kernel_rfl) (by kernel_rfl) (by kernel_rfl) (fun _ _ _ h => h) (by kernel_rfl) hClosed (Or.inl ⟨by rfl, ?_⟩) hHeld (fun hClosed => ?_)
              rotate_left
              · intro wv hSw; go_simp; all_goals (with_reducible rfl)
              (try simp only [List.getElem_toArray, List.getElem_cons_succ, List.getElem_cons_zero, put_at, List.set])
              refine wpAnyL_take (i := 4) (v := ?_) rfl (by kernel_rfl) (by kernel_rfl) (by kernel_rfl) (by kernel_rfl) (fun _ _ _ h => h) (by kernel_rfl) hClosed (Or.inl ⟨by rfl, ?_⟩) hHeld (fun hClosed => ?_)
              rotate_left
              · intro wv hSw; go_simp; all_goals (with_reducible rfl)
              (try simp only [List.getElem_toArray, List.getElem_cons_succ, List.getElem_cons_zero, put_at, List.set])
              refine wpAnyL_take (i := 5) (v := ?_) rfl (by kernel_rfl) (by kernel_rfl) (by kernel_rfl) (by kernel_rfl) (fun _ _ _ h => h) (by kernel_rfl) hClosed (Or.inl ⟨by rfl, ?_⟩) hHeld (fun hClosed => ?_)
              rotate_left
              · intro wv hSw; go_simp; all_goals (with_reducible rfl)
              (try simp only [List.getElem_toArray, List.getElem_cons_succ, List.getElem_cons_zero, put_at, List.set])
              refine wpAnyL_take (i := 6) (v := ?_) rfl (by kernel_rfl) (by kernel_rfl) (by kernel_rfl) (by kernel_rfl) (fun _ _ _ h => h) (by kernel_rfl) hClosed (Or.inl ⟨by rfl, ?_⟩) hHeld (fun hClosed => ?_)
              rotate_left
              · intro wv hSw; have l4 : wv.cell? ⟨L, 4, none⟩ = some (.int .i64 g.x.top) := hSw.2.cell 4; go_simp; all_goals (with_reducible rfl)
              (try simp only [List.getElem_toArray, List.getElem_cons_succ, List.getElem_cons_zero, put_at, List.set])
              refine wpAnyL_take (i := 7) (v := ?_) rfl (by kernel_rfl) (by kernel_rfl) (by kernel_rfl) (by kernel_rfl) (fun _ _ _ h => h) (by kernel_rfl) hClosed (Or.inl ⟨by rfl, ?_⟩) hHeld (fun hClosed => ?_)
              rotate_left
              · intro wv hSw; go_simp; all_goals (with_reducible rfl)
              (try simp only [List.getElem_toArray, List.getElem_cons_succ, List.getElem_cons_zero, put_at, List.set])
              refine wpAnyL_last rfl (by kernel_rfl) (by kernel_rfl) (fun KK hK => ?_)
              have KP9 := Lib.hid KP.out
              clear hHeld
              go_simp
              refine KP9.out.mono ?_
              rintro e w4 ⟨rfl, hkp⟩
              obtain ⟨a', c', es', hn4, hk4⟩ := NEXT.out w4 hkp
              have NX := Lib.hid hn4
              clear hn4 hk4 hkp NEXT KP9 KP
              go_wp2_with fail
              refine hK.out _ _ ?_
              (try simp only [put_at, List.set])
              go_wp2_with fail
              go_meet
              exact ⟨n + 1, c', a', es', by omega, NX⟩
          case rest =>
          obtain ⟨n, c, a, es, hn9, RS9⟩ := hcut
          have l0 : wc.cell? ⟨lb, 0, none⟩ = some (.slice a n c) := RS9.out.rm.box.cell 0
          have O9 := Lib.hid RS9.out.rm.own
          have HB9 := RS9.out.bel.size
          obtain ⟨es', hes⟩ : ∃ es', (stabS ltE es.toArray).toList = es' := ⟨_, rfl⟩
          have HES : Hid (es'.map fE = sortedL g ∧ es'.Perm es) := Lib.hid ⟨by rw [← hes, fE_stab, HX.out, RS9.out.eq], by rw [← hes]; exact pm_stabS ltE es.toArray⟩
          have SRT : Hid (Calls Tryz.prog 107 #[.slice a n c, .func (.func 108) #[] #[]] wc fun e w' => e = .returned (.tuple #[]) ∧ Own w' w.heap.size 152 4 a n c (flE enE es') ∧ Only (fun k => a = some ⟨k, 0, none⟩) wc w') := Lib.hid (by
            rcases RS9.out.rm.own.form with ⟨rfl, rfl, rfl⟩ | ⟨g5, rfl, _, _⟩
            · refine (sortStable_none none 0 wc).mono ?_
              rintro e w' ⟨rfl, rfl⟩
              have e0 : es = [] := List.eq_nil_of_length_eq_zero RS9.out.rm.len
              have e1 : es' = [] := by
                have h9 := HES.out.2.length_eq
                rw [e0] at h9
                exact List.eq_nil_of_length_eq_zero h9
              rw [e1]
              exact ⟨rfl, Own.nil _ _ _ _, Only.refl _ _⟩
            · refine (sortStable_at (w0 := wc) (B := w.heap.size) (d := es.toArray) ⟨RS9.out.rm.own, Only.refl _ _, by simpa using RS9.out.rm.len⟩ (by omega)).mono ?_
              rintro e w' ⟨rfl, hw⟩
              refine ⟨rfl, ?_, hw.only.wide (fun k hk => by rw [hk])⟩
              rw [← hes]
              exact hw.own)
          clear hes
          go_upto_region 19 with fail
          go_wp2_with fail
          refine SRT.out.mono ?_
          rintro e w9 ⟨rfl, ho9, hon⟩
          have FIN : Hid (Own w9 w.heap.size 152 4 a n c (flE enE es') ∧ es'.length = n ∧ (∀ e ∈ es', e.b.length = e.n ∧ Own w9 w.heap.size 5 1 e.a e.n e.c (u8L e.b)) ∧ (es'.Pairwise fun x y => ∀ g, x.a = some ⟨g, 0, none⟩ → y.a ≠ some ⟨g, 0, none⟩) ∧ es'.map fE = sortedL g ∧ Below w.heap.size w w9) := Lib.hid (by
            obtain ⟨q1, q2⟩ := HES.out
            refine ⟨ho9, by rw [q2.length_eq]; exact RS9.out.rm.len, fun e he => ?_, ?_, q1, RS9.out.bel.trans (hon.below HB9 (fun k hk => (own_lt RS9.out.rm.own hk).2))⟩
            · obtain ⟨k1, k2⟩ := RS9.out.rm.byt e (q2.mem_iff.1 he)
              exact ⟨k1, k2.only hon (fun k hk hk2 => own_apart k2 RS9.out.rm.own hk hk2 (by decide))⟩
            · exact (q2.pairwise_iff (fun {x y} hxy g hy hx => hxy g hx hy)).2 RS9.out.rm.ne)
          have l9 : w9.cell? ⟨lb, 0, none⟩ = some (.slice a n c) := (cell_blk (hon.block lb RS9.out.rm.box.lt (fun hk => own_not_box (hk ▸ RS9.out.rm.own) RS9.out.rm.box (by decide) rfl)) 0).trans l0
          clear ho9 hon SRT HES O9 l0 RS9
          go_wp2_with fail
          go_ret
          exact ⟨n, c, a, es', rfl, by omega, FIN.out⟩
end Go.Proofs.YtimkgaokcldgkaaGreatDoor
/- Package spill: pack. Written by gen_pack.py. -/
namespace Go.Proofs.YtimkgaokcldgkaaGreatDoor
open Go Go.RowKit Go.Maps Go.Sort
set_option linter.unusedVariables false
set_option linter.unusedSimpArgs false
set_option maxRecDepth 100000

theorem rowBB : RowTy Tryz.prog 130 55 1 24 := ⟨Tryz.underlying130, ⟨.slice none 0 0, by kernel_rfl, rfl⟩, by decide⟩
/-- Bytes of one's own, and where they lie. -/
structure By where
  a : Option Addr
  n : Nat
  c : Nat
  b : List Int
def byV (x : By) : Value := .slice x.a x.n x.c
def En.by_ (e : En) : By := ⟨e.a, e.n, e.c, e.b⟩
def Dist (x y : By) : Prop := ∀ g, x.a = some ⟨g, 0, none⟩ → y.a ≠ some ⟨g, 0, none⟩
theorem Dist.symm {x y : By} (h : Dist x y) : Dist y x := fun g hy hx => h g hx hy
/-- Rows of bytes, no two in one block. -/
structure Famy (w : World) (B : Nat) (l : List By) : Prop where
  own : ∀ x ∈ l, x.b.length = x.n ∧ Own w B 5 1 x.a x.n x.c (u8L x.b)
  ne : l.Pairwise Dist
theorem Famy.later {w w' : World} {B : Nat} {l : List By} (h : Famy w B l) (hb : Below w.heap.size w w') : Famy w' B l := ⟨fun x hx => ⟨(h.own x hx).1, (h.own x hx).2.later hb⟩, h.ne⟩
theorem Famy.sub {w : World} {B : Nat} {l l' : List By} (h : Famy w B l) (hs : l'.Sublist l) : Famy w B l' := ⟨fun x hx => h.own x (hs.subset hx), h.ne.sublist hs⟩
theorem Famy.only {w w' : World} {B : Nat} {l : List By} (h : Famy w B l) {R : Nat → Prop} (ho : Only R w w') (hn : ∀ x ∈ l, ∀ g, x.a = some ⟨g, 0, none⟩ → ¬ R g) : Famy w' B l := ⟨fun x hx => ⟨(h.own x hx).1, (h.own x hx).2.only ho (hn x hx)⟩, h.ne⟩
/-- One of them has grown. -/
theorem Famy.grown {w w' : World} {B : Nat} {l : List By} (h : Famy w B l) {i : Nat} {x x' : By} (hi : l[i]? = some x) (hx : x'.b.length = x'.n ∧ Own w' B 5 1 x'.a x'.n x'.c (u8L x'.b)) (hg : w.grownBy w' (x.a.map (·.block))) (hn : ∀ g, x'.a = some ⟨g, 0, none⟩ → x.a.map (·.block) = some g ∨ w.heap.size ≤ g) : Famy w' B (l.set i x') := by
  obtain ⟨hil, hie⟩ := List.getElem?_eq_some_iff.1 hi
  have hne := List.pairwise_iff_getElem.1 h.ne
  have hxo := (h.own x (List.mem_of_getElem? hi)).2
  have hxa : ∀ {k : Nat}, x.a.map (·.block) = some k → x.a = some ⟨k, 0, none⟩ := fun hk => own_block5 hxo hk
  have dist : ∀ j (hj : j < l.length), j ≠ i → Dist x l[j] := fun j hj hji => by
    rcases Nat.lt_or_gt_of_ne hji with h1 | h1
    · have := hne j i hj hil h1
      rw [hie] at this
      exact this.symm
    · have := hne i j hil hj h1
      rw [hie] at this
      exact this
  have dist' : ∀ j (hj : j < l.length), j ≠ i → Dist x' l[j] := fun j hj hji g hg1 hg2 => by
    rcases hn g hg1 with h1 | h1
    · exact dist j hj hji g (hxa h1) hg2
    · have := (own_lt (h.own _ (List.getElem_mem hj)).2 hg2).1
      omega
  refine ⟨fun y hy => ?_, List.pairwise_iff_getElem.2 fun p q hp hq hpq => ?_⟩
  · obtain ⟨j, hj, rfl⟩ := List.mem_iff_getElem.1 hy
    have hj2 : j < l.length := by simpa using hj
    by_cases hji : j = i
    · subst hji
      rw [List.getElem_set_self]
      exact hx
    · rw [List.getElem_set_ne (Ne.symm hji)]
      have ho := h.own _ (List.getElem_mem hj2)
      refine ⟨ho.1, ho.2.blocks fun g hg2 => hg.block g (own_lt ho.2 hg2).1 fun e => ?_⟩
      exact dist j hj2 hji g (hxa e.symm) hg2
  · have hp2 : p < l.length := by simpa using hp
    have hq2 : q < l.length := by simpa using hq
    by_cases h1 : p = i
    · subst h1
      rw [List.getElem_set_self, List.getElem_set_ne (by omega)]
      exact dist' q hq2 (by omega)
    · by_cases h2 : q = i
      · subst h2
        rw [List.getElem_set_self, List.getElem_set_ne (by omega)]
        exact (dist' p hp2 (by omega)).symm
      · rw [List.getElem_set_ne (by omega), List.getElem_set_ne (by omega)]
        exact hne p q hp2 hq2 hpq
/-- Is there room in a chunk? -/
theorem fits_at {w : World} {rb : Nat} {p1 p2 p3 : Int} {ea : Option Addr} {en ec : Nat} (hb : Box w rb #[.int .i64 p1, .int .i64 p2, .int .i64 p3, .slice ea en ec] 152) (a : Option Addr) (n c : Nat) (hn : n ≤ 1000000) (hm : en ≤ 1000000) :
    Calls Tryz.prog 85 #[.slice a n c, .pointer (some ⟨rb, 0, none⟩)] w fun e w' => e = .returned (.bool (decide (n + en ≤ 2048))) ∧ w' = w := by
  obtain ⟨q, hq⟩ : ∃ q, decide (n + en ≤ 2048) = q := ⟨_, rfl⟩
  have hq2 : decide ((n : Int) + (en : Int) ≤ 2048) = q := by rw [← hq]; congr 1; simp; omega
  have c3 : w.cell? ⟨rb, 3, none⟩ = some (.slice ea en ec) := hb.cell 3
  have hw : IntKind.i64.wrap ((n : Int) + (en : Int)) = (n : Int) + (en : Int) := by rw [IntKind.wrap_i64]; omega
  rw [hq]
  clear hb hq
  go_enter Tryz.func85, Tryz.ntmps85
  go_wp2
  go_ret
  exact ⟨rfl, rfl⟩
/-- The first chunk with room. -/
def idxC (cs : List By) (m : Nat) : Int := match cs.findIdx? (fun x => decide (x.b.length + m ≤ 2048)) with
  | none => -1
  | some i => (i : Int)
set_option maxHeartbeats 2000000 in
theorem index_at {w : World} {B m c rb en ec : Nat} {a ea : Option Addr} {cs : List By} {p1 p2 p3 : Int} (ho : Own w B 55 1 a m c (cs.map byV)) (hl : cs.length = m) (hm : m ≤ 3000000) (hx : ∀ x ∈ cs, x.b.length = x.n ∧ x.n ≤ 1000000) (hb : Box w rb #[.int .i64 p1, .int .i64 p2, .int .i64 p3, .slice ea en ec] 152) (he : en ≤ 1000000) :
    Calls Tryz.prog 84 #[.slice a m c, .func (.func 85) #[] #[.pointer (some ⟨rb, 0, none⟩)]] w fun e w' => e = .returned (.int .i64 (idxC cs en)) ∧ w' = w := by
  obtain ⟨I, hI⟩ : ∃ I, idxC cs en = I := ⟨_, rfl⟩
  rw [hI]
  have HO := Lib.hid ho
  have HL := Lib.hid hl
  have HX := Lib.hid hx
  have FT := Lib.hid (fun (a : Option Addr) (n c : Nat) (hn : n ≤ 1000000) => fits_at hb a n c hn he)
  have HI := Lib.hid hI
  have ENT : ∀ args w, (callFunc 85 args).run Tryz.prog w = .ok (.enter 85 args) w := enters_of Tryz.func85 (by kernel_rfl) rfl
  clear ho hl hx hb hI
  go_enter Tryz.func84, Tryz.ntmps84
  go_wp2_with fail
  go_loopw [8] (fun vi wr => ∃ (k : Nat), vi = .int .i64 (k : Int) ∧ k ≤ m ∧ wr = w ∧ Hid (∀ x ∈ cs.take k, ¬ x.b.length + en ≤ 2048)) (fun vi _ => m - (intV vi).toNat)
  case atStart => exact ⟨0, rfl, Nat.zero_le _, rfl, Lib.hid (fun x hx => by cases hx)⟩
  case round =>
    obtain ⟨k, rfl, hk, rfl, HP⟩ := hrel
    by_cases hkm : k < m
    · have d1 : decide ((k : Int) < (m : Int)) = true := decide_eq_true (by omega)
      have d1n : decide (k < m) = true := decide_eq_true hkm
      obtain ⟨x, hxk⟩ : ∃ x, cs[k]? = some x := ⟨_, List.getElem?_eq_getElem (by rw [HL.out]; exact hkm)⟩
      obtain ⟨hx1, hx2⟩ := HX.out x (List.mem_of_getElem? hxk)
      obtain ⟨g9, hg9, _, _⟩ := HO.out.some_ (by omega)
      have HOK := Lib.hid HO.out
      subst hg9
      have ck := HOK.out.cell (j := k) (u := byV x) (by rw [List.getElem?_map, hxk]; rfl)
      have ik0 : (0 : Int) ≤ (k : Int) := by omega
      have ik1 : (k : Int) < (m : Int) := by omega
      obtain ⟨xa, xn, xc, xb⟩ := x
      unfold byV at ck
      dsimp only at ck hx1 hx2
      obtain ⟨q, hq⟩ : ∃ q, decide (xn + en ≤ 2048) = q := ⟨_, rfl⟩
      have FT1 := Lib.hid (FT.out xa xn xc hx2)
      rw [hq] at FT1
      have HT : Hid (q = true → (k : Int) = I) := Lib.hid (fun h => by
        rw [← HI.out]
        unfold idxC
        have h8 : cs.findIdx? (fun x => decide (x.b.length + en ≤ 2048)) = some k := by
          rw [List.findIdx?_eq_some_iff_getElem]
          obtain ⟨hk1, hk2⟩ := List.getElem?_eq_some_iff.1 hxk
          refine ⟨hk1, ?_, fun j hj => ?_⟩
          · rw [hk2, hx1]
            exact hq.trans h
          · have := HP.out cs[j] (by rw [List.mem_take_iff_getElem]; exact ⟨j, by omega, rfl⟩)
            simpa using this
        rw [h8])
      have HN : Hid (q = false → ∀ x ∈ cs.take (k + 1), ¬ x.b.length + en ≤ 2048) := Lib.hid (fun h x hx => by
        rw [List.take_add_one, hxk] at hx
        rcases List.mem_append.1 hx with hx | hx
        · exact HP.out x hx
        · simp at hx
          subst hx
          dsimp only
          rw [hx1]
          intro h9
          rw [h] at hq
          exact absurd h9 (of_decide_eq_false hq))
      clear hxk hx1 hx2 hq HP
      go_wp2_with fail
      refine FT1.out.mono ?_
      rintro e w2 ⟨rfl, hw2⟩
      obtain rfl := hw2
      clear FT1
      cases q with
      | true =>
        have HT2 := Lib.hid (HT.out rfl)
        clear HT HN
        go_wp2_with fail
        go_ret
        exact ⟨by rw [HT2.out]; rfl, rfl⟩
      | false =>
        have HN2 := Lib.hid (HN.out rfl)
        clear HT HN
        go_wp2_with fail
        go_roundw
        case rel => exact ⟨k + 1, by go_num, by omega, by first | trivial | rfl, HN2⟩
        case measure => simp [intV]; omega
    · have d1 : decide ((k : Int) < (m : Int)) = false := decide_eq_false (by omega)
      have hkk : k = m := by omega
      have FIN : Hid (-1 = I) := Lib.hid (by
        rw [← HI.out]
        unfold idxC
        have h8 : cs.findIdx? (fun x => decide (x.b.length + en ≤ 2048)) = none := by
          rw [List.findIdx?_eq_none_iff]
          intro x hx
          have := HP.out x (by rw [hkk, List.take_of_length_le (by rw [HL.out]; exact Nat.le_refl _)]; exact hx)
          simpa using this
        rw [h8])
      clear HP
      go_wp2_with fail
      go_ret
      exact ⟨by rw [← FIN.out]; rfl, rfl⟩
/-- The loop. -/
structure PkS (w : World) (es : List En) (n ec : Nat) (ea : Option Addr) (k m c : Nat) (a : Option Addr) (cs : List By) (wr : World) : Prop where
  row : Own wr w.heap.size 55 1 a m c (cs.map byV)
  len : cs.length = m
  fam : Famy wr w.heap.size (cs ++ (es.drop k).map En.by_)
  small : ∀ x ∈ cs, x.n ≤ 2048
  eown : Own wr w.heap.size 152 4 ea n ec (flE enE es)
  eq : cs.map (·.b) = ((es.take k).map (·.b)).foldl packStep []
  bel : Below w.heap.size w wr
theorem PkS.later {w : World} {es : List En} {n ec : Nat} {ea : Option Addr} {k m c : Nat} {a : Option Addr} {cs : List By} {wr w' : World} (h : PkS w es n ec ea k m c a cs wr) (hb : Below wr.heap.size wr w') : PkS w es n ec ea k m c a cs w' :=
  ⟨h.row.later hb, h.len, h.fam.later hb, h.small, h.eown.later hb, h.eq, h.bel.trans (hb.mono h.bel.size)⟩
theorem findIdx_map {cs : List By} {b : List Int} : (cs.map (·.b)).findIdx? (fun c => decide (c.length + b.length ≤ 2048)) = cs.findIdx? (fun x => decide (x.b.length + b.length ≤ 2048)) := by
  rw [List.findIdx?_map]
  rfl
theorem encO_byts (r : Rc) : Byts (encO r) := by
  unfold encO
  split
  · rename_i h
    exact recB_byts (contR_byts h)
  · exact Byts.nil
theorem encO_len (r : Rc) : (encO r).length ≤ 1050 := by
  unfold encO
  split
  · rename_i h
    unfold encR
    rw [recB_length, contR_length]
    obtain ⟨_, _, _, _, _, _, h7, h8⟩ := h
    omega
  · simp
/-- What the sorted records' bytes are. -/
theorem recsL_bytes (g : Lg) : ∀ x ∈ recsL g, ∃ r, x.2 = encO r := by
  intro x hx
  unfold recsL at hx
  rcases List.mem_append.1 hx with hx | hx
  · rcases List.mem_append.1 hx with hx | hx
    · obtain ⟨id, _, h⟩ := List.mem_filterMap.1 hx
      unfold recP at h
      obtain ⟨r, _, rfl⟩ := Option.map_eq_some_iff.1 h
      exact ⟨_, rfl⟩
    · obtain ⟨s, _, rfl⟩ := List.mem_map.1 hx
      exact ⟨_, rfl⟩
  · unfold recT at hx
    split at hx
    · rw [List.mem_singleton] at hx
      rw [hx]
      exact ⟨_, rfl⟩
    · cases hx
theorem sortedL_perm (g : Lg) : (sortedL g).Perm (recsL g) := pm_stabS ltP (recsL g).toArray
theorem sortedL_bytes (g : Lg) : ∀ x ∈ sortedL g, ∃ r, x.2 = encO r := fun x hx => recsL_bytes g x ((sortedL_perm g).mem_iff.1 hx)
set_option maxHeartbeats 8000000 in
theorem pack_at {w : World} {RD RL : Nat → Prop} {d L : Nat} {g : Lg} (h : LgM w RD RL d L g) (hf : Few g.x) :
    Calls Tryz.prog 68 #[.pointer (some ⟨L, 0, none⟩)] w fun e w' => ∃ (m c : Nat) (a : Option Addr) (cs : List By), e = .returned (.slice a m c) ∧ m ≤ 2000001 ∧ Own w' w.heap.size 55 1 a m c (cs.map byV) ∧ cs.length = m ∧ Famy w' w.heap.size cs ∧ (∀ x ∈ cs, x.n ≤ 2048) ∧ cs.map (·.b) = packL g ∧ Below w.heap.size w w' := by
  have RC := Lib.hid (records_at h hf)
  have ENT : ∀ args w, (callFunc 85 args).run Tryz.prog w = .ok (.enter 85 args) w := enters_of Tryz.func85 (by kernel_rfl) rfl
  have mixed : Tryz.prog.follows .mixedOrders = true := by kernel_rfl
  clear h hf
  go_enter Tryz.func68, Tryz.ntmps68
  go_wp2_with fail
  refine RC.out.mono ?_
  rintro e w1 ⟨n, c1, a1, es, rfl, hn, ho, hl, hby, hne, heq, hb⟩
  have HL := Lib.hid hl
  have ESM : Hid (∀ e ∈ es, e.n ≤ 1050) := Lib.hid (fun e he => by
    have h1 : fE e ∈ sortedL g := heq ▸ List.mem_map_of_mem he
    obtain ⟨r, hr⟩ := sortedL_bytes g _ h1
    have h2 := (hby e he).1
    have h3 : e.b = encO r := hr
    have h4 := encO_len r
    rw [← h3] at h4
    omega)
  have FINE : Hid (((es.take n).map (·.b)).foldl packStep [] = packL g) := Lib.hid (by
    rw [List.take_of_length_le (by omega)]
    unfold packL
    rw [← heq, List.map_map]
    rfl)
  have ST : Hid (PkS w es n c1 a1 0 0 0 none [] w1) := Lib.hid ⟨Own.nil _ _ _ _, rfl, ⟨fun x hx => by
      rw [List.nil_append, List.drop_zero] at hx
      obtain ⟨e, he, rfl⟩ := List.mem_map.1 hx
      exact hby e he, by
      rw [List.nil_append, List.drop_zero, List.pairwise_map]
      exact hne⟩, (fun x hx => by cases hx), ho, rfl, hb⟩
  clear RC ho hl hby hne heq hb
  go_wp2_with fail
  go_loopw [3, 10] (fun vl vi wr => ∃ (k m c : Nat) (a : Option Addr) (cs : List By), (vl = .slice a m c ∧ vi = .int .i64 (k : Int)) ∧ k ≤ n ∧ m ≤ k ∧ Hid (PkS w es n c1 a1 k m c a cs wr)) (fun _ vi _ => n - (intV vi).toNat)
  case atStart => exact ⟨0, 0, 0, none, [], ⟨rfl, rfl⟩, Nat.zero_le _, Nat.le_refl _, ST⟩
  case round =>
    clear ST
    obtain ⟨k, m, c, a, cs, ⟨rfl, rfl⟩, hk, hmk, HS⟩ := hrel
    by_cases hkn : k < n
    · have d1 : decide ((k : Int) < (n : Int)) = true := decide_eq_true (by omega)
      have d1n : decide (k < n) = true := decide_eq_true hkn
      obtain ⟨e, hek⟩ : ∃ e, es[k]? = some e := ⟨_, List.getElem?_eq_getElem (by rw [HL.out]; exact hkn)⟩
      obtain ⟨g9, hg9, _, _⟩ := HS.out.eown.some_ (by omega)
      have he1 := ESM.out e (List.mem_of_getElem? hek)
      have HSK := Lib.hid HS.out
      subst hg9
      have ec0 : wr.cell? ⟨g9, k * 4 + 0, none⟩ = some (.int .i64 e.p.seg) := own_elem enE_len HSK.out.eown hek 0 _ rfl
      have ec1 : wr.cell? ⟨g9, k * 4 + 1, none⟩ = some (.int .i64 e.p.off) := own_elem enE_len HSK.out.eown hek 1 _ rfl
      have ec2 : wr.cell? ⟨g9, k * 4 + 2, none⟩ = some (.int .i64 e.p.size) := own_elem enE_len HSK.out.eown hek 2 _ rfl
      have ec3 : wr.cell? ⟨g9, k * 4 + 3, none⟩ = some (.slice e.a e.n e.c) := own_elem enE_len HSK.out.eown hek 3 _ rfl
      have HEK := Lib.hid hek
      have DR : Hid (cs ++ (es.drop k).map En.by_ = cs ++ (e.by_ :: (es.drop (k + 1)).map En.by_)) := Lib.hid (by
        obtain ⟨hlt, hge⟩ := List.getElem?_eq_some_iff.1 hek
        rw [List.drop_eq_getElem_cons hlt, hge]
        rfl)
      have EQN : Hid (((es.take (k + 1)).map (·.b)).foldl packStep [] = packStep (cs.map (·.b)) e.b) := Lib.hid (by
        rw [List.take_add_one, hek, List.map_append, List.foldl_append, ← HSK.out.eq]
        rfl)
      have ik0 : (0 : Int) ≤ (k : Int) := by omega
      have ik1 : (k : Int) < (n : Int) := by omega
      obtain ⟨⟨p1, p2, p3⟩, ea, en, ec, eb⟩ := e
      simp only [Nat.add_zero] at ec0
      dsimp only at ec0 ec1 ec2 ec3 he1 EQN
      have EBN : Hid (eb.length = en) := Lib.hid ((HSK.out.fam.own ⟨ea, en, ec, eb⟩ (by rw [DR.out]; simp [En.by_])).1)
      clear hek HS
      go_upto_region 5 with fail
      refine code_forget (fun W => Hid (PkS w es n c1 (some ⟨g9, 0, none⟩) k m c a cs W) ∧ Hid (Box W wr.heap.size #[.int .i64 p1, .int .i64 p2, .int .i64 p3, .slice ea en ec] 152)) ⟨Lib.hid (HSK.out.later ((Below.refl _ _).alloc (Nat.le_refl _) _)), Lib.hid (Box.new _ _ _)⟩ ?_
      obtain ⟨rb, hrb⟩ : ∃ p, wr.heap.size = p := ⟨_, rfl⟩
      rw [hrb]
      clear HSK ec0 ec1 ec2 ec3 hrb
      rintro w2 ⟨HS, BR⟩
      have IDX := Lib.hid (index_at HS.out.row HS.out.len (by omega) (fun x hx => ⟨(HS.out.fam.own x (List.mem_append_left _ hx)).1, by have := HS.out.small x hx; omega⟩) BR.out (by omega))
      obtain ⟨I, hI⟩ : ∃ I, idxC cs en = I := ⟨_, rfl⟩
      rw [hI] at IDX
      go_wp2_with fail
      refine IDX.out.mono ?_
      rintro e9 w3 ⟨rfl, hw3⟩
      subst hw3
      clear IDX
      cases hfi : cs.findIdx? (fun x => decide (x.b.length + en ≤ 2048)) with
      | none =>
        obtain rfl : (-1 : Int) = I := by rw [← hI]; unfold idxC; rw [hfi]
        have c3 : w3.cell? ⟨rb, 3, none⟩ = some (.slice ea en ec) := BR.out.cell 3
        have OR := Lib.hid HS.out.row
        have hB3 := HS.out.bel.size
        have HZ : Hid (cs.map byV ++ #[.slice ea en ec].toList = (cs ++ [(⟨ea, en, ec, eb⟩ : By)]).map byV) := Lib.hid (by rw [List.map_append]; rfl)
        have NEXT : Hid (∀ (w5 : World) (g5 c5 : Nat), Own w5 w.heap.size 55 1 (some ⟨g5, 0, none⟩) (m + 1) c5 ((cs ++ [(⟨ea, en, ec, eb⟩ : By)]).map byV) → w3.grownBy w5 (a.map (·.block)) → PkS w es n c1 (some ⟨g9, 0, none⟩) (k + 1) (m + 1) c5 (some ⟨g5, 0, none⟩) (cs ++ [⟨ea, en, ec, eb⟩]) w5) := Lib.hid (fun w5 g5 c5 k1 k2 => by
          have hga : ∀ {k : Nat}, a.map (·.block) = some k → a = some ⟨k, 0, none⟩ := fun hk => own_block5 HS.out.row hk
          have ho : Only (fun k => a = some ⟨k, 0, none⟩) w3 w5 := Only.of_grown k2 (fun k hk => hga hk)
          have hge : ∀ k, a = some ⟨k, 0, none⟩ → w.heap.size ≤ k := fun k hk => (own_lt HS.out.row hk).2
          refine ⟨k1, by rw [List.length_append, HS.out.len]; rfl, ?_, fun x hx => ?_, HS.out.eown.only ho (fun k hk hk2 => own_apart HS.out.eown HS.out.row hk hk2 (by decide)), ?_, HS.out.bel.trans (ho.below hB3 hge)⟩
          · have e1 : (cs ++ [(⟨ea, en, ec, eb⟩ : By)]) ++ (es.drop (k + 1)).map En.by_ = cs ++ (es.drop k).map En.by_ := by rw [DR.out]; simp [En.by_]
            rw [e1]
            exact HS.out.fam.only ho (fun x hx k hk hk2 => own_apart (HS.out.fam.own x hx).2 HS.out.row hk hk2 (by decide))
          · rcases List.mem_append.1 hx with hx | hx
            · exact HS.out.small x hx
            · rw [List.mem_singleton] at hx
              rw [hx]
              dsimp only
              omega
          · rw [EQN.out]
            unfold packStep
            rw [findIdx_map, EBN.out, hfi, List.map_append]
            rfl)
        clear HS hI hfi EQN DR
        go_wp2_with (at_builtin; refine wpList_app1 rowBB rfl _ _ rfl w.heap.size a m c _ rfl OR.out #[.slice ea en ec] rfl rfl (by simp [Value.oneCell']) (by omega) (by decide) hB3 (m + 1) rfl _ HZ.out ?_; rintro g5 c5 w5 k1 k2 k3 k4; have NX := Lib.hid (NEXT.out _ _ _ k1 k2); clear k1 k2 k3 k4 OR)
        go_roundw
        case rel => exact ⟨k + 1, m + 1, c5, some ⟨g5, 0, none⟩, _, ⟨rfl, by go_num⟩, by omega, by omega, NX⟩
        case measure => simp [intV]; omega
      | some i =>
        obtain rfl : (i : Int) = I := by rw [← hI]; unfold idxC; rw [hfi]
        obtain ⟨hic, hfit, _⟩ := List.findIdx?_eq_some_iff_getElem.1 hfi
        obtain ⟨x, hx⟩ : ∃ x, cs[i]? = some x := ⟨_, List.getElem?_eq_getElem hic⟩
        rw [(List.getElem?_eq_some_iff.1 hx).2] at hfit
        have him : i < m := by rw [← HS.out.len]; exact hic
        have hxo := HS.out.fam.own x (List.mem_append_left _ (List.mem_of_getElem? hx))
        have hsum : x.n + en ≤ 2048 := by rw [← hxo.1]; exact of_decide_eq_true hfit
        obtain ⟨cg, hcg, _, _⟩ := HS.out.row.some_ (by omega)
        have HSK := Lib.hid HS.out
        subst hcg
        have ckc := HSK.out.row.cell (j := i) (u := byV x) (by rw [List.getElem?_map, hx]; rfl)
        have lcg := (HSK.out.row.lt).2
        have fcg : ∀ j, w3.frozen? ⟨cg, j, none⟩ = false := HSK.out.row.free
        have EO := Lib.hid (HSK.out.fam.own ⟨ea, en, ec, eb⟩ (by rw [DR.out]; simp [En.by_])).2
        have ii0 : (0 : Int) ≤ (i : Int) := by omega
        have ii1 : (i : Int) < (m : Int) := by omega
        have dneg : decide ((i : Int) < 0) = false := decide_eq_false (by omega)
        have hB8 := HSK.out.bel.size
        have HXI := Lib.hid hx
        have XO := Lib.hid hxo.2.drew
        have XN := Lib.hid hxo.1
        have EL : Hid ((u8L eb).length = en * 1) := Lib.hid (by rw [u8L_len, EBN.out])
        have ER : Hid (RdC w3.drew ea (u8L eb)) := Lib.hid (rdC_of_own EO.out.drew (by decide))
        have FI := Lib.hid hfi
        obtain ⟨xa, xn, xc, xb⟩ := x
        unfold byV at ckc
        dsimp only at ckc hsum XO XN
        have hsum : xn + en ≤ 100000000 := by omega
        have NEXT : Hid (∀ (a5 : Option Addr) (c5 : Nat) (w5 : World), Own w5 w.heap.size 5 1 a5 (xn + en) c5 (u8L xb ++ u8L eb) → w3.drew.grownBy w5 (xa.map (·.block)) → Below w.heap.size w3.drew w5 → (∀ g, a5 = some ⟨g, 0, none⟩ → xa.map (·.block) = some g ∨ w3.drew.heap.size ≤ g) →
            cg < w5.heap.size ∧ w5.cell? ⟨cg, i, none⟩ = some (.slice xa xn xc) ∧ w5.frozen? ⟨cg, i, none⟩ = false ∧ Hid (PkS w es n c1 (some ⟨g9, 0, none⟩) (k + 1) m c (some ⟨cg, 0, none⟩) (cs.set i ⟨a5, xn + en, c5, xb ++ eb⟩) (w5.setCell ⟨cg, i, none⟩ (.slice a5 (xn + en) c5)))) := Lib.hid (fun a5 c5 w5 k1 k2 k3 k4 => by
          have hd : Famy w3.drew w.heap.size (cs ++ (es.drop k).map En.by_) := HSK.out.fam.later (Below.refl _ _).drew
          have hxc : (cs ++ (es.drop k).map En.by_)[i]? = some ⟨xa, xn, xc, xb⟩ := by rw [List.getElem?_append_left hic]; exact HXI.out
          have hga : ∀ {k : Nat}, xa.map (·.block) = some k → xa = some ⟨k, 0, none⟩ := fun hk => own_block5 XO.out hk
          have ho : Only (fun k => xa = some ⟨k, 0, none⟩) w3.drew w5 := Only.of_grown k2 (fun k hk => hga hk)
          have hrow : Own w5 w.heap.size 55 1 (some ⟨cg, 0, none⟩) m c (cs.map byV) := HSK.out.row.drew.only ho (fun k hk hk2 => own_apart HSK.out.row.drew XO.out hk hk2 (by decide))
          have hfam := hd.grown hxc (x' := ⟨a5, xn + en, c5, xb ++ eb⟩) ⟨by dsimp only; rw [List.length_append, XN.out, EBN.out], by rw [u8L_app]; exact k1⟩ k2 k4
          have hset : Own (w5.setCell ⟨cg, i, none⟩ (.slice a5 (xn + en) c5)) w.heap.size 55 1 (some ⟨cg, 0, none⟩) m c ((cs.set i ⟨a5, xn + en, c5, xb ++ eb⟩).map byV) := by
            have := hrow.set i (.slice a5 (xn + en) c5)
            rw [show (cs.set i ⟨a5, xn + en, c5, xb ++ eb⟩).map byV = (cs.map byV).set i (.slice a5 (xn + en) c5) by rw [List.map_set]; rfl]
            exact this
          refine ⟨hrow.lt.2, hrow.cell (by rw [List.getElem?_map, HXI.out]; rfl), hrow.free i, Lib.hid ⟨hset, by rw [List.length_set]; exact HSK.out.len, ?_, fun y hy => ?_, ?_, ?_, ?_⟩⟩
          · have h7 : Famy w5 w.heap.size (cs.set i ⟨a5, xn + en, c5, xb ++ eb⟩ ++ (es.drop (k + 1)).map En.by_) := by
              refine hfam.sub ?_
              rw [DR.out, List.set_append_left _ _ hic]
              exact (List.Sublist.refl _).append (List.sublist_cons_self _ _)
            exact ⟨fun y hy => ⟨(h7.own y hy).1, (h7.own y hy).2.other (fun g hg e => own_apart (h7.own y hy).2 hrow hg (show (some ⟨cg, 0, none⟩ : Option Addr) = some ⟨g, 0, none⟩ by rw [e]) (by decide)) _⟩, h7.ne⟩
          · rcases List.mem_or_eq_of_mem_set hy with hy | hy
            · exact HSK.out.small y hy
            · rw [hy]
              dsimp only
              have h9 := hfit
              have h8 := XN.out
              simp only [decide_eq_true_eq] at h9
              (try dsimp only at h9)
              omega
          · exact (HSK.out.eown.drew.only ho (fun k hk hk2 => own_apart HSK.out.eown.drew XO.out hk hk2 (by decide))).other (fun g hg e => own_apart HSK.out.eown.drew HSK.out.row.drew hg (show (some ⟨cg, 0, none⟩ : Option Addr) = some ⟨g, 0, none⟩ by rw [e]) (by decide)) _
          · rw [EQN.out]
            unfold packStep
            rw [findIdx_map, EBN.out, FI.out, List.map_set]
            show (cs.map _).set i (xb ++ eb) = (cs.map _).set i ((cs.map _).getD i [] ++ eb)
            rw [List.getD_eq_getElem?_getD, List.getElem?_map, HXI.out]
            rfl
          · exact (HSK.out.bel.drew.trans k3).setCell (HSK.out.row.lt).1 _)
        have ckc : w3.drew.cell? ⟨cg, i, none⟩ = some (.slice xa xn xc) := ckc
        clear HS hI hfi hx hxo hfit EQN DR EO HXI FI HSK lcg fcg
        go_upto_region 8 with fail
        refine wp_region_lastM [8, 9, 10] (fun w' => w'.cell? ⟨cg, i, none⟩ = some (.slice xa xn xc) ∧ Box w' rb #[.int .i64 p1, .int .i64 p2, .int .i64 p3, .slice ea en ec] 152) (by kernel_rfl) (⟨ckc, BR.out.drew⟩) (fun hHeld hClosed => ?_)
        refine wpAnyM_takeP (i := 0) (v := ?_) rfl (by kernel_rfl) (by kernel_rfl) (by kernel_rfl) (fun _ _ _ h => h) (by kernel_rfl) hClosed (Or.inl ⟨by rfl, ?_⟩) (fun _ => hHeld) (fun hClosed => ?_)
        rotate_left
        · intro wv hSw; go_simp; all_goals (with_reducible rfl)
        (try simp only [List.getElem_toArray, List.getElem_cons_zero, put_at, List.set])
        refine wpAnyM_takeP (i := 1) (v := ?_) rfl (by kernel_rfl) (by kernel_rfl) (by kernel_rfl) (fun _ _ _ h => h) (by kernel_rfl) hClosed (Or.inl ⟨by rfl, ?_⟩) (fun _ => hHeld) (fun hClosed => ?_)
        rotate_left
        · intro wv hSw; go_simp; all_goals (with_reducible rfl)
        (try simp only [List.getElem_toArray, List.getElem_cons_succ, List.getElem_cons_zero, put_at, List.set])
        refine wpAnyM_takeP (i := 2) (v := ?_) rfl (by kernel_rfl) (by kernel_rfl) (by kernel_rfl) (fun _ _ _ h => h) (by kernel_rfl) hClosed (Or.inl ⟨by rfl, ?_⟩) (fun _ => hHeld) (fun hClosed => ?_)
        rotate_left
        · intro wv hSw; go_simp; all_goals (with_reducible rfl)
        (try simp only [List.getElem_toArray, List.getElem_cons_succ, List.getElem_cons_zero, put_at, List.set])
        refine wpAnyM_takeP (i := 3) (v := ?_) rfl (by kernel_rfl) (by kernel_rfl) (by kernel_rfl) (fun _ _ _ h => h) (by kernel_rfl) hClosed (Or.inl ⟨by rfl, ?_⟩) (fun _ => hHeld) (fun hClosed => ?_)
        rotate_left
        · intro wv hSw; go_simp; all_goals (with_reducible rfl)
        (try simp only [List.getElem_toArray, List.getElem_cons_succ, List.getElem_cons_zero, put_at, List.set])
        refine wpAnyM_takeP (i := 4) (v := ?_) rfl (by kernel_rfl) (by kernel_rfl) (by kernel_rfl) (fun _ _ _ h => h) (by kernel_rfl) hClosed (Or.inl ⟨by rfl, ?_⟩) (fun _ => hHeld) (fun hClosed => ?_)
        rotate_left
        · intro wv hSw; go_simp; all_goals (with_reducible rfl)
        (try simp only [List.getElem_toArray, List.getElem_cons_succ, List.getElem_cons_zero, put_at, List.set])
        refine wpAnyM_take (i := 5) (v := ?_) rfl (by kernel_rfl) (by kernel_rfl) (by kernel_rfl) (by kernel_rfl) (fun _ _ _ h => h) (by kernel_rfl) hClosed (Or.inl ⟨by rfl, ?_⟩) (fun _ => hHeld) (fun hClosed => ?_)
        rotate_left
        · intro wv hSw; have ck9 := hSw.1; have cr9 : wv.cell? ⟨rb, 3, none⟩ = some (.slice ea en ec) := hSw.2.cell 3; go_simp; all_goals (with_reducible rfl)
        (try simp only [List.getElem_toArray, List.getElem_cons_succ, List.getElem_cons_zero, put_at, List.set])
        refine wpAnyM_takeP (i := 6) (v := ?_) rfl (by kernel_rfl) (by kernel_rfl) (by kernel_rfl) (fun _ _ _ h => h) (by kernel_rfl) hClosed (Or.inl ⟨by rfl, ?_⟩) (fun _ => hHeld) (fun hClosed => ?_)
        rotate_left
        · intro wv hSw; go_simp; all_goals (with_reducible rfl)
        (try simp only [List.getElem_toArray, List.getElem_cons_succ, List.getElem_cons_zero, put_at, List.set])
        refine wpAnyM_take (i := 7) (v := ?_) rfl (by kernel_rfl) (by kernel_rfl) (by kernel_rfl) (by kernel_rfl) (fun _ _ _ h => h) (by kernel_rfl) hClosed (Or.inl ⟨by rfl, ?_⟩) (fun _ => hHeld) (fun hClosed => ?_)
        rotate_left
        · intro wv hSw; have ck9 := hSw.1; have cr9 : wv.cell? ⟨rb, 3, none⟩ = some (.slice ea en ec) := hSw.2.cell 3; go_simp; all_goals (with_reducible rfl)
        (try simp only [List.getElem_toArray, List.getElem_cons_succ, List.getElem_cons_zero, put_at, List.set])
        refine wpAnyM_end (i := 8) rfl (by kernel_rfl) (by kernel_rfl) hClosed (fun KK hK => ?_)
        refine step_appE rowU8 rfl _ _ rfl w.heap.size xa xn xc _ rfl XO.out ea en ec _ rfl EL.out ER.out (u8L_one _) hsum (by decide) hB8 (xn + en) rfl _ rfl ?_
        intro a5 c5 w5 p1 p2 p3 p4
        obtain ⟨lt5, cl5, fz5, NX⟩ := NEXT.out a5 c5 w5 p1 p2 p3 p4
        clear p1 p2 p3 p4
        refine hK.out _ _ (fun hClosed => ?_)
        clear hK KK
        (try simp only [List.getElem_toArray, List.getElem_cons_succ, List.getElem_cons_zero, put_at, List.set])
        refine wpAnyM_end (i := 9) rfl (by kernel_rfl) (by kernel_rfl) hClosed (fun KK hK => ?_)
        go_simp
        refine hK.out _ _ (fun hClosed => ?_)
        clear hK KK
        (try simp only [List.getElem_toArray, List.getElem_cons_succ, List.getElem_cons_zero, put_at, List.set])
        refine wpAnyM_end (i := 10) rfl (by kernel_rfl) (by kernel_rfl) hClosed (fun KK hK => ?_)
        go_simp
        refine hK.out _ _ (fun hClosed => ?_)
        clear hK KK
        (try simp only [List.getElem_toArray, List.getElem_cons_succ, List.getElem_cons_zero, put_at, List.set])
        refine wpAnyM_over (by kernel_rfl) ?_
        go_wp2_with fail
        go_roundw
        case rel => exact ⟨k + 1, m, c, some ⟨cg, 0, none⟩, _, ⟨rfl, by go_num⟩, by omega, by omega, NX⟩
        case measure => simp [intV]; omega
    · have d1 : decide ((k : Int) < (n : Int)) = false := decide_eq_false (by omega)
      have hkk : k = n := by omega
      subst hkk
      have FIN : Hid (Own wr w.heap.size 55 1 a m c (cs.map byV) ∧ cs.length = m ∧ Famy wr w.heap.size cs ∧ (∀ x ∈ cs, x.n ≤ 2048) ∧ cs.map (·.b) = packL g ∧ Below w.heap.size w wr) := Lib.hid ⟨HS.out.row, HS.out.len, HS.out.fam.sub (List.sublist_append_left _ _), HS.out.small, by rw [HS.out.eq]; exact FINE.out, HS.out.bel⟩
      clear HS
      go_wp2_with fail
      go_ret
      exact ⟨m, c, a, cs, rfl, by omega, FIN.out⟩
end Go.Proofs.YtimkgaokcldgkaaGreatDoor
/- Package spill: rewrite. Written by gen_rewrite.py. -/
namespace Go.Proofs.YtimkgaokcldgkaaGreatDoor
open Go Go.RowKit Go.Maps Go.Sort
set_option linter.unusedVariables false
set_option linter.unusedSimpArgs false
set_option maxRecDepth 100000

/-- The rest of a row of one's own. -/
theorem from_of {w : World} {B n c k : Nat} {a : Option Addr} {l : List Int} (h : Own w B 3 1 a n c (inL l)) (hl : l.length = n) (hk : k ≤ n) :
    ∃ a' c', (∀ W : World, (Instr.sliceAt 63 (.slice a n c) (some (.int .i64 k)) none none).run Tryz.prog W = .ok (.slice a' (n - k) c') W) ∧ RdC w a' (inL (l.drop k)) ∧ ∀ g off, a' = some ⟨g, off, none⟩ → a = some ⟨g, 0, none⟩ := by
  obtain ⟨i0, z0, hi0, hz0, hz1, hz2, hz3⟩ := rowI.parts
  rcases h.form with ⟨rfl, rfl, rfl⟩ | ⟨g, rfl, _, _⟩
  · obtain rfl : k = 0 := by omega
    obtain rfl : l = [] := List.eq_nil_of_length_eq_zero hl
    refine ⟨none, 0, fun W => ?_, fun j u hj => by simp [inL] at hj, fun g off e => by cases e⟩
    simp [Instr.sliceAt, Instr.slice, run_underlying Tryz.underlying63, Instr.sliceBounds, Instr.sliceBound, asIntOf, sizeOf, typeInfo, hi0, go_sem]
  · obtain ⟨off, e1, e2⟩ := sliceFrom_off (P := Tryz.prog) rowI g n c k hk h.cap_le
    refine ⟨_, _, e1, fun j u hj => ?_, fun g' off' e => by injection e with e; injection e with e; rw [e]⟩
    have hjl : j < (l.drop k).length := by
      have := (List.getElem?_eq_some_iff.1 hj).1
      unfold inL at this
      simpa using this
    rw [List.length_drop] at hjl
    have ho := e2 (by omega)
    refine ⟨g, off, rfl, ?_⟩
    rw [ho, Nat.mul_one]
    refine h.cell ?_
    unfold inL at hj ⊢
    rw [List.getElem?_map] at hj ⊢
    rw [List.getElem?_drop] at hj
    exact hj
set_option maxHeartbeats 1000000 in
/-- Clone: a row of one's own with the same numbers. -/
theorem clone_at {w : World} {n c : Nat} {a : Option Addr} {l : List Int} (hl : l.length = n) (hn : n ≤ 1000000) (hr : RdC w a (inL l)) (hz : a = none → n = 0 ∧ c = 0) :
    Calls Tryz.prog 69 #[.slice a n c] w fun e w' => ∃ a' c', e = .returned (.slice a' n c') ∧ Own w' w.heap.size 3 1 a' n c' (inL l) ∧ Below w.heap.size w w' := by
  have HR := Lib.hid hr
  have HL : Hid ((inL l).length = n * 1) := Lib.hid (by unfold inL; rw [List.length_map, hl, Nat.mul_one])
  have H1 : Hid (∀ u ∈ inL l, u.oneCell' = true) := Lib.hid (fun u hu => by unfold inL at hu; obtain ⟨x, _, rfl⟩ := List.mem_map.1 hu; rfl)
  have HLL := Lib.hid hl
  clear hr hl
  cases a with
  | none =>
    obtain ⟨rfl, rfl⟩ := hz rfl
    have e0 : l = [] := List.eq_nil_of_length_eq_zero HLL.out
    subst e0
    have eqn : ∀ W : World, (binOp .eql 63 (.slice none 0 0) (.slice none 0 0)).run Tryz.prog W = .ok (.bool true) W := fun W => by kernel_rfl
    go_enter Tryz.func69, Tryz.ntmps69
    go_wp2
    go_ret
    exact ⟨none, 0, rfl, Own.nil _ _ _ _, Below.refl _ _⟩
  | some p =>
    clear hz
    have eqn : ∀ W : World, (binOp .eql 63 (.slice (some p) n c) (.slice none 0 0)).run Tryz.prog W = .ok (.bool false) W := fun W => by kernel_rfl
    have O0 : Hid (Own (w.alloc (.cells #[] 3)) w.heap.size 3 1 (some ⟨w.heap.size, 0, none⟩) 0 0 []) := Lib.hid (Own.lit (Nat.le_refl _) (by decide) rfl)
    have R0 := Lib.hid (HR.out.later ((Below.refl w.heap.size w).alloc (Nat.le_refl _) (.cells #[] 3)))
    have hb0 : w.heap.size ≤ (w.alloc (.cells #[] 3)).heap.size := by simp
    have BB : Hid (Below w.heap.size w (w.alloc (.cells #[] 3))) := Lib.hid ((Below.refl _ _).alloc (Nat.le_refl _) _)
    go_enter Tryz.func69, Tryz.ntmps69
    go_wp2_with (at_builtin; refine wpList_appE rowI rfl _ _ rfl w.heap.size (some ⟨w.heap.size, 0, none⟩) 0 0 [] rfl O0.out (some p) n c _ rfl HL.out R0.out H1.out (by omega) (by decide) hb0 n (by omega) (inL l) rfl ?_; rintro a' c' w5 k1 k2 k3 k4; have NX := Lib.hid (And.intro k1 (BB.out.trans k3)); clear k1 k2 k3 k4)
    go_ret
    exact ⟨a', c', rfl, NX.out.1, NX.out.2⟩
/-! What the chunks hold. -/
theorem rdL_sound {S : Sgs} (hb : BytS S) {p : Pl} {r : Rc} (h : rdL S p = some r) : soundR r ∧ FitR r := by
  unfold rdL at h
  split at h
  · cases h
  · have hs := (scan_ok (part_byts hb p)).1
    obtain ⟨l, hl⟩ : ∃ l, scanL (partL S p) = l := ⟨_, rfl⟩
    rw [hl] at hs h
    match l, h with
    | [q], h =>
      have : q = r := Option.some.inj h
      rw [← this]
      exact hs q (by simp)
theorem loadL_sound {g : Lg} (hb : BytS g.D.S) {id : Int} {r : Rc} (h : loadL g id = some r) : soundR r ∧ FitR r := by
  unfold loadL at h
  split at h
  · exact rdL_sound hb h
  · cases h
theorem encO_sound {r : Rc} (h : soundR r) : encO r = encR r := by unfold encO; rw [if_pos h]
theorem recsL_sound {g : Lg} (hb : BytS g.D.S) (ho : IxOk g.x) : ∀ x ∈ recsL g, ∃ r, soundR r ∧ x.2 = encR r := by
  intro x hx
  unfold recsL at hx
  rcases List.mem_append.1 hx with hx | hx
  · rcases List.mem_append.1 hx with hx | hx
    · obtain ⟨id, _, h⟩ := List.mem_filterMap.1 hx
      unfold recP at h
      obtain ⟨r, hr, rfl⟩ := Option.map_eq_some_iff.1 h
      obtain ⟨s1, s2, s3, s4, s5, s6, s7, s8⟩ := (loadL_sound hb hr).1
      have hs : soundR ⟨1, r.id, r.host, r.path, r.prio, r.till⟩ := ⟨by show (1 : Int) ≤ 1; decide, by show (1 : Int) ≤ 3; decide, s3, s4, s5, s6, s7, s8⟩
      exact ⟨_, hs, encO_sound hs⟩
    · obtain ⟨s, hs, rfl⟩ := List.mem_map.1 hx
      rw [srtS_mem] at hs
      have hg := gA_keys.1 hs
      obtain ⟨v, hv⟩ := Option.isSome_iff_exists.1 hg
      obtain ⟨_, h0, _, h2⟩ := ho.waits s v hv
      have hw : waitI g.x s = v := by unfold waitI; rw [hv]; rfl
      have hs : soundR ⟨3, 0, s, ⟨#[]⟩, 0, v.till⟩ := ⟨by show (1 : Int) ≤ 3; decide, by show (3 : Int) ≤ 3; decide, by show (0 : Int) ≤ 0; decide, h0, by show (0 : Int) ≤ 0; decide, by show (0 : Int) ≤ 7; decide, h2, by show (0 : Nat) ≤ 768; decide⟩
      refine ⟨_, hs, ?_⟩
      unfold recW
      rw [hw]
      exact encO_sound hs
  · unfold recT at hx
    split at hx
    · rw [List.mem_singleton] at hx
      have hs : soundR ⟨2, g.x.top, ⟨#[]⟩, ⟨#[]⟩, 0, 0⟩ := ⟨by show (1 : Int) ≤ 2; decide, by show (2 : Int) ≤ 3; decide, ho.top0, by show (0 : Int) ≤ 0; decide, by show (0 : Int) ≤ 0; decide, by show (0 : Int) ≤ 7; decide, by show (0 : Nat) ≤ 256; decide, by show (0 : Nat) ≤ 768; decide⟩
      rw [hx]
      exact ⟨_, hs, encO_sound hs⟩
    · cases hx
theorem packStep_P {P : List Int → Prop} (hP : ∀ a b, P a → P b → P (a ++ b)) {cs : List (List Int)} {b : List Int} (h : ∀ c ∈ cs, P c) (hb : P b) : ∀ c ∈ packStep cs b, P c := by
  unfold packStep
  split
  · intro c hc
    rcases List.mem_append.1 hc with hc | hc
    · exact h c hc
    · rw [List.mem_singleton] at hc
      rw [hc]; exact hb
  · rename_i i hi
    intro c hc
    rcases List.mem_or_eq_of_mem_set hc with hc | hc
    · exact h c hc
    · rw [hc]
      obtain ⟨hlt, _⟩ := List.findIdx?_eq_some_iff_getElem.1 hi
      refine hP _ _ ?_ hb
      rw [List.getD_eq_getElem?_getD, List.getElem?_eq_getElem hlt]
      exact h _ (List.getElem_mem hlt)
theorem packFold_P {P : List Int → Prop} (hP : ∀ a b, P a → P b → P (a ++ b)) : ∀ {bs : List (List Int)} {cs : List (List Int)}, (∀ c ∈ cs, P c) → (∀ b ∈ bs, P b) → ∀ c ∈ bs.foldl packStep cs, P c
  | [], cs, h, _ => h
  | b :: t, cs, h, hb => packFold_P hP (bs := t) (packStep_P hP h (hb b List.mem_cons_self)) (fun x hx => hb x (List.mem_cons_of_mem _ hx))
theorem packL_ok {g : Lg} (hb : BytS g.D.S) (ho : IxOk g.x) : ∀ c ∈ packL g, Byts c ∧ 0 < c.length := by
  unfold packL
  refine packFold_P (P := fun c => Byts c ∧ 0 < c.length) (fun a b ha hb => ⟨ha.1.append hb.1, by rw [List.length_append]; omega⟩) (fun c hc => by cases hc) (fun b hb2 => ?_)
  obtain ⟨x, hx, rfl⟩ := List.mem_map.1 hb2
  obtain ⟨r, hr, he⟩ := recsL_sound hb ho x ((sortedL_perm g).mem_iff.1 hx)
  rw [he]
  exact ⟨recB_byts (contR_byts hr), by have := encR_ge r; omega⟩
/-- The loop. -/
structure RwS (w w2 : World) (RD : Nat → Prop) (d : Nat) (F : Ds × List Int × Int) (a0 : Option Addr) (ch : List (List Int)) (k m c : Nat) (a : Option Addr) (all : List Int) (Rk : Nat → Prop) (Dk : Ds) (wr : World) : Prop where
  dk : DkM wr Rk d Dk
  only : Only (fun k => RD k ∨ a0 = some ⟨k, 0, none⟩) w2 wr
  new : ∀ k, Rk k → RD k ∨ w2.heap.size ≤ k
  row : Own wr w.heap.size 3 1 a m c (inL all)
  len : all.length = m
  addr : ∀ g, a = some ⟨g, 0, none⟩ → ¬ Rk g ∧ (a0 = some ⟨g, 0, none⟩ ∨ w2.heap.size ≤ g)
  ok : ∀ v ∈ all, okI v ∧ 0 ≤ v
  eq : rewL Dk all (ch.drop k) = F
theorem followL_ok {l : List Int} (h : ∀ v ∈ l, okI v ∧ 0 ≤ v) : okI (followL l).1 ∧ 0 ≤ (followL l).1 := by
  unfold followL
  split
  · exact ⟨okI_of (by decide) (by decide), by decide⟩
  · rename_i v hv
    obtain ⟨h1, h2⟩ := h v (List.mem_of_getLast? hv)
    have := okI_iff h1
    split
    · exact ⟨okI_of (by decide) (by decide), by decide⟩
    · exact ⟨okI_of (by dsimp only; omega) (by dsimp only; omega), by dsimp only; omega⟩
def FreshP (w : World) (RD : Nat → Prop) (d : Nat) (F : Ds × List Int × Int) (N : Nat) (w' : World) (M : Nat) (a : Option Addr) : Prop :=
  ∃ RD', DkM w' RD' d F.1 ∧ TurnR RD w RD' w' ∧ (F.2.1.drop N).length = M ∧ RdC w' a (inL (F.2.1.drop N)) ∧ (∀ v ∈ F.2.1.drop N, okI v ∧ 0 ≤ v) ∧ M ≤ 3000000 ∧ ∀ g off, a = some ⟨g, off, none⟩ → w.heap.size ≤ g ∧ ¬ RD' g
theorem RwS.fresh {w w2 : World} {RD : Nat → Prop} {d : Nat} {F : Ds × List Int × Int} {a0 : Option Addr} {ch : List (List Int)} {k m c N : Nat} {a : Option Addr} {all : List Int} {Rk : Nat → Prop} {Dk : Ds} {wr w' : World} {RX : Nat → Prop} {DX : Ds} (h : RwS w w2 RD d F a0 ch k m c a all Rk Dk wr) (hw2 : Below w.heap.size w w2) (hRD : ∀ k, RD k → k < w.heap.size) (ha0 : ∀ g, a0 = some ⟨g, 0, none⟩ → w.heap.size ≤ g)
    (hd : DkM w' RX d DX) (ht : TurnR Rk wr RX w') (hF : F.1 = DX ∧ F.2.1 = all) (hm : m ≤ 3000000) {a' : Option Addr} (hr : RdC wr a' (inL (all.drop N))) (ha : ∀ g off, a' = some ⟨g, off, none⟩ → a = some ⟨g, 0, none⟩) : FreshP w RD d F N w' (m - N) a' := by
  obtain ⟨hF1, hF2⟩ := hF
  have hag : ∀ g off, a' = some ⟨g, off, none⟩ → w.heap.size ≤ g ∧ g < wr.heap.size ∧ ¬ Rk g := fun g off e => by
    have e2 := ha g off e
    exact ⟨(own_lt h.row e2).2, (own_lt h.row e2).1, (h.addr g e2).1⟩
  refine ⟨RX, hF1 ▸ hd, ⟨?_, fun x hx => ?_⟩, by rw [hF2, List.length_drop, h.len], ?_, fun v hv => h.ok v (by rw [hF2] at hv; exact List.mem_of_mem_drop hv), by omega, fun g off e => ?_⟩
  · have o1 : Only (fun k => RD k ∨ a0 = some ⟨k, 0, none⟩) w2 w' := h.only.trans ht.only (fun x hx => by
      rcases h.new x hx with h1 | h1
      · exact Or.inl (Or.inl h1)
      · exact Or.inr h1)
    refine ⟨o1.os.trans hw2.os, o1.tape.trans hw2.tape, o1.output.trans hw2.output, Nat.le_trans hw2.size o1.size, fun i hi hne => ?_⟩
    refine (o1.block i (Nat.lt_of_lt_of_le hi hw2.size) (fun e => ?_)).trans (hw2.block i hi)
    rcases e with e | e
    · exact hne e
    · have := ha0 i e; omega
  · rcases ht.new x hx with h1 | h1
    · rcases h.new x h1 with h2 | h2
      · exact Or.inl h2
      · exact Or.inr (Nat.le_trans hw2.size h2)
    · exact Or.inr (Nat.le_trans (Nat.le_trans hw2.size h.only.size) h1)
  · rw [hF2]
    exact hr.only ht.only (fun g off e => (hag g off e).2.2)
  · obtain ⟨h1, h2, h3⟩ := hag g off e
    refine ⟨h1, fun e2 => ?_⟩
    rcases ht.new g e2 with h4 | h4
    · exact h3 h4
    · omega
set_option maxHeartbeats 8000000 in
theorem rewrite_at {w : World} {RD RL : Nat → Prop} {d L : Nat} {g : Lg} (h : LgM w RD RL d L g) (hf : Few g.x) {N oc : Nat} {oa : Option Addr} (hr : RdC w oa (inL (segsL g.D))) (hN : (segsL g.D).length = N) (hz : oa = none → N = 0 ∧ oc = 0) (hgn : g.n ≤ 1000) :
    Calls Tryz.prog 48 #[.pointer (some ⟨L, 0, none⟩), .slice oa N oc] w fun e w' => ∃ (M c : Nat) (a : Option Addr), e = .returned (.tuple #[.slice a M c, .int .i64 (rewriteL g).2.2]) ∧ ∃ RD', DkM w' RD' d (rewriteL g).1 ∧ TurnR RD w RD' w' ∧ (rewriteL g).2.1.length = M ∧ RdC w' a (inL (rewriteL g).2.1) ∧ (∀ v ∈ (rewriteL g).2.1, okI v ∧ 0 ≤ v) ∧ M ≤ 3000000 ∧ ∀ g off, a = some ⟨g, off, none⟩ → w.heap.size ≤ g ∧ ¬ RD' g := by
  obtain ⟨X, hX⟩ : ∃ X, rewriteL g = X := ⟨_, rfl⟩
  rw [hX]
  obtain ⟨F, hF⟩ : ∃ F, rewL g.D (segsL g.D) (packL g) = F := ⟨_, rfl⟩
  obtain ⟨n, hn⟩ : ∃ n, g.n = n := ⟨_, rfl⟩
  have hn1000 : n ≤ 1000 := hn ▸ hgn
  have HX : Hid (X = if n < ((packL g).length : Int) then (g.D, [], 5) else (F.1, F.2.1.drop N, F.2.2)) := Lib.hid (by rw [← hX, ← hF, ← hn, ← hN]; rfl)
  have PK := Lib.hid (pack_at h hf)
  have G := Lib.hid h
  have POK := Lib.hid (packL_ok h.dk.byt h.lx.ok)
  have SOK := Lib.hid h.dk.segs_ok
  have hN16 : N ≤ 16 := by rw [← hN]; unfold segsL; rw [List.length_map]; exact h.dk.cnt
  have CL := Lib.hid (fun (W : World) (hW : Below w.heap.size w W) => clone_at (w := W) (a := oa) (c := oc) hN (by omega) (hr.later hW) hz)
  have HN := Lib.hid hN
  have HF := Lib.hid hF
  obtain ⟨pm, wm, hi, hmi⟩ := h.lx.ix
  have BL := Lib.hid hi.box
  have HLr := Lib.hid (hmi L (Or.inl rfl))
  rw [hn] at BL
  have mixed : Tryz.prog.follows .mixedOrders = true := by kernel_rfl
  clear hX hF hn hi hmi h hf hr hN hz hgn
  go_enter Tryz.func48, Tryz.ntmps48
  go_wp2_with fail
  refine PK.out.mono ?_
  rintro e w1 ⟨m, c1, a1, cs, rfl, hm, ho, hl, hfa, hsm, heq, hb⟩
  have B1 := Lib.hid hb
  have HL := Lib.hid hl
  have CSM := Lib.hid hsm
  have CEQ := Lib.hid heq
  have CRW := Lib.hid ho
  have CFA := Lib.hid hfa
  have hml : (packL g).length = m := by rw [← heq, List.length_map, hl]
  rw [hml] at HX
  clear PK ho hl hfa hsm heq hb hml
  have l1 : w1.cell? ⟨L, 1, none⟩ = some (.int .i64 n) := (BL.out.later B1.out).cell 1
  by_cases hbig : n < (m : Int)
  · have dd : decide ((m : Int) > n) = true := decide_eq_true hbig
    have dd' : decide (n < (m : Int)) = true := dd
    have FIN : Hid (X = (g.D, [], 5) ∧ DkM w1 RD d g.D ∧ TurnR RD w RD w1) := Lib.hid ⟨by rw [HX.out, if_pos hbig], G.out.dk.later B1.out, TurnR.later B1.out⟩
    go_wp2_with fail
    go_ret2
    obtain ⟨rfl, q1, q2⟩ := FIN.out
    exact ⟨0, 0, none, rfl, RD, q1, q2, rfl, (fun j u hj => by simp [inL] at hj), (fun v hv => by cases hv), by decide, (fun g off e => by cases e)⟩
  · have hm9 : m ≤ 1000 := by omega
    have dd : decide ((m : Int) > n) = false := decide_eq_false hbig
    have dd' : decide (n < (m : Int)) = false := dd
    have HX2 : Hid (X = (F.1, F.2.1.drop N, F.2.2)) := Lib.hid (by rw [HX.out, if_neg hbig])
    have CL1 := Lib.hid (CL.out w1 B1.out)
    clear HX CL
    go_wp2_with fail
    refine CL1.out.mono ?_
    rintro e w2 ⟨a0, c0, rfl, ho, hb⟩
    have B2 := Lib.hid (B1.out.trans (hb.mono B1.out.size))
    have OLD : Hid (Own w2 w.heap.size 3 1 a0 N c0 (inL (segsL g.D))) := Lib.hid (ho.mono B1.out.size)
    have CRW2 := Lib.hid (CRW.out.later hb)
    have CFA2 := Lib.hid (CFA.out.later hb)
    have A0 : Hid (∀ g, a0 = some ⟨g, 0, none⟩ → w.heap.size ≤ g) := Lib.hid (fun g hg => (own_lt OLD.out hg).2)
    have ST : Hid (RwS w w2 RD d F a0 (packL g) 0 N c0 a0 (segsL g.D) RD g.D w2) := Lib.hid ⟨G.out.dk.later B2.out, Only.refl _ _, fun k hk => Or.inl hk, OLD.out, HN.out, fun g' hg => ⟨fun e => by have := G.out.dk.lt g' e; have := A0.out g' hg; omega, Or.inl hg⟩, SOK.out, HF.out⟩
    have LCELL : Hid (∀ W, Only (fun k => RD k ∨ a0 = some ⟨k, 0, none⟩) w2 W → W.cell? ⟨L, 0, none⟩ = some (.pointer (some ⟨d, 0, none⟩))) := Lib.hid (fun W hW => by
      have hbx := (BL.out.later B2.out).only hW (fun e => by
        rcases e with e | e
        · exact G.out.ap L e HLr.out
        · have := A0.out L e
          have := BL.out.lt
          omega)
      exact hbx.cell 0)
    have CHK : Hid (∀ W, Only (fun k => RD k ∨ a0 = some ⟨k, 0, none⟩) w2 W → Own W w.heap.size 55 1 a1 m c1 (cs.map byV) ∧ ∀ x ∈ cs, Own W w.heap.size 5 1 x.a x.n x.c (u8L x.b)) := Lib.hid (fun W hW => by
      have hge : ∀ k, RD k → k < w.heap.size := G.out.dk.lt
      refine ⟨CRW2.out.only hW (fun k hk e => ?_), fun x hx => ((CFA2.out.own x hx).2).only hW (fun k hk e => ?_)⟩
      · rcases e with e | e
        · have := hge k e; have := (own_lt CRW2.out hk).2; omega
        · exact own_apart CRW2.out OLD.out hk e (by decide)
      · rcases e with e | e
        · have := hge k e; have := (own_lt (CFA2.out.own x hx).2 hk).2; omega
        · exact own_apart (CFA2.out.own x hx).2 OLD.out hk e (by decide))
    have CLT : Hid (∀ x ∈ cs, ∀ g, x.a = some ⟨g, 0, none⟩ → w.heap.size ≤ g ∧ g < w2.heap.size) := Lib.hid (fun x hx g hg => ⟨(own_lt (CFA2.out.own x hx).2 hg).2, (own_lt (CFA2.out.own x hx).2 hg).1⟩)
    clear CL1 ho hb l1 OLD CRW CFA CRW2 CFA2 HF
    go_wp2_with fail
    go_loopw [7, 26] (fun va vi wr => ∃ (k q c : Nat) (a : Option Addr) (all : List Int) (Rk : Nat → Prop) (Dk : Ds), va = .slice a q c ∧ vi = .int .i64 (k : Int) ∧ k ≤ m ∧ Hid (q = N + k) ∧ Hid (RwS w w2 RD d F a0 (packL g) k q c a all Rk Dk wr)) (fun _ vi _ => m - (intV vi).toNat)
    case atStart => exact ⟨0, N, c0, a0, segsL g.D, RD, g.D, rfl, rfl, Nat.zero_le _, Lib.hid rfl, ST⟩
    case round =>
      clear ST
      obtain ⟨k, q, c, a, all, Rk, Dk, rfl, rfl, hk, HQ, HS⟩ := hrel
      have hq9 : q ≤ 1100 := by have := HQ.out; omega
      by_cases hkm : k < m
      · have d1 : decide ((k : Int) < (m : Int)) = true := decide_eq_true (by omega)
        have d1n : decide (k < m) = true := decide_eq_true hkm
        obtain ⟨x, hxk⟩ : ∃ x, cs[k]? = some x := ⟨_, List.getElem?_eq_getElem (by rw [HL.out]; exact hkm)⟩
        have hcr := (CHK.out wr HS.out.only).1
        obtain ⟨g9, hg9, _, _⟩ := hcr.some_ (by omega)
        have XO := Lib.hid ((CHK.out wr HS.out.only).2 x (List.mem_of_getElem? hxk))
        have hxs := CSM.out x (List.mem_of_getElem? hxk)
        have XL := Lib.hid (CLT.out x (List.mem_of_getElem? hxk))
        have hpk : (packL g)[k]? = some x.b := by rw [← CEQ.out, List.getElem?_map, hxk]; rfl
        have XP := Lib.hid (POK.out x.b (List.mem_of_getElem? hpk))
        have XN : Hid (x.b.length = x.n) := Lib.hid (by
          have h9 := XO.out.len
          rw [u8L_len] at h9
          omega)
        have HDR : Hid (rewL Dk all (x.b :: (packL g).drop (k + 1)) = F) := Lib.hid (by
          have h9 := HS.out.eq
          obtain ⟨hlt, hge⟩ := List.getElem?_eq_some_iff.1 hpk
          rw [List.drop_eq_getElem_cons hlt, hge] at h9
          exact h9)
        subst hg9
        have ck := hcr.cell (j := k) (u := byV x) (by rw [List.getElem?_map, hxk]; rfl)
        have ik0 : (0 : Int) ≤ (k : Int) := by omega
        have ik1 : (k : Int) < (m : Int) := by omega
        have l0 := LCELL.out wr HS.out.only
        obtain ⟨xa, xn, xc, xb⟩ := x
        unfold byV at ck
        dsimp only at ck hxs
        have FO := Lib.hid (following_at all q c a wr HS.out.len (by omega) (rdC_of_own HS.out.row (by decide)) (fun v hv => okI_iff (HS.out.ok v hv).1))
        have FOK := Lib.hid (followL_ok HS.out.ok)
        obtain ⟨FF, hFF⟩ : ∃ FF, followL all = FF := ⟨_, rfl⟩
        rw [hFF] at FO FOK
        have HFF := Lib.hid hFF
        clear hxk hpk hcr hFF
        go_wp2_with fail
        refine FO.out.mono ?_
        rintro e w3 ⟨rfl, hw3⟩
        subst hw3
        clear FO
        obtain ⟨f1, f2⟩ := FF
        dsimp only at FOK
        cases f2 with
        | false =>
          have EF : Hid (F = (Dk, all, 5)) := Lib.hid (by
            rw [← HDR.out]
            unfold rewL
            rw [HFF.out, if_neg (by simp)])
          obtain ⟨a', c', PS, hrd, hag⟩ := from_of (k := N) HS.out.row HS.out.len (by have := HQ.out; omega)
          have FIN : Hid (FreshP w RD d F N w3 (q - N) a') := Lib.hid (HS.out.fresh B2.out G.out.dk.lt A0.out HS.out.dk (TurnR.later (Below.refl _ _)) (by rw [EF.out]; exact ⟨rfl, rfl⟩) (by omega) hrd hag)
          clear hrd hag HDR HFF
          have hqn : q - N = k := by have := HQ.out; omega
          rw [hqn] at PS FIN
          go_wp2_with fail
          go_ret2
          obtain ⟨RD', q1, q2, q3, q4, q5, q6, q7⟩ := FIN.out
          refine ⟨_, c', a', by rw [HX2.out, EF.out]; rfl, ?_⟩
          rw [HX2.out]
          exact ⟨RD', q1, q2, q3, q4, q5, q6, q7⟩
        | true =>
          have AP := Lib.hid (kapp_at HS.out.dk f1 FOK.out.2 FOK.out.1 xb XP.out.1 XP.out.2 xn XN.out (by omega) xa xc (rdC_of_own XO.out (by decide)) (fun g off e hR => by
            obtain ⟨h7, h8⟩ : off = 0 ∧ True := ⟨by
              rcases XO.out.form with ⟨h7, _⟩ | ⟨g', h7, _, _⟩
              · rw [e] at h7; cases h7
              · rw [e] at h7; injection h7 with h7; injection h7, trivial⟩
            subst h7
            obtain ⟨h5, h6⟩ := XL.out g e
            rcases HS.out.new g hR with h4 | h4
            · have := G.out.dk.lt g h4; omega
            · omega))
          obtain ⟨Y, hY⟩ : ∃ Y, appD Dk f1 xb = Y := ⟨_, rfl⟩
          rw [hY] at AP
          have HD2 : Hid (F = if Y.2 = 0 then rewL Y.1 (all ++ [f1]) ((packL g).drop (k + 1)) else (Y.1, all, Y.2)) := Lib.hid (by
            rw [← HDR.out, ← hY]
            conv => lhs; unfold rewL
            rw [HFF.out, if_pos rfl])
          obtain ⟨D2, e2⟩ := Y
          dsimp only at AP HD2
          clear hY HDR HFF ck
          go_wp2_with fail
          refine AP.out.mono ?_
          rintro e w4 ⟨rfl, hak⟩
          obtain ⟨R4, hd4, ht4⟩ := hak
          have O4 : Hid (Only (fun k => RD k ∨ a0 = some ⟨k, 0, none⟩) w2 w4) := Lib.hid (HS.out.only.trans ht4.only (fun y hy => by
            rcases HS.out.new y hy with h1 | h1
            · exact Or.inl (Or.inl h1)
            · exact Or.inr h1))
          have N4 : Hid (∀ k, R4 k → RD k ∨ w2.heap.size ≤ k) := Lib.hid (fun y hy => by
            rcases ht4.new y hy with h1 | h1
            · exact HS.out.new y h1
            · exact Or.inr (Nat.le_trans HS.out.only.size h1))
          have ROW4 : Hid (Own w4 w.heap.size 3 1 a q c (inL all)) := Lib.hid (HS.out.row.only ht4.only (fun y hy => (HS.out.addr y hy).1))
          have AD4 : Hid (∀ g, a = some ⟨g, 0, none⟩ → ¬ R4 g ∧ (a0 = some ⟨g, 0, none⟩ ∨ w2.heap.size ≤ g)) := Lib.hid (fun y hy => ⟨fun e => by
            rcases ht4.new y e with h1 | h1
            · exact (HS.out.addr y hy).1 h1
            · have := (own_lt HS.out.row hy).1; omega, (HS.out.addr y hy).2⟩)
          by_cases hz : e2 = 0
          · have dz : (e2 != 0) = false := by simp [hz]
            have HD3 : Hid (rewL D2 (all ++ [f1]) ((packL g).drop (k + 1)) = F) := Lib.hid (by rw [HD2.out, if_pos hz])
            have HLN := Lib.hid HS.out.len
            have HOK := Lib.hid HS.out.ok
            have HD4 := Lib.hid hd4
            have hB4 : w.heap.size ≤ w4.heap.size := Nat.le_trans B2.out.size O4.out.size
            have HZ : Hid (inL all ++ #[Value.int .i64 f1].toList = inL (all ++ [f1])) := Lib.hid (by unfold inL; simp)
            have NEXT : Hid (∀ (w5 : World) (g5 c5 : Nat), Own w5 w.heap.size 3 1 (some ⟨g5, 0, none⟩) (q + 1) c5 (inL (all ++ [f1])) → w4.grownBy w5 (a.map (·.block)) → (a.map (·.block) = some g5 ∨ g5 = w4.heap.size + 1) → RwS w w2 RD d F a0 (packL g) (k + 1) (q + 1) c5 (some ⟨g5, 0, none⟩) (all ++ [f1]) R4 D2 w5) := Lib.hid (fun w5 g5 c5 k1 k2 k3 => by
              have hga : ∀ {k : Nat}, a.map (·.block) = some k → a = some ⟨k, 0, none⟩ := fun hk => own_block5 ROW4.out hk
              have ho : Only (fun k => a = some ⟨k, 0, none⟩) w4 w5 := Only.of_grown k2 (fun k hk => hga hk)
              refine ⟨HD4.out.only ho (fun y hy e => (AD4.out y e).1 hy), O4.out.trans ho (fun y hy => ?_), N4.out, k1, by rw [List.length_append, HLN.out]; rfl, fun y hy => ?_, fun v hv => ?_, HD3.out⟩
              · rcases (AD4.out y hy).2 with h1 | h1
                · exact Or.inl (Or.inr h1)
                · exact Or.inr h1
              · injection hy with hy
                injection hy with hy
                subst hy
                rcases k3 with k3 | k3
                · exact AD4.out _ (hga k3)
                · refine ⟨fun e => ?_, Or.inr ?_⟩
                  · have := HD4.out.lt _ e; omega
                  · have := O4.out.size; omega
              · rcases List.mem_append.1 hv with hv | hv
                · exact HOK.out v hv
                · rw [List.mem_singleton] at hv
                  rw [hv]
                  exact ⟨FOK.out.1, FOK.out.2⟩)
            clear hd4 ht4 HS HD2 HD3 AP XO
            go_wp2_with (at_builtin; refine wpList_app1 rowI rfl _ _ rfl w.heap.size a q c _ rfl ROW4.out #[.int .i64 f1] rfl rfl (by simp [Value.oneCell']) (by omega) (by decide) hB4 (q + 1) rfl _ HZ.out ?_; rintro g5 c5 w5 k1 k2 k3 k4; have NX := Lib.hid (NEXT.out _ _ _ k1 k2 k4); clear k1 k2 k3 k4 ROW4)
            go_roundw
            case rel => exact ⟨k + 1, q + 1, c5, _, _, R4, D2, rfl, by go_num, by omega, Lib.hid (by have := HQ.out; omega), NX⟩
            case measure => simp [intV]; omega
          · have dz : (e2 != 0) = true := by simp [hz]
            have EF : Hid (F = (D2, all, e2)) := Lib.hid (by rw [HD2.out, if_neg hz])
            obtain ⟨a', c', PS, hrd, hag⟩ := from_of (k := N) HS.out.row HS.out.len (by have := HQ.out; omega)
            have FIN : Hid (FreshP w RD d F N w4 (q - N) a') := Lib.hid (HS.out.fresh B2.out G.out.dk.lt A0.out hd4 ht4 (by rw [EF.out]; exact ⟨rfl, rfl⟩) (by omega) hrd hag)
            have hqn : q - N = k := by have := HQ.out; omega
            rw [hqn] at PS FIN
            clear hrd hag hd4 ht4 HS HD2 AP XO
            go_wp2_with fail
            go_ret2
            obtain ⟨RD', q1, q2, q3, q4, q5, q6, q7⟩ := FIN.out
            refine ⟨_, c', a', by rw [HX2.out, EF.out]; rfl, ?_⟩
            rw [HX2.out]
            exact ⟨RD', q1, q2, q3, q4, q5, q6, q7⟩
      · have d1 : decide ((k : Int) < (m : Int)) = false := decide_eq_false (by omega)
        have hkk : k = m := by omega
        have SY := Lib.hid (ksync_at (HS.out.dk.later (Below.refl _ _).drew))
        obtain ⟨Y, hY⟩ : ∃ Y, syncD Dk = Y := ⟨_, rfl⟩
        rw [hY] at SY
        have EF : Hid (F = (Y.1, all, Y.2)) := Lib.hid (by
          rw [← HS.out.eq, List.drop_of_length_le (by rw [← CEQ.out, List.length_map, HL.out]; omega), ← hY]
          rfl)
        obtain ⟨D2, e2⟩ := Y
        dsimp only at SY EF
        obtain ⟨a', c', PS, hrd, hag⟩ := from_of (k := N) HS.out.row HS.out.len (by have := HQ.out; omega)
        have FIN : Hid (∀ (w9 : World) (RX : Nat → Prop), DkM w9 RX d D2 → TurnR Rk wr.drew RX w9 → Ending.returned (.tuple #[.slice a' (q - N) c', .int .i64 e2]) = .returned (.tuple #[.slice a' (q - N) c', .int .i64 X.2.2]) ∧ ∃ RD', DkM w9 RD' d X.1 ∧ TurnR RD w RD' w9 ∧ X.2.1.length = q - N ∧ RdC w9 a' (inL X.2.1) ∧ (∀ v ∈ X.2.1, okI v ∧ 0 ≤ v) ∧ (q - N) ≤ 3000000 ∧ ∀ g off, a' = some ⟨g, off, none⟩ → w.heap.size ≤ g ∧ ¬ RD' g) := Lib.hid (fun w9 RX k1 k2 => by
          refine ⟨by rw [HX2.out, EF.out], ?_⟩
          rw [HX2.out]
          exact HS.out.fresh B2.out G.out.dk.lt A0.out k1 ((TurnR.later (Below.refl _ _).drew).trans k2) (by rw [EF.out]; exact ⟨rfl, rfl⟩) (by omega) hrd hag)
        have l0 : wr.drew.cell? ⟨L, 0, none⟩ = some (.pointer (some ⟨d, 0, none⟩)) := LCELL.out wr HS.out.only
        have HNW := Lib.hid HS.out.new
        have HON := Lib.hid HS.out.only
        have LC2 : Hid (∀ W, Only Rk wr.drew W → W.cell? ⟨L, 0, none⟩ = some (.pointer (some ⟨d, 0, none⟩))) := Lib.hid (fun W hW => LCELL.out W ((HON.out.later (Below.refl _ _).drew).trans hW (fun y hy => by
            rcases HNW.out y hy with h1 | h1
            · exact Or.inl (Or.inl h1)
            · exact Or.inr h1)))
        obtain ⟨z, hz⟩ : ∃ z, q - N = z := ⟨_, rfl⟩
        rw [hz] at PS FIN
        clear hrd hag HS hY hz
        go_upto_region 16 with fail
        refine wp_region_last 10 (fun w' => w'.cell? ⟨L, 0, none⟩ = some (.pointer (some ⟨d, 0, none⟩))) (by kernel_rfl) (l0) (fun hHeld hClosed => ?_)
        refine wpAnyL_take (i := 0) (v := ?_) rfl (by kernel_rfl) (by kernel_rfl) (by kernel_rfl) (by kernel_rfl) (fun _ _ _ h => h) (by kernel_rfl) hClosed (Or.inl ⟨by rfl, ?_⟩) hHeld (fun hClosed => ?_)
        rotate_left
        · intro wv hSw; go_simp; all_goals (with_reducible rfl)
        (try simp only [List.getElem_toArray, List.getElem_cons_zero, put_at, List.set])
        refine wpAnyL_take (i := 1) (v := ?_) rfl (by kernel_rfl) (by kernel_rfl) (by kernel_rfl) (by kernel_rfl) (fun _ _ _ h => h) (by kernel_rfl) hClosed (Or.inl ⟨by rfl, ?_⟩) hHeld (fun hClosed => ?_)
        rotate_left
        · intro wv hSw; go_simp; all_goals (with_reducible rfl)
        (try simp only [List.getElem_toArray, List.getElem_cons_succ, List.getElem_cons_zero, put_at, List.set])
        refine wpAnyL_take (i := 4) (v := ?_) rfl (by kernel_rfl) (by kernel_rfl) (by kernel_rfl) (by kernel_rfl) (fun _ _ _ h => h) (by kernel_rfl) hClosed (Or.inl ⟨by rfl, ?_⟩) hHeld (fun hClosed => ?_)
        rotate_left
        · intro wv hSw; go_simp; all_goals (with_reducible rfl)
        (try simp only [List.getElem_toArray, List.getElem_cons_succ, List.getElem_cons_zero, put_at, List.set])
        refine wpAnyL_take (i := 5) (v := ?_) rfl (by kernel_rfl) (by kernel_rfl) (by kernel_rfl) (by kernel_rfl) (fun _ _ _ h => h) (by kernel_rfl) hClosed (Or.inl ⟨by rfl, ?_⟩) hHeld (fun hClosed => ?_)
        rotate_left
        · intro wv hSw; go_simp; all_goals (with_reducible rfl)
        (try simp only [List.getElem_toArray, List.getElem_cons_succ, List.getElem_cons_zero, put_at, List.set])
        refine wpAnyL_take (i := 6) (v := ?_) rfl (by kernel_rfl) (by kernel_rfl) (by kernel_rfl) (by kernel_rfl) (fun _ _ _ h => h) (by kernel_rfl) hClosed (Or.inl ⟨by rfl, ?_⟩) hHeld (fun hClosed => ?_)
        rotate_left
        · intro wv hSw; go_simp; all_goals (with_reducible rfl)
        (try simp only [List.getElem_toArray, List.getElem_cons_succ, List.getElem_cons_zero, put_at, List.set])
        refine wpAnyL_take (i := 7) (v := ?_) rfl (by kernel_rfl) (by kernel_rfl) (by kernel_rfl) (by kernel_rfl) (fun _ _ _ h => h) (by kernel_rfl) hClosed (Or.inl ⟨by rfl, ?_⟩) hHeld (fun hClosed => ?_)
        rotate_left
        · intro wv hSw; have l09 := hSw; go_simp; all_goals (with_reducible rfl)
        (try simp only [List.getElem_toArray, List.getElem_cons_succ, List.getElem_cons_zero, put_at, List.set])
        refine wpAnyL_two (i := 2) (j := 8) rfl rfl (by kernel_rfl) (by kernel_rfl) (by kernel_rfl) hClosed (fun KK hK => ?_) (fun KK hK => ?_)
        · go_simp
          refine hK.out _ _ ?_ (fun hClosed hHeld => ?_)
          · assumption
          clear hK KK
          (first | simp only [List.getElem_toArray, List.getElem_cons_succ, List.getElem_cons_zero, put_at, List.set] | (try simp only [put_at, List.set]))
          refine wpAnyL_take (i := 3) (v := .slice a' z c') rfl (by kernel_rfl) (by kernel_rfl) (by kernel_rfl) (by kernel_rfl) (fun _ _ _ h => h) (by kernel_rfl) hClosed (Or.inl ⟨by rfl, ?_⟩) hHeld (fun hClosed => ?_)
          · intro wv hSw; exact exec_slice (by rfl) (by rfl) PS
          (try simp only [List.getElem_toArray, List.getElem_cons_succ, List.getElem_cons_zero, put_at, List.set])
          refine wpAnyL_one (i := 8) rfl (by kernel_rfl) (by kernel_rfl) hClosed (fun KK hK => ?_)
          go_simp
          refine SY.out.mono ?_
          rintro e wx ⟨rfl, hax⟩
          obtain ⟨RX, hdx, htx⟩ := hax
          go_wp2_with fail
          refine hK.out _ _ ?_ (fun hClosed hHeld => ?_)
          · exact LC2.out _ htx.only
          clear hK KK
          (first | simp only [List.getElem_toArray, List.getElem_cons_succ, List.getElem_cons_zero, put_at, List.set] | (try simp only [put_at, List.set]))
          refine wpAnyL_take (i := 9) (v := ?_) rfl (by kernel_rfl) (by kernel_rfl) (by kernel_rfl) (by kernel_rfl) (fun _ _ _ h => h) (by kernel_rfl) hClosed (Or.inl ⟨by rfl, ?_⟩) hHeld (fun hClosed => ?_)
          rotate_left
          · intro wv hSw; go_simp; all_goals (with_reducible rfl)
          (try simp only [List.getElem_toArray, List.getElem_cons_succ, List.getElem_cons_zero, put_at, List.set])
          refine wpAnyL_last rfl (by kernel_rfl) (by kernel_rfl) (fun KK hK => ?_)
          go_simp
          refine hK.out _ _ ?_
          (try simp only [put_at, List.set])
          obtain ⟨r1, r2⟩ := FIN.out _ _ hdx htx
          clear hdx htx hHeld hClosed
          go_wp2_with fail
          go_ret2
          exact ⟨_, c', a', r1, r2⟩
        · go_simp
          refine SY.out.mono ?_
          rintro e wx ⟨rfl, hax⟩
          obtain ⟨RX, hdx, htx⟩ := hax
          go_wp2_with fail
          refine hK.out _ _ ?_ (fun hClosed hHeld => ?_)
          · exact LC2.out _ htx.only
          clear hK KK
          (first | simp only [List.getElem_toArray, List.getElem_cons_succ, List.getElem_cons_zero, put_at, List.set] | (try simp only [put_at, List.set]))
          refine wpAnyL_one (i := 2) rfl (by kernel_rfl) (by kernel_rfl) hClosed (fun KK hK => ?_)
          go_simp
          refine hK.out _ _ ?_ (fun hClosed hHeld => ?_)
          · assumption
          clear hK KK
          (first | simp only [List.getElem_toArray, List.getElem_cons_succ, List.getElem_cons_zero, put_at, List.set] | (try simp only [put_at, List.set]))
          refine wpAnyL_take (i := 3) (v := .slice a' z c') rfl (by kernel_rfl) (by kernel_rfl) (by kernel_rfl) (by kernel_rfl) (fun _ _ _ h => h) (by kernel_rfl) hClosed (Or.inl ⟨by rfl, ?_⟩) hHeld (fun hClosed => ?_)
          · intro wv hSw; exact exec_slice (by rfl) (by rfl) PS
          (try simp only [List.getElem_toArray, List.getElem_cons_succ, List.getElem_cons_zero, put_at, List.set])
          refine wpAnyL_take (i := 9) (v := ?_) rfl (by kernel_rfl) (by kernel_rfl) (by kernel_rfl) (by kernel_rfl) (fun _ _ _ h => h) (by kernel_rfl) hClosed (Or.inl ⟨by rfl, ?_⟩) hHeld (fun hClosed => ?_)
          rotate_left
          · intro wv hSw; go_simp; all_goals (with_reducible rfl)
          (try simp only [List.getElem_toArray, List.getElem_cons_succ, List.getElem_cons_zero, put_at, List.set])
          refine wpAnyL_last rfl (by kernel_rfl) (by kernel_rfl) (fun KK hK => ?_)
          go_simp
          refine hK.out _ _ ?_
          (try simp only [put_at, List.set])
          obtain ⟨r1, r2⟩ := FIN.out _ _ hdx htx
          clear hdx htx hHeld hClosed
          go_wp2_with fail
          go_ret2
          exact ⟨_, c', a', r1, r2⟩
end Go.Proofs.YtimkgaokcldgkaaGreatDoor
