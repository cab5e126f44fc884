/- The document's own Pick. -/
import Derived.Test.YtodlecjbpmggiaaGreatDoorRbAwk
import Derived.Test.YtodlecjbpmggiaaGreatDoorLast
import Derived.BigQuiet
namespace Go.Proofs.YtodlecjbpmggiaaGreatDoor
open Go Go.RowKit
set_option linter.unusedVariables false
set_option linter.unusedSimpArgs false
set_option maxRecDepth 10000

section
variable {P : Program} {ops : Array Oper} {o : Oper} {act : Act} {Q : Exit → Act → World → Prop} {w : World}
theorem step_appN {T E : TypeId} {size bytes : Nat} {K : Act → World → Prop} {F : Prop} (hT : RowTy P T E size bytes) (hgd : o.guard = none) (s x : Operand) (ho : o.op = .call { callee := .builtin .append, args := #[s, x], argTypes := #[T, T] })
    (B : Nat) (a : Option Addr) (n cap : Nat) (xs : List Value) (hs : act.eval s = .slice a n cap) (hown : Own w B E size a n cap xs)
    (a2 : Option Addr) (m c2 : Nat) (ys : List Value) (hx : act.eval x = .slice a2 m c2) (hl : ys.length = m * size) (hr : RdC w a2 ys) (h1 : ∀ u ∈ ys, u.oneCell' = true)
    (h63 : n + m ≤ 1000000) (hby : bytes ≤ 100000) (hB : B ≤ w.heap.size) (N : Nat) (hN : n + m = N) (zs : List Value) (hz : xs ++ ys = zs)
    (h : ∀ a' cap' w', Own w' B E size a' N cap' zs → w.grownBy w' (a.map (·.block)) → Below B w w' → K (act.put o.dst (.slice a' N cap')) w') : if Region.wanted o (yielded ops act.tmps) = true then Oper.wp P o act w K Q else F := by
  have hpos := hT.pos
  rcases Nat.eq_zero_or_pos m with h0 | h0
  · subst h0
    obtain rfl : ys = [] := List.length_eq_zero_iff.1 (by omega)
    rw [List.append_nil] at hz
    subst hz
    obtain rfl : n = N := by omega
    have hw : Region.wanted o (yielded ops act.tmps) = true := by simp [Region.wanted, hgd]
    rw [if_pos hw]
    unfold Oper.wp execOp
    simp only [ho, resolve, invoke, builtin, Sem.run_bind, Sem.run_pure, Result.andThen_ok, List.map_toArray, List.map_cons, List.map_nil, hs, hx, run_app0 hT o.type a n cap hown.cap_le a2 c2 w]
    exact h a cap w hown (World.grownBy.refl w _) (Below.refl _ _)
  · obtain ⟨u, hu⟩ : ∃ u, ys[0]? = some u := ⟨_, List.getElem?_eq_getElem (by rw [hl]; exact Nat.mul_pos h0 hpos)⟩
    obtain ⟨b2, rfl, _⟩ := hr 0 u hu
    exact step_appR hT hgd s x ho B a n cap xs hs hown b2 0 m c2 ys hx h0 hl (fun j u hj => by
      obtain ⟨g, e, hc⟩ := hr j u hj
      injection e with e
      injection e with e
      subst e
      rw [Nat.zero_add]
      exact hc) h1 h63 hby hB N hN zs hz (fun g cap' w' q1 q2 q3 _ => h _ cap' w' q1 q2 q3)
end
theorem rb_fin2 (r : Rb) (w w5 : World) (R5 : Box w5 w.heap.size #[.bool false, .bool false, .slice none 0 0, .int .i64 0] 26) (B5 : Below w.heap.size w w5) (a5 : Option Addr) (c5 : Nat) (h5 : RdC w5 a5 (ruC r.ru)) (l5 : r.ru.length ≤ c5) (l6 : c5 ≤ 9223372036854775807) (k5 : ∀ g, a5 = some ⟨g, 0, none⟩ → w.heap.size < g) :
    w5.cell? ⟨w.heap.size, 0, none⟩ = some (.bool false) ∧ w5.cell? ⟨w.heap.size, 1, none⟩ = some (.bool false) ∧ w5.cell? ⟨w.heap.size, 2, none⟩ = some (.slice none 0 0) ∧ w5.cell? ⟨w.heap.size, 3, none⟩ = some (.int .i64 0) ∧
    w5.frozen? ⟨w.heap.size, 0, none⟩ = false ∧ w5.frozen? ⟨w.heap.size, 1, none⟩ = false ∧ w5.frozen? ⟨w.heap.size, 2, none⟩ = false ∧ w5.frozen? ⟨w.heap.size, 3, none⟩ = false ∧ w.heap.size < w5.heap.size ∧
    Hid (∀ (u0 u1 u2 u3 : Value) (p0 p1 p2 p3 : Addr), p0.block = w.heap.size → p1.block = w.heap.size → p2.block = w.heap.size → p3.block = w.heap.size → RoP w r (.returned (.agg #[.bool r.all, .bool r.none_, .slice a5 r.ru.length c5, .int .i64 r.de])) ((((w5.setCell p0 u0).setCell p1 u1).setCell p2 u2).setCell p3 u3)) := by
  have hne : ∀ g, a5 = some ⟨g, 0, none⟩ → g ≠ w.heap.size := fun g hg => by have := k5 g hg; omega
  refine ⟨by rw [R5.cell 0]; rfl, by rw [R5.cell 1]; rfl, by rw [R5.cell 2]; rfl, by rw [R5.cell 3]; rfl, R5.free 0, R5.free 1, R5.free 2, R5.free 3, R5.lt, Lib.hid (fun u0 u1 u2 u3 p0 p1 p2 p3 e0 e1 e2 e3 => ?_)⟩
  exact ⟨a5, c5, rfl, (((h5.other (fun g hg => e0 ▸ hne g hg) _).other (fun g hg => e1 ▸ hne g hg) _).other (fun g hg => e2 ▸ hne g hg) _).other (fun g hg => e3 ▸ hne g hg) _, l5, l6,
    fun g hg => Nat.le_of_lt (k5 g hg), (((B5.setCell (by omega) _).setCell (by omega) _).setCell (by omega) _).setCell (by omega) _⟩
/-- Whom a round is for. -/
def rndP (tk : List Int) (r : Nat) : List Int → Bool := if r = 0 then mineB tk else starB
structure RpS (w wr : World) (O : Nat) (gs : List Gp) (p : List Int → Bool) (i : Nat) (a : Option Addr) (cap : Nat) (rs : List (Bool × List Int)) (d : Int) : Prop where
  own : Own wr w.heap.size 30 2 a rs.length cap (ruC rs)
  box : Box wr O #[.bool false, .bool false, .slice a rs.length cap, .int .i64 d] 26
  res : Box wr w.heap.size #[.bool false, .bool false, .slice none 0 0, .int .i64 0] 26
  bel : Below w.heap.size w wr
  rs : rs = (pickF p (gs.take i)).flatMap (·.ru)
  de : d = (pickF p (gs.take i)).foldl (fun d g => max d g.de) 0
theorem pickF_snoc {gs : List Gp} {i : Nat} {x : Gp} (h : gs[i]? = some x) (p : List Int → Bool) : pickF p (gs.take (i + 1)) = pickF p (gs.take i) ++ (if x.ag.any p = true then [x] else []) := by
  unfold pickF
  rw [List.take_add_one, h, List.filter_append]
  congr 1
  simp only [Option.toList_some, List.filter_cons, List.filter_nil]
theorem pickF_take_sum (p : List Int → Bool) (gs : List Gp) (i : Nat) : ((pickF p (gs.take i)).flatMap (·.ru)).length ≤ (gs.flatMap (·.ru)).length :=
  Nat.le_trans (pickF_sum p _) (flat_le gs i)
theorem RpS.skip {w wr : World} {O i cap : Nat} {gs : List Gp} {p : List Int → Bool} {a : Option Addr} {rs : List (Bool × List Int)} {d : Int} (h : RpS w wr O gs p i a cap rs d) {x : Gp} (hx : gs[i]? = some x) (hp : x.ag.any p = false) : RpS w wr O gs p (i + 1) a cap rs d := by
  have e := pickF_snoc hx p
  rw [hp, if_neg (by simp), List.append_nil] at e
  exact ⟨h.own, h.box, h.res, h.bel, by rw [e]; exact h.rs, by rw [e]; exact h.de⟩
theorem RpS.later {w wr w' : World} {O i cap : Nat} {gs : List Gp} {p : List Int → Bool} {a : Option Addr} {rs : List (Bool × List Int)} {d : Int} (h : RpS w wr O gs p i a cap rs d) (hb : Below wr.heap.size wr w') : RpS w w' O gs p i a cap rs d :=
  ⟨h.own.later hb, h.box.later hb, h.res.later hb, h.bel.trans (hb.mono h.bel.size), h.rs, h.de⟩
set_option maxHeartbeats 4000000 in
theorem rpick_at (GA : List (Gp × GpA)) (n : Nat) (hn : GA.length = n) (hn2 : n ≤ 10000) (hsum : ((GA.map (·.1)).flatMap (·.ru)).length ≤ 100000) (hok : ∀ x ∈ GA, ∀ z ∈ x.1.ag, NmOk z) (a : Option Addr) (cap B : Nat) (w : World)
    (h : GsM 61 B w a cap GA) (hB : B ≤ w.heap.size) (agent : ByteArray) (hs : agent.size ≤ 1000000000000000) :
    Calls Tryz.prog 18 #[.slice a n cap, .string agent] w (RoP w (pickL (GA.map (·.1)) (tokL (btL agent)))) := by
  have TK := Lib.hid (fun W => rtoken_at agent hs W)
  obtain ⟨tk, htk⟩ : ∃ tk, tokL (btL agent) = tk := ⟨_, rfl⟩
  have hbt : Byts tk := by rw [← htk]; exact tok_byts (btL_byts _)
  rw [htk] at TK ⊢
  obtain ⟨gs, hgs⟩ : ∃ gs, GA.map (·.1) = gs := ⟨_, rfl⟩
  have TN : Hid (∀ z, NmOk z → ∀ W, Calls Tryz.prog 14 #[.string (strL z)] W fun e w' => e = .returned (.string (strL (tokL z))) ∧ Below W.heap.size W w') := Lib.hid (fun z hz W => by
    have := rtoken_at (strL z) (by rw [strL_size]; exact hz.2) W
    rw [btL_strL hz.1] at this
    exact this)
  have HA : Hid (∀ i, i < n → ∃ x ga, GA[i]? = some x ∧ gs[i]? = some x.1 ∧ a = some ⟨ga, 0, none⟩ ∧ R1 w ga i x ∧ RdC w x.2.ra (ruC x.1.ru) ∧ ∀ z ∈ x.1.ag, NmOk z) := Lib.hid (fun i hi => by
    obtain ⟨x, hx⟩ : ∃ x, GA[i]? = some x := ⟨_, List.getElem?_eq_getElem (by rw [hn]; exact hi)⟩
    obtain ⟨ga, rfl, _⟩ := Own.some_ h.own (by omega)
    exact ⟨x, ga, hx, by rw [← hgs, List.getElem?_map, hx]; rfl, rfl, h.rone hx, (h.all x (List.mem_of_getElem? hx)).r.rdc, hok x (List.mem_of_getElem? hx)⟩)
  have HN : Hid (gs.length = n) := Lib.hid (by rw [← hgs, List.length_map, hn])
  rw [hgs] at hsum ⊢
  have FS : Hid (∀ p i, ((pickF p (gs.take i)).flatMap (·.ru)).length ≤ 100000) := Lib.hid (fun p i => Nat.le_trans (pickF_take_sum p gs i) hsum)
  have PL : Hid (pickL gs tk = if pickF (mineB tk) gs = [] then mergeL (pickF starB gs) else mergeL (pickF (mineB tk) gs)) := Lib.hid rfl
  obtain ⟨ro, hro⟩ : ∃ ro, pickL gs tk = ro := ⟨_, rfl⟩
  rw [hro] at PL ⊢
  have NE : Hid ((strL tk).toList.isEmpty = decide (tk = [])) := Lib.hid (by rw [Lib.toList_data]; cases tk <;> rfl)
  have EQ : Hid (∀ z, NmOk z → ((strL (tokL z)).toList == (strL tk).toList) = decide (tokL z = tk)) := Lib.hid (fun z hz => by
    rw [rb_tl (tok_byts hz.1), show rbv (strL tk).toList = tk by rw [Lib.toList_data]; exact btL_strL hbt])
  have ST : Hid (∀ z, NmOk z → ((strL z).toList == [42]) = starB z) := Lib.hid (fun z hz => by rw [rb_tl hz.1]; rfl)
  have RB := Lib.hid (Box.new w #[.bool false, .bool false, .slice none 0 0, .int .i64 0] 26)
  have B0 := Lib.hid ((Below.refl w.heap.size w).alloc (Nat.le_refl _) (.cells #[.bool false, .bool false, .slice none 0 0, .int .i64 0] 26))
  clear hgs h hn hsum hok htk hB hbt hro
  go_enter Tryz.func18, Tryz.ntmps18
  go_wp2_with fail
  refine (TK.out _).mono ?_
  rintro e w1 ⟨rfl, hb1⟩
  have R1 := Lib.hid (RB.out.later hb1)
  have B1 := Lib.hid (B0.out.trans (hb1.mono B0.out.size))
  have sz1 : w.heap.size < w1.heap.size := by have := R1.out.lt; exact this
  clear hb1 TK RB B0
  go_wp2_with fail
  go_loopw [6, 7, 8, 9, 10, 11, 12] (fun j _ _ _ _ _ _ wr => ∃ r : Nat, r ≤ 1 ∧ j = .int .i64 (r : Int) ∧ w.heap.size < wr.heap.size ∧ Hid (Box wr w.heap.size #[.bool false, .bool false, .slice none 0 0, .int .i64 0] 26 ∧ Below w.heap.size w wr ∧ (r = 1 → pickF (mineB tk) gs = []))) (fun j _ _ _ _ _ _ _ => 2 - (intOf j).toNat)
  case atStart => exact ⟨0, by omega, rfl, sz1, Lib.hid ⟨R1.out, B1.out, fun h => by omega⟩⟩
  case round =>
    obtain ⟨r, hr, rfl, sz, HS⟩ := hrel
    have hkd : decide ((r : Int) < 2) = true := decide_eq_true (by omega)
    obtain ⟨wo, rfl⟩ : ∃ x, x = wr := ⟨_, rfl⟩
    have BX := Lib.hid (Box.new wo #[.bool false, .bool false, .slice none 0 0, .int .i64 0] 26)
    have BS := Lib.hid (HS.out.1.alloc (.cells #[.bool false, .bool false, .slice none 0 0, .int .i64 0] 26))
    have BB := Lib.hid (HS.out.2.1.alloc (Nat.le_of_lt sz) (.cells #[.bool false, .bool false, .slice none 0 0, .int .i64 0] 26))
    have HM := Lib.hid HS.out.2.2
    obtain ⟨p, hp⟩ : ∃ p, rndP tk r = p := ⟨_, rfl⟩
    have HP := Lib.hid hp
    clear HS R1 B1 hp
    go_upto_region 6 with fail
    -- GEN
    obtain ⟨wb, hwb⟩ : ∃ W, wo.alloc (.cells #[.bool false, .bool false, .slice none 0 0, .int .i64 0] 26) = W := ⟨_, rfl⟩
    rw [hwb] at BX BS BB
    rw [hwb]
    clear hwb
    have lOb := BX.out.lt
    have lSb := BS.out.lt
    go_wp2_with fail
    go_loopw [8, 9, 10, 11, 12] (fun s j _ _ _ wr => ∃ (i : Nat) (a' : Option Addr) (cap' : Nat) (rs : List (Bool × List Int)) (d : Int) (sb : Bool), i ≤ n ∧ s = .bool sb ∧ j = .int .i64 (i : Int) ∧ wo.heap.size < wr.heap.size ∧ rs.length ≤ 100000 ∧ Hid (sb = !(pickF p (gs.take i)).isEmpty) ∧ Hid (RpS w wr wo.heap.size gs p i a' cap' rs d)) (fun _ j _ _ _ _ => n - (intOf j).toNat)
    case atStart => exact ⟨0, none, 0, [], 0, false, by omega, rfl, rfl, lOb, by simp, Lib.hid rfl, Lib.hid ⟨Own.nil _ _ _ _, BX.out, BS.out, BB.out, rfl, rfl⟩⟩
    case round =>
      obtain ⟨i, a', cap', rs, d, sb, hi, rfl, rfl, szw, hrl, SB0, RS⟩ := hrel
      by_cases hlt : i < n
      · have hkd : decide ((i : Int) < (n : Int)) = true := decide_eq_true (by omega)
        obtain ⟨x, ga, hx, hgx, rfl, g1, rdr, nmo⟩ := HA.out i hlt
        have G1 := Lib.hid (g1.later RS.out.bel)
        have RDR := Lib.hid (rdr.later RS.out.bel)
        have HX := Lib.hid hgx
        have NMO := Lib.hid nmo
        have gaw : ga < w.heap.size := World.block_lt_of_cell? _ _ g1.c0
        obtain ⟨gp, aa, ac, ra, rc⟩ := x
        dsimp only at G1 RDR HX NMO
        obtain ⟨LA, hLA⟩ : ∃ LA, gp.ag.length = LA := ⟨_, rfl⟩
        have HLA := Lib.hid hLA
        have hla : LA ≤ 9223372036854775807 := by have := G1.out.la; rw [← hLA]; exact this
        obtain ⟨wi, rfl⟩ : ∃ x, x = wr := ⟨_, rfl⟩
        have hx0 : (0 : Int) ≤ (i : Int) := by omega
        have hx1 : (i : Int) < (n : Int) := by omega
        clear hx hgx g1 rdr nmo BX BS BB hLA
        go_wp2_with fail
        go_loopw [10, 11, 12] (fun m kk _ wx => ∃ (k : Nat) (mb : Bool), k ≤ LA ∧ m = .bool mb ∧ kk = .int .i64 (k : Int) ∧ wo.heap.size < wx.heap.size ∧ Hid (Below wi.heap.size wi wx) ∧ Hid (mb = (gp.ag.take k).any p)) (fun _ kk _ _ => LA - (intOf kk).toNat)
        case atStart => exact ⟨0, false, by omega, rfl, rfl, szw, Lib.hid (Below.refl _ _), Lib.hid rfl⟩
        case round =>
          obtain ⟨k, mb, hk, rfl, rfl, szx, BI, HMB⟩ := hrel
          obtain ⟨wx, rfl⟩ : ∃ x, x = wr := ⟨_, rfl⟩
          have G2 := Lib.hid (G1.out.later BI.out)
          have x0 := G2.out.c0
          rw [HLA.out] at x0
          by_cases hkt : k < LA
          · have hke : decide ((k : Int) < (LA : Int)) = true := decide_eq_true (by omega)
            obtain ⟨z, hz⟩ : ∃ z, gp.ag[k]? = some z := ⟨_, List.getElem?_eq_getElem (by rw [HLA.out]; exact hkt)⟩
            obtain ⟨rr, haa, xz⟩ := G2.out.ag k z hz
            dsimp only at haa
            subst haa
            have NM := NMO.out z (List.mem_of_getElem? hz)
            have TZ := Lib.hid (fun W => TN.out z NM W)
            have EZ := EQ.out z NM
            have SZ := ST.out z NM
            have NX : Hid (((gp.ag.take (k + 1)).any p) = (mb || p z)) := Lib.hid (by rw [List.take_add_one, hz, List.any_append, ← HMB.out]; cases mb <;> cases hpz : p z <;> simp [hpz])
            have hy0 : (0 : Int) ≤ (k : Int) := by omega
            have hy1 : (k : Int) < (LA : Int) := by omega
            obtain ⟨sv, hsv⟩ : ∃ sv, strL z = sv := ⟨_, rfl⟩
            obtain ⟨tv, htv⟩ : ∃ tv, strL (tokL z) = tv := ⟨_, rfl⟩
            obtain ⟨nv, hnv⟩ : ∃ nv, strL tk = nv := ⟨_, rfl⟩
            have NE0 := NE.out
            rw [hsv] at xz TZ SZ
            rw [htv] at TZ EZ
            rw [hnv] at EZ NE0 ⊢
            have PZ : Hid (p z = if r = 0 then mineB tk z else starB z) := Lib.hid (by rw [← HP.out]; unfold rndP; split <;> rfl)
            clear hsv htv hz NM
            go_upto_region 15 with fail
            cases mb with
            | true =>
              clear EZ SZ NE0 TZ
              go_wp2
              go_roundw
              case rel => exact ⟨k + 1, true, by omega, rfl, by simp, szx, BI, Lib.hid (by rw [NX.out]; rfl)⟩
              case measure =>
                simp only [intOf]
                omega
            | false =>
              by_cases hr0 : r = 0
              · have PZ2 : Hid (p z = mineB tk z) := Lib.hid (by rw [PZ.out, if_pos hr0])
                have hr1 : ((r : Int) == 0) = true := beq_iff_eq.2 (by omega)
                have hr2 : ((r : Int) == 1) = false := beq_eq_false_iff_ne.2 (by omega)
                clear hr0 PZ
                by_cases ht : tk = []
                · have hte : nv.toList.isEmpty = true := by rw [NE0]; exact decide_eq_true ht
                  clear EZ SZ NE0 TZ
                  go_wp2
                  go_roundw
                  case rel => exact ⟨k + 1, false, by omega, rfl, by simp, szx, BI, Lib.hid (by rw [NX.out, PZ2.out, ht]; rfl)⟩
                  case measure =>
                    simp only [intOf]
                    omega
                · have hte : nv.toList.isEmpty = false := by rw [NE0]; exact decide_eq_false ht
                  have PZ3 : Hid (p z = decide (tokL z = tk)) := Lib.hid (by rw [PZ2.out]; unfold mineB; cases tk with
                    | nil => exact absurd rfl ht
                    | cons c t => rfl)
                  clear SZ NE0
                  go_wp2_with fail
                  refine (TZ.out _).mono ?_
                  rintro e wy ⟨rfl, hby⟩
                  have BY := Lib.hid (BI.out.trans (hby.mono BI.out.size))
                  have szy := Nat.lt_of_lt_of_le szx hby.size
                  obtain ⟨q, hq⟩ : ∃ q, (tv.toList == nv.toList) = q := ⟨_, rfl⟩
                  have QQ : Hid (p z = q) := Lib.hid (by rw [PZ3.out, ← hq, EZ])
                  clear hby TZ EZ hr1
                  cases q <;> (
                    go_wp2
                    go_roundw
                    case rel => exact ⟨k + 1, _, by omega, rfl, by simp, szy, BY, Lib.hid (by rw [NX.out, QQ.out]; rfl)⟩
                    case measure =>
                      simp only [intOf]
                      omega)
              · have hr1 : ((r : Int) == 0) = false := beq_eq_false_iff_ne.2 (by omega)
                have hr2 : ((r : Int) == 1) = true := beq_iff_eq.2 (by omega)
                obtain ⟨q, hq⟩ : ∃ q, (sv.toList == [42]) = q := ⟨_, rfl⟩
                have QQ : Hid (p z = q) := Lib.hid (by rw [PZ.out, if_neg hr0, ← hq, SZ])
                clear EZ SZ NE0 TZ
                cases q <;> (
                  go_wp2
                  go_roundw
                  case rel => exact ⟨k + 1, _, by omega, rfl, by simp, szx, BI, Lib.hid (by rw [NX.out, QQ.out]; rfl)⟩
                  case measure =>
                    simp only [intOf]
                    omega)
          · have hke : decide ((k : Int) < (LA : Int)) = false := decide_eq_false (by omega)
            obtain rfl : k = LA := by omega
            have HM2 : Hid (gp.ag.any p = mb) := Lib.hid (by rw [HMB.out, ← HLA.out, List.take_length])
            have RS2 := Lib.hid (RS.out.later BI.out)
            have RR := Lib.hid (RDR.out.later BI.out)
            cases mb with
            | false =>
              have NX := Lib.hid (RS2.out.skip HX.out HM2.out)
              have SB : Hid (sb = !(pickF p (gs.take (i + 1))).isEmpty) := Lib.hid (by rw [pickF_snoc HX.out, HM2.out, if_neg (by simp), List.append_nil]; exact SB0.out)
              clear RS2 RR G2
              go_wp2
              go_roundw
              case rel => exact ⟨i + 1, a', cap', rs, d, sb, by omega, rfl, by simp, szx, hrl, SB, NX⟩
              case measure =>
                simp only [intOf]
                omega
            | true =>
              have SB : Hid (true = !(pickF p (gs.take (i + 1))).isEmpty) := Lib.hid (by rw [pickF_snoc HX.out, HM2.out, if_pos rfl]; cases pickF p (gs.take i) <;> rfl)
              have RF : Hid (rs ++ gp.ru = (pickF p (gs.take (i + 1))).flatMap (·.ru)) := Lib.hid (by rw [pickF_snoc HX.out, HM2.out, if_pos rfl, List.flatMap_append, ← RS2.out.rs]; simp)
              have RD : Hid (max d gp.de = (pickF p (gs.take (i + 1))).foldl (fun d g => max d g.de) 0) := Lib.hid (by rw [pickF_snoc HX.out, HM2.out, if_pos rfl, List.foldl_append, ← RS2.out.de]; rfl)
              have RL := FS.out p (i + 1)
              rw [← RF.out] at RL
              have HZ : Hid (ruC rs ++ ruC gp.ru = ruC (rs ++ gp.ru)) := Lib.hid (ruC_app _ _).symm
              have hN0 : rs.length + gp.ru.length = (rs ++ gp.ru).length := by rw [List.length_append]
              obtain ⟨r2, hr2⟩ : ∃ r, rs ++ gp.ru = r := ⟨_, rfl⟩
              rw [hr2] at HZ hN0 RL RF
              have h63 : rs.length + gp.ru.length ≤ 1000000 := by omega
              have HNN := Lib.hid hN0
              clear hN0 hr2
              have y2 := RS2.out.box.cell 2
              have x1 := G2.out.c1
              have x2 := G2.out.c2
              dsimp only at x1 x2
              have X2 := Lib.hid x2
              have lOO : wo.heap.size < wx.heap.size := szx
              have lga : ga < wx.heap.size := World.block_lt_of_cell? _ _ x1
              have szA : w.heap.size ≤ wx.drew.heap.size := RS2.out.bel.size
              have OA := Lib.hid (RS2.out.own.later ((Below.refl _ _).drew))
              have RA := Lib.hid (RR.out.later ((Below.refl _ _).drew))
              have hga : some ga ≠ a'.map (·.block) := fun e => by
                have h1 := own_block RS2.out.own e.symm
                have h2 := RS2.out.own
                rw [h1] at h2
                have := h2.lt.1
                omega
              have hOO : some wo.heap.size ≠ a'.map (·.block) := own_not_box RS2.out.own RS2.out.box (by decide)
              have hSS : some w.heap.size ≠ a'.map (·.block) := own_not_box RS2.out.own RS2.out.res (by decide)
              have LF : Hid (∀ a2 cap2 w3, Own w3 w.heap.size 30 2 a2 r2.length cap2 (ruC r2) → wx.drew.grownBy w3 (a'.map (·.block)) → Below w.heap.size wx.drew w3 → w3.heap[wo.heap.size]? = wx.heap[wo.heap.size]? ∧ w3.heap[ga]? = wx.heap[ga]?) := Lib.hid (fun a2 cap2 w3 q1 q2 q3 => ⟨q2.block _ lOO hOO, q2.block _ lga hga⟩)
              have LEAF : Hid (∀ a2 cap2 w3, Own w3 w.heap.size 30 2 a2 r2.length cap2 (ruC r2) → wx.drew.grownBy w3 (a'.map (·.block)) → Below w.heap.size wx.drew w3 → w3.cell? ⟨wo.heap.size, 2, none⟩ = some (.slice a' rs.length cap') ∧ w3.frozen? ⟨wo.heap.size, 2, none⟩ = false ∧
                  Hid (Hid (Own (w3.setCell ⟨wo.heap.size, 2, none⟩ (.slice a2 r2.length cap2)) w.heap.size 30 2 a2 r2.length cap2 (ruC r2)) ∧
                    Hid (Box (w3.setCell ⟨wo.heap.size, 2, none⟩ (.slice a2 r2.length cap2)) wo.heap.size #[.bool false, .bool false, .slice a2 r2.length cap2, .int .i64 d] 26) ∧
                    Hid (Box (w3.setCell ⟨wo.heap.size, 2, none⟩ (.slice a2 r2.length cap2)) w.heap.size #[.bool false, .bool false, .slice none 0 0, .int .i64 0] 26) ∧
                    Hid (Below w.heap.size w (w3.setCell ⟨wo.heap.size, 2, none⟩ (.slice a2 r2.length cap2))) ∧ (w3.setCell ⟨wo.heap.size, 2, none⟩ (.slice a2 r2.length cap2)).cell? ⟨ga, i * 3 + 2, none⟩ = some (.int .i64 gp.de))) := Lib.hid (fun a2 cap2 w3 q1 q2 q3 => by
                have k1 : Box w3 wo.heap.size _ _ := (q2.block _ lOO hOO).trans RS2.out.box
                have k2 : Box w3 w.heap.size _ _ := (q2.block _ RS2.out.res.lt hSS).trans RS2.out.res
                refine ⟨by rw [k1.cell 2]; rfl, k1.free 2, Lib.hid ⟨Lib.hid (q1.other (fun g hg e => own_not_box q1 k1 (by decide) (by rw [hg]; exact congrArg some e.symm)) _), Lib.hid (k1.set 2 _), Lib.hid (k2.other (by simp; omega) _), Lib.hid (((RS2.out.bel.drew).trans q3).setCell (by simp; omega) _), ?_⟩⟩
                have kb : (w3.setCell ⟨wo.heap.size, 2, none⟩ (.slice a2 r2.length cap2)).heap[ga]? = wx.heap[ga]? := (Below.heap_setCell w3 ⟨wo.heap.size, 2, none⟩ _ ga (by simp; omega)).trans (q2.block _ lga hga)
                rw [cell_blk kb]
                exact X2.out)
              clear RS2 RR G2 hga hOO hSS HMB HM2 X2 x2
              go_upto_region 18 with fail
              refine wp_region_last 9 (fun w' => w'.heap[wo.heap.size]? = wx.heap[wo.heap.size]? ∧ w'.heap[ga]? = wx.heap[ga]?) (by kernel_rfl) (⟨rfl, rfl⟩) (fun hHeld hClosed => ?_)
              refine wpAnyL_take (i := 0) (v := ?_) rfl (by kernel_rfl) (by kernel_rfl) (by kernel_rfl) (by kernel_rfl) (fun _ _ _ h => h) (by kernel_rfl) hClosed (Or.inl ⟨by rfl, ?_⟩) hHeld (fun hClosed => ?_)
              rotate_left
              · intro wv hSw; go_simp; all_goals (with_reducible rfl)
              (try simp only [List.getElem_toArray, List.getElem_cons_zero, put_at, List.set])
              refine wpAnyL_take (i := 1) (v := ?_) rfl (by kernel_rfl) (by kernel_rfl) (by kernel_rfl) (by kernel_rfl) (fun _ _ _ h => h) (by kernel_rfl) hClosed (Or.inl ⟨by rfl, ?_⟩) hHeld (fun hClosed => ?_)
              rotate_left
              · intro wv hSw; have e0 := cell_blk hSw.1 2; rw [y2] at e0; have e1 := cell_blk hSw.2 (i * 3 + 1); rw [x1] at e1; go_simp; all_goals (with_reducible rfl)
              (try simp only [List.getElem_toArray, List.getElem_cons_succ, List.getElem_cons_zero, put_at, List.set])
              refine wpAnyL_take (i := 2) (v := ?_) rfl (by kernel_rfl) (by kernel_rfl) (by kernel_rfl) (by kernel_rfl) (fun _ _ _ h => h) (by kernel_rfl) hClosed (Or.inl ⟨by rfl, ?_⟩) hHeld (fun hClosed => ?_)
              rotate_left
              · intro wv hSw; go_simp; all_goals (with_reducible rfl)
              (try simp only [List.getElem_toArray, List.getElem_cons_succ, List.getElem_cons_zero, put_at, List.set])
              refine wpAnyL_take (i := 3) (v := ?_) rfl (by kernel_rfl) (by kernel_rfl) (by kernel_rfl) (by kernel_rfl) (fun _ _ _ h => h) (by kernel_rfl) hClosed (Or.inl ⟨by rfl, ?_⟩) hHeld (fun hClosed => ?_)
              rotate_left
              · intro wv hSw; go_simp; all_goals (with_reducible rfl)
              (try simp only [List.getElem_toArray, List.getElem_cons_succ, List.getElem_cons_zero, put_at, List.set])
              refine wpAnyL_take (i := 4) (v := ?_) rfl (by kernel_rfl) (by kernel_rfl) (by kernel_rfl) (by kernel_rfl) (fun _ _ _ h => h) (by kernel_rfl) hClosed (Or.inl ⟨by rfl, ?_⟩) hHeld (fun hClosed => ?_)
              rotate_left
              · intro wv hSw; go_simp; all_goals (with_reducible rfl)
              (try simp only [List.getElem_toArray, List.getElem_cons_succ, List.getElem_cons_zero, put_at, List.set])
              refine wpAnyL_take (i := 5) (v := ?_) rfl (by kernel_rfl) (by kernel_rfl) (by kernel_rfl) (by kernel_rfl) (fun _ _ _ h => h) (by kernel_rfl) hClosed (Or.inl ⟨by rfl, ?_⟩) hHeld (fun hClosed => ?_)
              rotate_left
              · intro wv hSw; go_simp; all_goals (with_reducible rfl)
              (try simp only [List.getElem_toArray, List.getElem_cons_succ, List.getElem_cons_zero, put_at, List.set])
              refine wpAnyL_take (i := 6) (v := ?_) rfl (by kernel_rfl) (by kernel_rfl) (by kernel_rfl) (by kernel_rfl) (fun _ _ _ h => h) (by kernel_rfl) hClosed (Or.inl ⟨by rfl, ?_⟩) hHeld (fun hClosed => ?_)
              rotate_left
              · intro wv hSw; have e0 := cell_blk hSw.1 2; rw [y2] at e0; have e1 := cell_blk hSw.2 (i * 3 + 1); rw [x1] at e1; go_simp; all_goals (with_reducible rfl)
              (try simp only [List.getElem_toArray, List.getElem_cons_succ, List.getElem_cons_zero, put_at, List.set])
              refine wpAnyL_one (i := 7) rfl (by kernel_rfl) (by kernel_rfl) hClosed (fun KK hK => ?_)
              refine step_appN rowU rfl _ _ rfl w.heap.size a' rs.length cap' (ruC rs) rfl OA.out ra gp.ru.length rc (ruC gp.ru) rfl (ruC_len _) RA.out (ruC_one _) h63 (by decide) szA r2.length HNN.out (ruC r2) HZ.out ?_
              rintro a2 cap2 w3 q1 q2 q3
              refine hK.out _ _ ?_ (fun hClosed hHeld => ?_)
              · exact LF.out a2 cap2 w3 q1 q2 q3
              clear hK KK
              (first | simp only [List.getElem_toArray, List.getElem_cons_succ, List.getElem_cons_zero, put_at, List.set] | (try simp only [put_at, List.set]))
              obtain ⟨c3, f3, NX⟩ := LEAF.out a2 cap2 w3 q1 q2 q3
              have lO3 := Nat.lt_of_lt_of_le lOO q2.size
              clear LEAF LF q1 q2 q3
              refine wpAnyL_take (i := 8) (v := ?_) rfl (by kernel_rfl) (by kernel_rfl) (by kernel_rfl) (by kernel_rfl) (fun _ _ _ h => h) (by kernel_rfl) hClosed (Or.inl ⟨by rfl, ?_⟩) hHeld (fun hClosed => ?_)
              rotate_left
              · intro wv hSw; go_simp; all_goals (with_reducible rfl)
              (try simp only [List.getElem_toArray, List.getElem_cons_succ, List.getElem_cons_zero, put_at, List.set])
              refine wpAnyL_last rfl (by kernel_rfl) (by kernel_rfl) (fun KK hK => ?_)
              go_simp
              refine hK.out _ _ ?_
              (try simp only [put_at, List.set])
              obtain ⟨w4, hw4⟩ : ∃ W, w3.setCell ⟨wo.heap.size, 2, none⟩ (.slice a2 r2.length cap2) = W := ⟨_, rfl⟩
              rw [hw4] at NX
              rw [hw4]
              clear hw4 c3 f3 lO3 hHeld hClosed y2 x1
              obtain ⟨OW, NB, NR, NL, x2⟩ := NX.out
              have y3 := NB.out.cell 3
              have g3 := NB.out.free 3
              have lO4 := NB.out.lt
              have lR4 := NR.out.lt
              clear NX
              go_upto_region 19 with fail
              by_cases hd : d < gp.de
              · have hdd : decide (d < gp.de) = true := decide_eq_true hd
                go_quiet (fail)
                have y3' := y3
                have FN : Hid (∀ m, RpS w ((w4.drewN m).setCell ⟨wo.heap.size, 3, none⟩ (.int .i64 gp.de)) wo.heap.size gs p (i + 1) a2 cap2 r2 gp.de) := Lib.hid (fun m =>
                  ⟨(OW.out.later (ln_drewN (Below.refl _ _) m)).other (fun g hg e => own_not_box OW.out NB.out (by decide) (by rw [hg]; exact congrArg some e.symm)) _, (NB.out.later (ln_drewN (Below.refl _ _) m)).set 3 _, (NR.out.later (ln_drewN (Below.refl _ _) m)).other (by simp; omega) _, (ln_drewN NL.out m).setCell (by simp; omega) _, RF.out, by rw [← RD.out, Int.max_eq_right (by omega)]⟩)
                have FNN := Lib.hid (FN.out nq)
                clear FN OW NB NR NL RF RD y3'
                go_wp2
                go_roundw
                case rel => exact ⟨i + 1, a2, cap2, r2, gp.de, true, by omega, rfl, by simp, by simpa using lO4, RL, Lib.hid SB.out, FNN⟩
                case measure =>
                  simp only [intOf]
                  omega
              · have hdd : decide (d < gp.de) = false := decide_eq_false hd
                go_quiet (fail)
                have FNN : Hid (RpS w (w4.drewN nq) wo.heap.size gs p (i + 1) a2 cap2 r2 d) := Lib.hid
                  ⟨OW.out.later (ln_drewN (Below.refl _ _) nq), NB.out.later (ln_drewN (Below.refl _ _) nq), NR.out.later (ln_drewN (Below.refl _ _) nq), ln_drewN NL.out nq, RF.out, by rw [← RD.out, Int.max_eq_left (by omega)]⟩
                clear OW NB NR NL RF RD
                go_wp2
                go_roundw
                case rel => exact ⟨i + 1, a2, cap2, r2, d, true, by omega, rfl, by simp, by simpa using lO4, RL, Lib.hid SB.out, FNN⟩
                case measure =>
                  simp only [intOf]
                  omega
      · have hkd : decide ((i : Int) < (n : Int)) = false := decide_eq_false (by omega)
        obtain rfl : i = n := by omega
        have TA : gs.take i = gs := List.take_of_length_le (by rw [HN.out]; exact Nat.le_refl _)
        have HE1 : Hid (rs = (pickF p gs).flatMap (·.ru)) := Lib.hid (by have := RS.out.rs; rw [TA] at this; exact this)
        have HE2 : Hid (d = (pickF p gs).foldl (fun d g => max d g.de) 0) := Lib.hid (by have := RS.out.de; rw [TA] at this; exact this)
        have HE3 : Hid (sb = !(pickF p gs).isEmpty) := Lib.hid (by have := SB0.out; rw [TA] at this; exact this)
        clear TA SB0
        have FINAL : Hid (sb = true ∨ r = 1 → ro = ⟨false, false, rs.take 64, d⟩) := Lib.hid (fun h => by
          rw [PL.out]
          have hm : mergeL (pickF p gs) = ⟨false, false, rs.take 64, d⟩ := by rw [HE1.out, HE2.out]; rfl
          by_cases hr1 : r = 1
          · have h0 := HM.out hr1
            have hp : p = starB := by rw [← HP.out]; unfold rndP; rw [if_neg (by omega)]
            rw [if_pos h0, ← hp]
            exact hm
          · have hs : sb = true := by rcases h with h | h; exact h; exact absurd h hr1
            have hp : p = mineB tk := by rw [← HP.out]; unfold rndP; rw [if_pos (by omega)]
            rw [if_neg, ← hp]
            · exact hm
            · intro h0
              have := HE3.out
              rw [hp, h0, hs] at this
              cases this)
        have NEXT : Hid (sb = false → ¬ r = 1 → pickF (mineB tk) gs = []) := Lib.hid (fun hs hr1 => by
          have hp : p = mineB tk := by rw [← HP.out]; unfold rndP; rw [if_pos (by omega)]
          have := HE3.out
          rw [hp, hs] at this
          cases h : pickF (mineB tk) gs with
          | nil => rfl
          | cons x t => rw [h] at this; cases this)
        clear HE1 HE2 HE3 HA HN FS NE EQ ST TN HM HP PL
        have b0 := RS.out.box.cell 0
        have b1 := RS.out.box.cell 1
        have b2 := RS.out.box.cell 2
        have b3 := RS.out.box.cell 3
        have f2 := RS.out.box.free 2
        have lO := RS.out.box.lt
        have lS := RS.out.res.lt
        have s0 := RS.out.res.cell 0
        have s1 := RS.out.res.cell 1
        have s2 := RS.out.res.cell 2
        have s3 := RS.out.res.cell 3
        have t0 := RS.out.res.free 0
        have t1 := RS.out.res.free 1
        have t2 := RS.out.res.free 2
        have t3 := RS.out.res.free 3
        have OW := RS.out.own
        have hcl := OW.cap_le
        have hcm := OW.max
        have K5 : Hid (∀ g, a' = some ⟨g, 0, none⟩ → w.heap.size < g) := Lib.hid (fun g hg => by
          have h1 : g ≠ w.heap.size := fun e => own_not_box OW RS.out.res (by decide) (by rw [hg]; exact congrArg some e.symm)
          have h2 : w.heap.size ≤ g := by subst hg; exact OW.lt.1
          omega)
        have hne : ¬ wo.heap.size = w.heap.size := by omega
        by_cases h64 : 64 < rs.length
        · have hd64 : decide ((64 : Int) < (rs.length : Int)) = true := decide_eq_true (by omega)
          have hno : a' = none → cap' = 0 := fun e => by
            rcases OW.form with ⟨_, _, h⟩ | ⟨g, h, _⟩
            · exact h
            · rw [e] at h; cases h
          have hsl := fun W => sliceTo_run (P := Tryz.prog) rowU a' rs.length cap' 64 (by omega) W hno
          have LEN : Hid ((rs.take 64).length = 64) := Lib.hid (by rw [List.length_take]; omega)
          obtain ⟨w5, hw5⟩ : ∃ W, wr.setCell ⟨wo.heap.size, 2, none⟩ (.slice a' 64 cap') = W := ⟨_, rfl⟩
          have R5 : Hid (Box w5 w.heap.size #[.bool false, .bool false, .slice none 0 0, .int .i64 0] 26) := Lib.hid (by rw [← hw5]; exact RS.out.res.other (by simp; omega) _)
          have O5 : Hid (Box w5 wo.heap.size #[.bool false, .bool false, .slice a' 64 cap', .int .i64 d] 26) := Lib.hid (by rw [← hw5]; exact RS.out.box.set 2 _)
          have B5 : Hid (Below w.heap.size w w5) := Lib.hid (by rw [← hw5]; exact RS.out.bel.setCell (by simp; omega) _)
          have H5 : Hid (RdC w5 a' (ruC (rs.take 64))) := Lib.hid (by
            rw [ruC_take, ← hw5]
            exact ((OW.rdc).other (fun g hg e => own_not_box OW RS.out.box (by decide) (by rw [hg]; exact congrArg some e.symm)) _).take _)
          clear RS OW b0 b1 b3 s0 s1 s2 s3 t0 t1 t2 t3
          go_upto_region 23 with fail
          clear hw5 b2 f2 hsl
          cases sb with
          | true =>
            have hF := FINAL.out (Or.inl rfl)
            have LENN := LEN.out
            obtain ⟨s0, s1, s2, s3, t0, t1, t2, t3, lS, FIN⟩ := rb_fin2 ⟨false, false, rs.take 64, d⟩ w w5 R5.out B5.out a' cap' H5.out (by dsimp only; rw [LEN.out]; omega) hcm K5.out
            have HFIN : Hid (∀ (u0 u1 u2 u3 : Value) (p0 p1 p2 p3 : Addr), p0.block = w.heap.size → p1.block = w.heap.size → p2.block = w.heap.size → p3.block = w.heap.size → RoP w ro (.returned (.agg #[.bool false, .bool false, .slice a' 64 cap', .int .i64 d])) ((((w5.setCell p0 u0).setCell p1 u1).setCell p2 u2).setCell p3 u3)) := Lib.hid (by have := FIN.out; dsimp only at this; rw [LENN] at this; rw [hF]; exact this)
            have o0 := O5.out.cell 0
            have o1 := O5.out.cell 1
            have o2 := O5.out.cell 2
            have o3 := O5.out.cell 3
            have lO5 := O5.out.lt
            clear FIN LENN hF FINAL NEXT R5 O5 B5 H5 LEN
            go_wp2_with fail
            exact bodyPost_ret (v := .agg #[.bool false, .bool false, .slice a' 64 cap', .int .i64 d]) (by simp [results, Tryz.results18, go_sem, s0, s1, s2, s3]) rfl (HFIN.out _ _ _ _ _ _ _ _ rfl rfl rfl rfl)
          | false =>
            by_cases hr1 : r = 1
            · have hr2 : ((r : Int) == 1) = true := beq_iff_eq.2 (by omega)
              have hF := FINAL.out (Or.inr hr1)
              have LENN := LEN.out
              obtain ⟨s0, s1, s2, s3, t0, t1, t2, t3, lS, FIN⟩ := rb_fin2 ⟨false, false, rs.take 64, d⟩ w w5 R5.out B5.out a' cap' H5.out (by dsimp only; rw [LEN.out]; omega) hcm K5.out
              have HFIN : Hid (∀ (u0 u1 u2 u3 : Value) (p0 p1 p2 p3 : Addr), p0.block = w.heap.size → p1.block = w.heap.size → p2.block = w.heap.size → p3.block = w.heap.size → RoP w ro (.returned (.agg #[.bool false, .bool false, .slice a' 64 cap', .int .i64 d])) ((((w5.setCell p0 u0).setCell p1 u1).setCell p2 u2).setCell p3 u3)) := Lib.hid (by have := FIN.out; dsimp only at this; rw [LENN] at this; rw [hF]; exact this)
              have o0 := O5.out.cell 0
              have o1 := O5.out.cell 1
              have o2 := O5.out.cell 2
              have o3 := O5.out.cell 3
              have lO5 := O5.out.lt
              clear FIN LENN hF FINAL NEXT R5 O5 B5 H5 LEN
              go_wp2_with fail
              exact bodyPost_ret (v := .agg #[.bool false, .bool false, .slice a' 64 cap', .int .i64 d]) (by simp [results, Tryz.results18, go_sem, s0, s1, s2, s3]) rfl (HFIN.out _ _ _ _ _ _ _ _ rfl rfl rfl rfl)
            · have hr2 : ((r : Int) == 1) = false := beq_eq_false_iff_ne.2 (by omega)
              have NX := Lib.hid (NEXT.out rfl hr1)
              have HR0 : Hid (r = 0) := Lib.hid (by omega)
              have szr := O5.out.lt
              have lO5 := O5.out.lt
              clear hr1 FINAL NEXT O5 H5 LEN
              go_wp2
              go_roundw
              case rel => exact ⟨r + 1, by have := HR0.out; omega, by simp, by omega, Lib.hid ⟨R5.out, B5.out, fun _ => NX.out⟩⟩
              case measure =>
                have := HR0.out
                simp only [intOf]
                omega
        · have hd64 : decide ((64 : Int) < (rs.length : Int)) = false := decide_eq_false (by omega)
          obtain ⟨k, hk⟩ : ∃ k, rs.length = k := ⟨_, rfl⟩
          have TK : rs.take 64 = rs := List.take_of_length_le (by omega)
          have LEN : Hid ((rs.take 64).length = k) := Lib.hid (by rw [TK, hk])
          have R5 := Lib.hid RS.out.res
          have O5 := Lib.hid RS.out.box
          have B5 := Lib.hid RS.out.bel
          have H5 : Hid (RdC wr a' (ruC (rs.take 64))) := Lib.hid (by rw [TK]; exact OW.rdc)
          obtain ⟨w5, rfl⟩ : ∃ W, W = wr := ⟨_, rfl⟩
          clear RS OW TK
          rw [hk] at hd64 b2 hcl O5
          clear hk h64
          go_upto_region 23 with fail
          clear b0 b1 b2 b3 s0 s1 s2 s3 t0 t1 t2 t3 f2
          cases sb with
          | true =>
            have hF := FINAL.out (Or.inl rfl)
            have LENN := LEN.out
            obtain ⟨s0, s1, s2, s3, t0, t1, t2, t3, lS, FIN⟩ := rb_fin2 ⟨false, false, rs.take 64, d⟩ w w5 R5.out B5.out a' cap' H5.out (by dsimp only; rw [LEN.out]; omega) hcm K5.out
            have HFIN : Hid (∀ (u0 u1 u2 u3 : Value) (p0 p1 p2 p3 : Addr), p0.block = w.heap.size → p1.block = w.heap.size → p2.block = w.heap.size → p3.block = w.heap.size → RoP w ro (.returned (.agg #[.bool false, .bool false, .slice a' k cap', .int .i64 d])) ((((w5.setCell p0 u0).setCell p1 u1).setCell p2 u2).setCell p3 u3)) := Lib.hid (by have := FIN.out; dsimp only at this; rw [LENN] at this; rw [hF]; exact this)
            have o0 := O5.out.cell 0
            have o1 := O5.out.cell 1
            have o2 := O5.out.cell 2
            have o3 := O5.out.cell 3
            have lO5 := O5.out.lt
            clear FIN LENN hF FINAL NEXT R5 O5 B5 H5 LEN
            go_wp2_with fail
            exact bodyPost_ret (v := .agg #[.bool false, .bool false, .slice a' k cap', .int .i64 d]) (by simp [results, Tryz.results18, go_sem, s0, s1, s2, s3]) rfl (HFIN.out _ _ _ _ _ _ _ _ rfl rfl rfl rfl)
          | false =>
            by_cases hr1 : r = 1
            · have hr2 : ((r : Int) == 1) = true := beq_iff_eq.2 (by omega)
              have hF := FINAL.out (Or.inr hr1)
              have LENN := LEN.out
              obtain ⟨s0, s1, s2, s3, t0, t1, t2, t3, lS, FIN⟩ := rb_fin2 ⟨false, false, rs.take 64, d⟩ w w5 R5.out B5.out a' cap' H5.out (by dsimp only; rw [LEN.out]; omega) hcm K5.out
              have HFIN : Hid (∀ (u0 u1 u2 u3 : Value) (p0 p1 p2 p3 : Addr), p0.block = w.heap.size → p1.block = w.heap.size → p2.block = w.heap.size → p3.block = w.heap.size → RoP w ro (.returned (.agg #[.bool false, .bool false, .slice a' k cap', .int .i64 d])) ((((w5.setCell p0 u0).setCell p1 u1).setCell p2 u2).setCell p3 u3)) := Lib.hid (by have := FIN.out; dsimp only at this; rw [LENN] at this; rw [hF]; exact this)
              have o0 := O5.out.cell 0
              have o1 := O5.out.cell 1
              have o2 := O5.out.cell 2
              have o3 := O5.out.cell 3
              have lO5 := O5.out.lt
              clear FIN LENN hF FINAL NEXT R5 O5 B5 H5 LEN
              go_wp2_with fail
              exact bodyPost_ret (v := .agg #[.bool false, .bool false, .slice a' k cap', .int .i64 d]) (by simp [results, Tryz.results18, go_sem, s0, s1, s2, s3]) rfl (HFIN.out _ _ _ _ _ _ _ _ rfl rfl rfl rfl)
            · have hr2 : ((r : Int) == 1) = false := beq_eq_false_iff_ne.2 (by omega)
              have NX := Lib.hid (NEXT.out rfl hr1)
              have HR0 : Hid (r = 0) := Lib.hid (by omega)
              have szr := O5.out.lt
              have lO5 := O5.out.lt
              clear hr1 FINAL NEXT O5 H5 LEN
              go_wp2
              go_roundw
              case rel => exact ⟨r + 1, by have := HR0.out; omega, by simp, by omega, Lib.hid ⟨R5.out, B5.out, fun _ => NX.out⟩⟩
              case measure =>
                have := HR0.out
                simp only [intOf]
                omega
end Go.Proofs.YtodlecjbpmggiaaGreatDoor
