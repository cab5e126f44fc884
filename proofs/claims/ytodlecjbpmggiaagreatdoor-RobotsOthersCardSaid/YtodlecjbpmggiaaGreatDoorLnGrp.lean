/- Package lines: Groups. -/
import Derived.Test.YtodlecjbpmggiaaGreatDoorLnApp
import Derived.StillTailTactics
namespace Go.Proofs.YtodlecjbpmggiaaGreatDoor
open Go Go.RowKit
set_option linter.unusedVariables false
set_option linter.unusedSimpArgs false
set_option maxRecDepth 10000

/-- Lines that can be read. -/
def RdLn (w : World) (a : Option Addr) (L : List (List Int × List Int)) : Prop := ∃ g off, (L ≠ [] → a = some ⟨g, off, none⟩) ∧ ∀ i x, L[i]? = some x → w.cell? ⟨g, off + i * 2, none⟩ = some (.string (strL x.1)) ∧ w.cell? ⟨g, off + i * 2 + 1, none⟩ = some (.string (strL x.2))
theorem RdLn.later {w w' : World} {a : Option Addr} {L : List (List Int × List Int)} (h : RdLn w a L) (hb : Below w.heap.size w w') : RdLn w' a L := by
  obtain ⟨g, off, h1, h2⟩ := h
  refine ⟨g, off, h1, fun i x hx => ?_⟩
  obtain ⟨k1, k2⟩ := h2 i x hx
  exact ⟨(hb.cell (World.block_lt_of_cell? _ _ k1)).trans k1, (hb.cell (World.block_lt_of_cell? _ _ k2)).trans k2⟩
theorem rdLn_own {w : World} {B : Nat} {E : TypeId} {a : Option Addr} {n cap : Nat} {L : List (List Int × List Int)} (h : Own w B E 2 a n cap (lnC L)) (hn : L.length = n) : RdLn w a L := by
  rcases h.form with ⟨rfl, h0, _⟩ | ⟨g, rfl, _⟩
  · have : L = [] := List.eq_nil_of_length_eq_zero (by omega)
    subst this
    exact ⟨0, 0, fun h => absurd rfl h, fun i x hx => by simp at hx⟩
  · refine ⟨g, 0, fun _ => rfl, fun i x hx => ?_⟩
    obtain ⟨k1, k2⟩ := lnC_get hx
    rw [Nat.mul_comm 2 i] at k1 k2
    rw [Nat.zero_add]
    exact ⟨h.cell k1, h.cell k2⟩
/-- One line more. -/
def grS (s : List Gp × Option Gp × Bool) (x : List Int × List Int) : List Gp × Option Gp × Bool :=
  if x.1 = kUA then
    (match s.2.1, s.2.2 with
     | some g, false => (s.1, some ⟨g.ag ++ [x.2.map lwI], g.ru, g.de⟩, false)
     | c, _ => (s.1 ++ c.toList, some ⟨[x.2.map lwI], [], 0⟩, false))
  else match s.2.1 with
    | none => s
    | some g => match appG g x.1 x.2 with
      | some g' => (s.1, some g', true)
      | none => s
def grF (L : List (List Int × List Int)) : List Gp × Option Gp × Bool := L.foldl grS ([], none, true)
def grL (L : List (List Int × List Int)) : List Gp := (grF L).1 ++ (grF L).2.1.toList
def stepG (d : List Gp) (g : Gp) (told : Bool) : Option Gp → List Gp × Option Gp × Bool
  | some g' => (d, some g', true)
  | none => (d, some g, told)
theorem grF_snoc (L : List (List Int × List Int)) (x : List Int × List Int) : grF (L ++ [x]) = grS (grF L) x := by
  unfold grF
  rw [List.foldl_append]
  rfl
theorem ua_some {s : List Gp × Option Gp × Bool} {v : List Int} {d : List Gp} {g : Gp} (h : s = (d, some g, false)) : grS s (kUA, v) = (d, some ⟨g.ag ++ [v.map lwI], g.ru, g.de⟩, false) := by
  subst h
  unfold grS
  rw [if_pos rfl]
theorem ua_new {s : List Gp × Option Gp × Bool} {v : List Int} {d : List Gp} {c : Option Gp} (h : s = (d, c, true)) : grS s (kUA, v) = (d ++ c.toList, some ⟨[v.map lwI], [], 0⟩, false) := by
  subst h
  unfold grS
  rw [if_pos rfl]
  cases c <;> rfl
/-- Groups in memory, as they stand ahead of a line. -/
def GrM (E : TypeId) (B : Nat) (w : World) (v : Value) (told : Bool) (s : List Gp × Option Gp × Bool) (n : Nat) : Prop :=
  (∃ a cap, v = .slice a 0 cap ∧ GsM E B w a cap [] ∧ s = ([], none, true) ∧ told = true) ∨
  (∃ O M cap done cur, v = .slice (some ⟨O, 0, none⟩) (done.length + 1) cap ∧ GM E B w O M cap done cur ∧ s = (done.map (·.1), some cur.1, told) ∧ done.length + 1 ≤ n ∧ cur.1.ag.length ≤ n)
structure GrS (E : TypeId) (w wr : World) (L : List (List Int × List Int)) (i : Nat) (v : Value) (told : Bool) : Prop where
  st : GrM E w.heap.size wr v told (grF (L.take i)) i
  bel : Below w.heap.size w wr
def GrP (E : TypeId) (L : List (List Int × List Int)) (w : World) (e : Ending) (w' : World) : Prop := ∃ a cap GA, e = .returned (.slice a GA.length cap) ∧ GsM E w.heap.size w' a cap GA ∧ GA.map (·.1) = grL L ∧ Below w.heap.size w w'
def LnOk (L : List (List Int × List Int)) : Prop := ∀ x ∈ L, Byts x.1 ∧ Byts x.2 ∧ x.1.length ≤ 1000000000000000 ∧ x.2.length ≤ 1000000000000000
theorem appG_ag {g g' : Gp} {k v : List Int} (h : appG g k v = some g') : g'.ag = g.ag := by
  unfold appG at h
  split at h
  · injection h with h
    rw [← h]
    split <;> rfl
  · split at h
    · injection h with h
      rw [← h]
      cases delL v <;> rfl
    · cases h
theorem GrM.later {E : TypeId} {B n : Nat} {w w' : World} {v : Value} {told : Bool} {s : List Gp × Option Gp × Bool} (h : GrM E B w v told s n) (hb : Below w.heap.size w w') : GrM E B w' v told s n := by
  rcases h with ⟨a, cap, h1, h2, h3, h4⟩ | ⟨O, M, cap, done, cur, h1, h2, h3⟩
  · exact Or.inl ⟨a, cap, h1, h2.later hb, h3, h4⟩
  · exact Or.inr ⟨O, M, cap, done, cur, h1, h2.later hb, h3⟩
theorem GrM.yes {E : TypeId} {B n : Nat} {w : World} {v : Value} {s : List Gp × Option Gp × Bool} (h : GrM E B w v true s n) : ∃ a cap LL d c, v = .slice a LL.length cap ∧ GsM E B w a cap LL ∧ s = (d, c, true) ∧ d ++ c.toList = LL.map (·.1) ∧ LL.length ≤ n := by
  rcases h with ⟨a, cap, h1, h2, h3, h4⟩ | ⟨O, M, cap, done, cur, h1, h2, h3, h4, h5⟩
  · exact ⟨a, cap, [], [], none, h1, h2, h3, rfl, by simp⟩
  · exact ⟨_, cap, done ++ [cur], _, _, by rw [h1, List.length_append]; rfl, h2.groups, h3, by rw [List.map_append]; rfl, by rw [List.length_append]; exact h4⟩
theorem GrM.no {E : TypeId} {B n : Nat} {w : World} {v : Value} {s : List Gp × Option Gp × Bool} (h : GrM E B w v false s n) : ∃ O M cap done cur, v = .slice (some ⟨O, 0, none⟩) (done.length + 1) cap ∧ GM E B w O M cap done cur ∧ s = (done.map (·.1), some cur.1, false) ∧ done.length + 1 ≤ n ∧ cur.1.ag.length ≤ n := by
  rcases h with ⟨a, cap, h1, h2, h3, h4⟩ | h
  · cases h4
  · exact h
theorem GrM.end_ {E : TypeId} {B n : Nat} {w : World} {v : Value} {told : Bool} {s : List Gp × Option Gp × Bool} (h : GrM E B w v told s n) : ∃ a cap LL, v = .slice a LL.length cap ∧ GsM E B w a cap LL ∧ LL.map (·.1) = s.1 ++ s.2.1.toList := by
  rcases h with ⟨a, cap, h1, h2, h3, h4⟩ | ⟨O, M, cap, done, cur, h1, h2, h3, h4, h5⟩
  · exact ⟨a, cap, [], h1, h2, by rw [h3]; rfl⟩
  · exact ⟨_, cap, done ++ [cur], by rw [h1, List.length_append]; rfl, h2.groups, by rw [h3, List.map_append]; rfl⟩
theorem own_type {w : World} {B size n cap g : Nat} {E : TypeId} {xs : List Value} (h : Own w B E size (some ⟨g, 0, none⟩) n cap xs) : ∃ cs f, w.heap[g]? = some (.cells cs E f) := by
  obtain ⟨_, h⟩ := h
  rcases h with ⟨e, _⟩ | ⟨g', c', cs, e, _, hh, _⟩
  · cases e
  · injection e with e
    injection e with e
    injection e with e
    subst e
    exact ⟨cs, _, hh⟩
theorem own_not_box {w : World} {B size n cap H : Nat} {E t : TypeId} {xs : List Value} {a : Option Addr} {cs : Array Value} (h : Own w B E size a n cap xs) (hb : Box w H cs t) (hne : t ≠ E) : some H ≠ a.map (·.block) := fun e => by
  have h1 := own_block h e.symm
  subst h1
  obtain ⟨c2, f, h2⟩ := own_type h
  unfold Box at hb
  rw [hb] at h2
  injection h2 with h2
  injection h2 with _ h2
  exact hne h2
theorem g_one : (#[Value.slice none 0 0, .slice none 0 0, .int .i64 0] : Array Value).all (·.oneCell') = true := by simp [Value.oneCell']
set_option maxHeartbeats 4000000 in
theorem groups_at (L : List (List Int × List Int)) (n : Nat) (hn : L.length = n) (hn2 : n ≤ 5000) (a : Option Addr) (cap : Nat) (hok : LnOk L) (w : World) (hr : RdLn w a L) :
    Calls Tryz.prog 16 #[.slice a n cap] w (GrP 58 L w) := by
  have HN := Lib.hid hn
  have HR := Lib.hid hr
  have OK := Lib.hid hok
  clear hr hok
  go_enter Tryz.func16, Tryz.ntmps16
  go_wp2_with fail
  go_loopw [3, 4, 6, 7, 10] (fun v t _ _ j wr => ∃ (i : Nat) (vs : Value) (told : Bool), i ≤ n ∧ v = vs ∧ t = .bool told ∧ j = .int .i64 (i : Int) ∧ w.heap.size ≤ wr.heap.size ∧ Hid (GrS 58 w wr L i vs told)) (fun _ _ _ _ j _ => n - (intOf j).toNat)
  case atStart => exact ⟨0, _, true, by omega, rfl, rfl, rfl, Nat.le_refl _, Lib.hid ⟨Or.inl ⟨none, 0, rfl, GsM.nil (Own.nil _ _ _ _), rfl, rfl⟩, Below.refl _ _⟩⟩
  case round =>
    obtain ⟨i, vs, told, hi, hvs, rfl, rfl, sz, HS⟩ := hrel
    by_cases hlt : i < n
    · have hkd : decide ((i : Int) < (n : Int)) = true := decide_eq_true (by omega)
      obtain ⟨x, hx⟩ : ∃ x, L[i]? = some x := ⟨L[i]'(by have := HN.out; omega), List.getElem?_eq_getElem _⟩
      obtain ⟨k, v⟩ := x
      obtain ⟨bg, off, ha, hc⟩ := HR.out.later HS.out.bel
      have ha := ha (by intro e; rw [e] at hx; simp at hx)
      obtain ⟨c0, c1⟩ := hc i _ hx
      obtain ⟨bk, bv, lk, lv⟩ := OK.out _ (List.mem_of_getElem? hx)
      obtain ⟨sk, hsk⟩ : ∃ t, strL k = t := ⟨_, rfl⟩
      obtain ⟨sv, hsv⟩ : ∃ t, strL v = t := ⟨_, rfl⟩
      dsimp only at c0 c1 bk bv lk lv
      rw [hsk] at c0
      rw [hsv] at c1
      have HKK : Hid (btL sk = k) := Lib.hid (by rw [← hsk, btL_strL bk])
      have HVV : Hid (btL sv = v) := Lib.hid (by rw [← hsv, btL_strL bv])
      have ZV : Hid (sv.size ≤ 1000000000000000) := Lib.hid (by rw [← hsv, strL_size]; exact lv)
      have HT : Hid (grF (L.take (i + 1)) = grS (grF (L.take i)) (k, v)) := Lib.hid (by rw [List.take_add_one, hx]; exact grF_snoc _ _)
      subst ha
      obtain ⟨H, hH⟩ : ∃ H, wr.heap.size = H := ⟨_, rfl⟩
      obtain ⟨b0, hb0⟩ : ∃ b, (sk.toList == [117, 115, 101, 114, 45, 97, 103, 101, 110, 116]) = b := ⟨_, rfl⟩
      have E0 : Hid (b0 = decide (k = kUA)) := Lib.hid (by rw [← hb0, Bool.eq_iff_iff, ln_lit, HKK.out, decide_eq_true_eq]; exact Iff.rfl)
      clear hc hx bk bv lk lv hsk hsv
      go_upto_region 6 with fail
      refine code_forget (fun wx => Hid (Box wx H #[.string sk, .string sv] 35) ∧ Hid (GrM 58 w.heap.size wx vs told (grF (L.take i)) i) ∧ Hid (Below w.heap.size w wx) ∧ w.heap.size ≤ wx.heap.size) ⟨Lib.hid (ln_box hH.symm), Lib.hid (HS.out.st.later ((Below.refl _ _).alloc (Nat.le_refl _) _)), Lib.hid (HS.out.bel.alloc sz _), by simp; omega⟩ ?_
      clear HS c0 c1 hH sz
      rintro w1 ⟨X1, HS1, B1, sz1⟩
      have gl := X1.out.lt
      have z0 := X1.out.cell 0
      have z1 := X1.out.cell 1
      simp only [List.getElem?_toArray, List.getElem?_cons_zero, List.getElem?_cons_succ] at z0 z1
      cases b0 with
      | true =>
        have hk : k = kUA := of_decide_eq_true E0.out.symm
        subst hk
        clear E0
        go_upto_if 17 with fail
        go_cut [3] from 11 to 51 (fun v' wx => ∃ (O M c2 : Nat) (done : List (Gp × GpA)) (cur : Gp × GpA), v' = .slice (some ⟨O, 0, none⟩) (done.length + 1) c2 ∧ w.heap.size ≤ wx.heap.size ∧ Hid (GM 58 w.heap.size wx O M c2 done cur) ∧ Hid (Box wx H #[.string sk, .string sv] 35) ∧ Hid (Below w.heap.size w wx) ∧ Hid (grS (grF (L.take i)) (kUA, v) = (done.map (·.1), some ⟨cur.1.ag ++ [v.map lwI], cur.1.ru, cur.1.de⟩, false)) ∧ done.length ≤ i ∧ cur.1.ag.length ≤ i)
        case first =>
          cases told with
          | true =>
            obtain ⟨a', cap', LL, d, c, hv', HG, hs, hd, hle⟩ := HS1.out.yes
            rw [hv'] at hvs
            subst hvs
            have HG := Lib.hid HG
            have OG := Lib.hid HG.out.own
            have HZ : Hid (gsC LL ++ (#[Value.slice none 0 0, .slice none 0 0, .int .i64 0] : Array Value).toList = gsC (LL ++ [gp0])) := Lib.hid (by rw [gsC_app]; rfl)
            have HSP : Hid (grS (grF (L.take i)) (kUA, v) = (LL.map (·.1), some ⟨gp0.1.ag ++ [v.map lwI], gp0.1.ru, gp0.1.de⟩, false)) := Lib.hid (by rw [ua_new hs, hd]; rfl)
            have post : Hid (∀ (g cap2 : Nat) (w3 : World), Own w3 w.heap.size 58 3 (some ⟨g, 0, none⟩) (LL.length + 1) cap2 (gsC (LL ++ [gp0])) → w1.grownBy w3 (a'.map (·.block)) → Below w.heap.size w1 w3 → (a'.map (·.block) = some g ∨ g = w1.heap.size + 1) → w.heap.size ≤ w3.heap.size ∧ Hid (GM 58 w.heap.size w3 g w3.heap.size cap2 LL gp0) ∧ Hid (Box w3 H #[.string sk, .string sv] 35) ∧ Hid (Below w.heap.size w w3)) := Lib.hid (fun g cap2 w3 q1 q2 q3 q4 => by
              have hH2 : some H ≠ a'.map (·.block) := own_not_box HG.out.own X1.out (by decide)
              refine ⟨Nat.le_trans sz1 q3.size, Lib.hid (HG.out.new q1 q2 (by rcases q4 with q4 | q4; exact Or.inl q4; exact Or.inr (by omega))), Lib.hid ((q2.block H gl hH2).trans X1.out), Lib.hid (B1.out.trans q3)⟩)
            clear hv' hs hd HS1 X1 B1
            go_wp2_with (at_builtin; refine wpList_app1 rowG rfl _ _ rfl w.heap.size a' LL.length cap' (gsC LL) rfl OG.out #[.slice none 0 0, .slice none 0 0, .int .i64 0] rfl rfl g_one (by omega) (by decide) sz1 (LL.length + 1) rfl (gsC (LL ++ [gp0])) HZ.out ?_; rintro g cap2 w3 q1 q2 q3 q4)
            obtain ⟨p1, p2, p3, p4⟩ := post.out g cap2 w3 q1 q2 q3 q4
            clear q1 q2 q3 q4 post
            go_wp2
            go_meet
            exact ⟨g, w3.heap.size, cap2, LL, gp0, rfl, p1, p2, p3, p4, HSP, hle, by simp [gp0]⟩
          | false =>
            obtain ⟨O, M, cap', done, cur, hv', HG, hs, hl1, hl2⟩ := HS1.out.no
            rw [hv'] at hvs
            subst hvs
            have HG := Lib.hid HG
            have HSP : Hid (grS (grF (L.take i)) (kUA, v) = (done.map (·.1), some ⟨cur.1.ag ++ [v.map lwI], cur.1.ru, cur.1.de⟩, false)) := Lib.hid (ua_some hs)
            clear hv' hs HS1
            go_wp2
            go_meet
            exact ⟨O, M, cap', done, cur, rfl, sz1, HG, X1, B1, HSP, by omega, hl2⟩
        case rest =>
          clear hvs HS1 X1 B1 sz1 gl z0 z1
          obtain ⟨O, M, c2, done, cur, rfl, szc, GC, XC, BC, HSP, hl1, hl2⟩ := hcut
          obtain ⟨w1, hw1⟩ : ∃ W, wc = W := ⟨_, rfl⟩
          rw [hw1] at szc GC XC BC ⊢
          clear hw1
          have gl := XC.out.lt
          have z0 := XC.out.cell 0
          have z1 := XC.out.cell 1
          simp only [List.getElem?_toArray, List.getElem?_cons_zero, List.getElem?_cons_succ] at z0 z1
          obtain ⟨D, hD⟩ : ∃ D, done.length * 3 = D := ⟨_, rfl⟩
          have g0 : w1.cell? ⟨O, D, none⟩ = some (.slice cur.2.aa cur.1.ag.length cur.2.ac) := by rw [← hD]; exact GC.out.cell 0 (by omega)
          have fr0 : w1.frozen? ⟨O, D, none⟩ = false := GC.out.own.free _
          have gl2 : O < w1.heap.size := Nat.lt_of_lt_of_le GC.out.oM GC.out.Mw
          obtain ⟨lw, hlw⟩ : ∃ t, strL (v.map lwI) = t := ⟨_, rfl⟩
          have LW := Lib.hid (fun W : World => lower_at sv lw (by unfold lowB; rw [HVV.out]; exact hlw) ZV.out W)
          have HZ : Hid (agC cur.1.ag ++ (#[Value.string lw] : Array Value).toList = agC (cur.1.ag ++ [v.map lwI])) := Lib.hid (by rw [agC_app, ← hlw]; rfl)
          have HBW : Hid (w.heap.size ≤ w1.heap.size) := Lib.hid szc
          have NO : Hid (some O ≠ cur.2.aa.map (·.block)) := Lib.hid (fun e => by
            have := GC.out.ca O (own_block GC.out.rows.a e.symm)
            have := GC.out.oM
            omega)
          have NH : Hid (some H ≠ cur.2.aa.map (·.block)) := Lib.hid (own_not_box GC.out.rows.a XC.out (by decide))
          have QF : Hid (∀ wq, Below w1.drew.heap.size w1.drew wq → GM 58 w.heap.size wq O M c2 done cur ∧ w1.heap.size ≤ wq.heap.size ∧ Hid (Below w.heap.size w wq)) := Lib.hid (fun wq hb => ⟨(GC.out.later ((Below.refl _ _).drew)).later hb, hb.size, Lib.hid ((BC.out.trans ((Below.refl _ _).drew)).trans (hb.mono HBW.out))⟩)
          have LEAF : Hid (∀ (wq : World) (g cap' : Nat) (w3 : World), GM 58 w.heap.size wq O M c2 done cur → Hid (Below w.heap.size w wq) → Own w3 w.heap.size 9 1 (some ⟨g, 0, none⟩) (cur.1.ag.length + 1) cap' (agC (cur.1.ag ++ [v.map lwI])) → wq.grownBy w3 (cur.2.aa.map (·.block)) → Below w.heap.size wq w3 → (cur.2.aa.map (·.block) = some g ∨ g = wq.heap.size + 1) → Hid (GrS 58 w (w3.setCell ⟨O, D, none⟩ (.slice (some ⟨g, 0, none⟩) (cur.1.ag.length + 1) cap')) L (i + 1) (.slice (some ⟨O, 0, none⟩) (done.length + 1) c2) false) ∧ w.heap.size ≤ (w3.setCell ⟨O, D, none⟩ (.slice (some ⟨g, 0, none⟩) (cur.1.ag.length + 1) cap')).heap.size) := Lib.hid (fun wq g cap' w3 q1 q2 q3 q4 q5 q6 => by
            have q7 := q1.agent (z := v.map lwI) q3 q4 (by rcases q6 with q6 | q6; exact Or.inl q6; exact Or.inr (by omega))
            rw [Nat.add_zero, hD] at q7
            have q8 : Below w.heap.size w (w3.setCell ⟨O, D, none⟩ (.slice (some ⟨g, 0, none⟩) (cur.1.ag.length + 1) cap')) := (q2.out.trans q5).setCell (p := ⟨O, D, none⟩) q1.BO _
            refine ⟨Lib.hid ⟨Or.inr ⟨O, M, c2, done, _, rfl, q7, ?_, by omega, ?_⟩, q8⟩, q8.size⟩
            · rw [HT.out, HSP.out]
            · show (cur.1.ag ++ [v.map lwI]).length ≤ i + 1
              rw [List.length_append]
              simp
              omega)
          clear HT HSP GC XC BC hlw
          go_upto_region 11 with fail
          refine wp_region_last 12 (fun w' => w'.heap[O]? = w1.heap[O]? ∧ w'.heap[H]? = w1.heap[H]?) (by kernel_rfl) (⟨rfl, rfl⟩) (fun hHeld hClosed => ?_)
          refine wpAnyL_take (i := 0) (v := ?_) rfl (by kernel_rfl) (by kernel_rfl) (by kernel_rfl) (by kernel_rfl) (fun _ _ _ h => h) (by kernel_rfl) hClosed (Or.inl ⟨by rfl, ?_⟩) hHeld (fun hClosed => ?_)
          rotate_left
          · intro wv hSw; go_simp; all_goals (with_reducible rfl)
          (try simp only [List.getElem_toArray, List.getElem_cons_zero, put_at, List.set])
          refine wpAnyL_take (i := 1) (v := ?_) rfl (by kernel_rfl) (by kernel_rfl) (by kernel_rfl) (by kernel_rfl) (fun _ _ _ h => h) (by kernel_rfl) hClosed (Or.inl ⟨by rfl, ?_⟩) hHeld (fun hClosed => ?_)
          rotate_left
          · intro wv hSw; go_simp; all_goals (with_reducible rfl)
          (try simp only [List.getElem_toArray, List.getElem_cons_succ, List.getElem_cons_zero, put_at, List.set])
          refine wpAnyL_take (i := 2) (v := ?_) rfl (by kernel_rfl) (by kernel_rfl) (by kernel_rfl) (by kernel_rfl) (fun _ _ _ h => h) (by kernel_rfl) hClosed (Or.inl ⟨by rfl, ?_⟩) hHeld (fun hClosed => ?_)
          rotate_left
          · intro wv hSw; go_simp; all_goals (with_reducible rfl)
          (try simp only [List.getElem_toArray, List.getElem_cons_succ, List.getElem_cons_zero, put_at, List.set])
          refine wpAnyL_take (i := 3) (v := ?_) rfl (by kernel_rfl) (by kernel_rfl) (by kernel_rfl) (by kernel_rfl) (fun _ _ _ h => h) (by kernel_rfl) hClosed (Or.inl ⟨by rfl, ?_⟩) hHeld (fun hClosed => ?_)
          rotate_left
          · intro wv hSw; go_simp; all_goals (with_reducible rfl)
          (try simp only [List.getElem_toArray, List.getElem_cons_succ, List.getElem_cons_zero, put_at, List.set])
          refine wpAnyL_take (i := 4) (v := ?_) rfl (by kernel_rfl) (by kernel_rfl) (by kernel_rfl) (by kernel_rfl) (fun _ _ _ h => h) (by kernel_rfl) hClosed (Or.inl ⟨by rfl, ?_⟩) hHeld (fun hClosed => ?_)
          rotate_left
          · intro wv hSw; have e0 := cell_blk hSw.1 D; have e1 := cell_blk hSw.2 0; have e2 := cell_blk hSw.2 1; rw [g0] at e0; rw [z0] at e1; rw [z1] at e2; go_simp; all_goals (with_reducible rfl)
          (try simp only [List.getElem_toArray, List.getElem_cons_succ, List.getElem_cons_zero, put_at, List.set])
          refine wpAnyL_take (i := 5) (v := ?_) rfl (by kernel_rfl) (by kernel_rfl) (by kernel_rfl) (by kernel_rfl) (fun _ _ _ h => h) (by kernel_rfl) hClosed (Or.inl ⟨by rfl, ?_⟩) hHeld (fun hClosed => ?_)
          rotate_left
          · intro wv hSw; go_simp; all_goals (with_reducible rfl)
          (try simp only [List.getElem_toArray, List.getElem_cons_succ, List.getElem_cons_zero, put_at, List.set])
          refine wpAnyL_take (i := 6) (v := ?_) rfl (by kernel_rfl) (by kernel_rfl) (by kernel_rfl) (by kernel_rfl) (fun _ _ _ h => h) (by kernel_rfl) hClosed (Or.inl ⟨by rfl, ?_⟩) hHeld (fun hClosed => ?_)
          rotate_left
          · intro wv hSw; have e0 := cell_blk hSw.1 D; have e1 := cell_blk hSw.2 0; have e2 := cell_blk hSw.2 1; rw [g0] at e0; rw [z0] at e1; rw [z1] at e2; go_simp; all_goals (with_reducible rfl)
          (try simp only [List.getElem_toArray, List.getElem_cons_succ, List.getElem_cons_zero, put_at, List.set])
          refine wpAnyL_one (i := 7) rfl (by kernel_rfl) (by kernel_rfl) hClosed (fun KK hK => ?_)
          go_simp
          refine (LW.out _).mono ?_
          rintro e wq ⟨rfl, hbq⟩
          go_wp2_with fail
          refine hK.out _ _ ?_ (fun hClosed hHeld => ?_)
          · exact ⟨(hbq.block O gl2).trans hHeld.1, (hbq.block H gl).trans hHeld.2⟩
          clear hK KK
          (first | simp only [List.getElem_toArray, List.getElem_cons_succ, List.getElem_cons_zero, put_at, List.set] | (try simp only [put_at, List.set]))
          obtain ⟨GQ, szQ, BQ⟩ := QF.out _ hbq
          have HQ := Lib.hid hHeld
          clear hbq
          refine wpAnyL_one (i := 8) rfl (by kernel_rfl) (by kernel_rfl) hClosed (fun KK hK => ?_)
          go_simp
          refine hK.out _ _ ?_ (fun hClosed hHeld => ?_)
          · exact ⟨(Below.heap_alloc wq _ O (Nat.lt_of_lt_of_le gl2 szQ)).trans hHeld.1, (Below.heap_alloc wq _ H (Nat.lt_of_lt_of_le gl szQ)).trans hHeld.2⟩
          clear hK KK
          (first | simp only [List.getElem_toArray, List.getElem_cons_succ, List.getElem_cons_zero, put_at, List.set] | (try simp only [put_at, List.set]))
          refine wpAnyL_one (i := 9) rfl (by kernel_rfl) (by kernel_rfl) hClosed (fun KK hK => ?_)
          refine step_app1 rowT rfl _ _ rfl w.heap.size cur.2.aa cur.1.ag.length cur.2.ac (agC cur.1.ag) rfl GQ.rows.a #[.string lw] rfl rfl (s_one _) (by omega) (by decide) (Nat.le_trans HBW.out szQ) (cur.1.ag.length + 1) rfl (agC (cur.1.ag ++ [v.map lwI])) HZ.out ?_
          rintro g cap' w3 ow3 gr3 bl3 lc3
          refine hK.out _ _ ?_ (fun hClosed hHeld => ?_)
          · exact ⟨(gr3.block O (Nat.lt_of_lt_of_le gl2 szQ) NO.out).trans HQ.out.1, (gr3.block H (Nat.lt_of_lt_of_le gl szQ) NH.out).trans HQ.out.2⟩
          clear hK KK
          (first | simp only [List.getElem_toArray, List.getElem_cons_succ, List.getElem_cons_zero, put_at, List.set] | (try simp only [put_at, List.set]))
          refine wpAnyL_take (i := 10) (v := ?_) rfl (by kernel_rfl) (by kernel_rfl) (by kernel_rfl) (by kernel_rfl) (fun _ _ _ h => h) (by kernel_rfl) hClosed (Or.inl ⟨by rfl, ?_⟩) hHeld (fun hClosed => ?_)
          rotate_left
          · intro wv hSw; go_simp; all_goals (with_reducible rfl)
          (try simp only [List.getElem_toArray, List.getElem_cons_succ, List.getElem_cons_zero, put_at, List.set])
          refine wpAnyL_take (i := 11) (v := ?_) rfl (by kernel_rfl) (by kernel_rfl) (by kernel_rfl) (by kernel_rfl) (fun _ _ _ h => h) (by kernel_rfl) hClosed (Or.inl ⟨by rfl, ?_⟩) hHeld (fun hClosed => ?_)
          rotate_left
          · intro wv hSw; go_simp; all_goals (with_reducible rfl)
          (try simp only [List.getElem_toArray, List.getElem_cons_succ, List.getElem_cons_zero, put_at, List.set])
          refine wpAnyL_last rfl (by kernel_rfl) (by kernel_rfl) (fun KK hK => ?_)
          have c3 := (cell_blk hHeld.1 D).trans g0
          have f3 := (frz_blk hHeld.1 D).trans fr0
          go_simp
          refine hK.out _ _ ?_
          (try simp only [put_at, List.set])
          obtain ⟨Q1, q2⟩ := LEAF.out wq g cap' w3 GQ BQ ow3 gr3 bl3 lc3
          clear ow3 gr3 bl3 lc3 GQ BQ szQ HQ LEAF QF
          go_wp2_with fail
          go_roundw
          case rel => exact ⟨i + 1, _, false, by omega, rfl, rfl, by go_num, q2, Q1⟩
          case measure => simp [intOf]; omega
      | false =>
        have hk : ¬ k = kUA := of_decide_eq_false E0.out.symm
        clear E0
        rcases HS1.out with ⟨a', cap', hv', HG, hs, ht⟩ | ⟨O, M, c2, done, cur, hv', HG, hs, hl1, hl2⟩
        · rw [hv'] at hvs
          subst hvs
          subst ht
          have HG := Lib.hid HG
          have NX : Hid (∀ q, GrS 58 w (w1.drewN q) L (i + 1) (.slice a' 0 cap') true) := Lib.hid (fun q => ⟨Or.inl ⟨a', cap', rfl, HG.out.later (ln_drewN (Below.refl _ _) q), by
            rw [HT.out, hs]
            unfold grS
            rw [if_neg hk], rfl⟩, ln_drewN B1.out q⟩)
          clear hv' hs HS1 HT hk X1 B1
          go_upto_region 12 with fail
          go_quiet (fail)
          have sq : w.heap.size ≤ (w1.drewN nq).heap.size := sz1
          have NQ := Lib.hid (NX.out nq)
          clear NX
          go_wp2
          go_roundw
          case rel => exact ⟨i + 1, _, true, by omega, rfl, rfl, by go_num, sq, NQ⟩
          case measure => simp [intOf]; omega
        · rw [hv'] at hvs
          subst hvs
          obtain ⟨oo, hoo⟩ : ∃ oo, appG cur.1 k v = oo := ⟨_, rfl⟩
          have HTS : Hid (grF (L.take (i + 1)) = stepG (done.map (·.1)) cur.1 told oo) := Lib.hid (by
            rw [HT.out, hs]
            unfold grS
            rw [if_neg hk]
            dsimp only
            rw [← hoo]
            cases appG cur.1 k v <;> rfl)
          have HAG : Hid (∀ g', oo = some g' → g'.ag = cur.1.ag) := Lib.hid (fun g' h => appG_ag (by rw [hoo, h]))
          have GC := Lib.hid HG
          have AP : Hid (∀ wx, GM 58 w.heap.size wx O M c2 done cur → Calls Tryz.prog 34 #[.pointer (some ⟨O, done.length * 3, none⟩), .agg #[.string sk, .string sv]] wx fun e w' => ∃ cur', e = .returned (.bool oo.isSome) ∧ GM 58 w.heap.size w' O M c2 done cur' ∧ cur'.1 = oo.getD cur.1 ∧ Below w.heap.size wx w') := Lib.hid (fun wx hx => by
            have := apply_at w.heap.size O M c2 done cur k v sk sv HKK.out HVV.out ZV.out wx hx
            unfold AppP at this
            rw [hoo] at this
            exact this)
          clear hv' hs HS1 HT hk HG hoo
          go_upto_region 12 with fail
          go_cut [50] from 11 to 51 (fun q wx => ∃ cur' : Gp × GpA, q = .bool oo.isSome ∧ Hid (GM 58 w.heap.size wx O M c2 done cur') ∧ Hid (cur'.1 = oo.getD cur.1) ∧ Hid (Below w.heap.size w wx) ∧ w.heap.size ≤ wx.heap.size)
          case first =>
            obtain ⟨D, hD⟩ : ∃ D, done.length * 3 = D := ⟨_, rfl⟩
            rw [hD] at AP
            have dl : decide ((0 : Int) < ((done.length + 1 : Nat) : Int)) = true := decide_eq_true (by omega)
            have hw : IntKind.i64.wrap (done.length : Int) = (done.length : Int) := IntWalk.i64_in _ (by omega)
            have ix0 : (0 : Int) ≤ (done.length : Int) := by omega
            have ix1 : (done.length : Int) < (done.length : Int) + 1 := by omega
            have ix2 : done.length < done.length + 1 := by omega
            go_still_tail 10, (by kernel_rfl)
            change wpList _ _ _ _ _ w1.drew
            have GD := Lib.hid (GC.out.later (w' := w1.drew) ((Below.refl _ _).drew))
            have BD : Hid (Below w.heap.size w w1.drew) := Lib.hid B1.out.drew
            have sd : w.heap.size ≤ w1.drew.heap.size := sz1
            generalize w1.drew = w2 at GD BD sd ⊢
            go_wp2_with fail
            refine (AP.out _ GD.out).mono ?_
            rintro e w3 ⟨cur', rfl, q1, q2, q3⟩
            have Q1 := Lib.hid q1
            have Q2 := Lib.hid q2
            have Q3 := Lib.hid (BD.out.trans q3)
            have sq : w.heap.size ≤ w3.heap.size := Nat.le_trans sd q3.size
            clear q1 q2 q3
            go_wp2
            go_meet
            exact ⟨cur', rfl, Q1, Q2, Q3, sq⟩
          case rest =>
            obtain ⟨cur', rfl, GX, HC, BX, sx⟩ := hcut
            cases oo with
            | none =>
              simp only [Option.isSome_none]
              have NX : Hid (GrS 58 w wc L (i + 1) (.slice (some ⟨O, 0, none⟩) (done.length + 1) c2) told) := Lib.hid ⟨Or.inr ⟨O, M, c2, done, cur', rfl, GX.out, by rw [HTS.out, HC.out]; rfl, by omega, by rw [HC.out]; show cur.1.ag.length ≤ _; omega⟩, BX.out⟩
              clear GX HC BX HTS HAG GC AP X1 B1 gl z0 z1
              go_wp2
              go_roundw
              case rel => exact ⟨i + 1, _, told, by omega, rfl, rfl, by go_num, sx, NX⟩
              case measure => simp [intOf]; omega
            | some g' =>
              simp only [Option.isSome_some]
              have NX : Hid (GrS 58 w wc L (i + 1) (.slice (some ⟨O, 0, none⟩) (done.length + 1) c2) true) := Lib.hid ⟨Or.inr ⟨O, M, c2, done, cur', rfl, GX.out, by rw [HTS.out, HC.out]; rfl, by omega, by rw [HC.out]; show g'.ag.length ≤ _; rw [HAG.out g' rfl]; omega⟩, BX.out⟩
              clear GX HC BX HTS HAG GC AP X1 B1 gl z0 z1
              go_wp2
              go_roundw
              case rel => exact ⟨i + 1, _, true, by omega, rfl, rfl, by go_num, sx, NX⟩
              case measure => simp [intOf]; omega
    · have hkd : decide ((i : Int) < (n : Int)) = false := decide_eq_false (by omega)
      obtain ⟨a', cap', LL, hv', HG, hm⟩ := HS.out.st.end_
      have HE : Hid (LL.map (·.1) = grL L) := Lib.hid (by
        rw [hm, List.take_of_length_le (by have := HN.out; omega)]
        rfl)
      rw [hv'] at hvs
      subst hvs
      have HG := Lib.hid HG
      clear hv' hm
      go_wp2
      go_ret
      exact ⟨a', cap', LL, rfl, HG.out, HE.out, HS.out.bel⟩
end Go.Proofs.YtodlecjbpmggiaaGreatDoor
