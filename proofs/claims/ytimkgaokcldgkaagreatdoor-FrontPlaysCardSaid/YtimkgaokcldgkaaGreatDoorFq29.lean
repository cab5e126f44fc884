/- Part of a chain: SpPck, SpRew. -/
import Derived.Test.YtimkgaokcldgkaaGreatDoorFq28
/- Package spill: pack. Written by gen_pack.py. -/
namespace Go.Proofs.YtimkgaokcldgkaaGreatDoor
open Go Go.RowKit Go.Maps Go.Sort
set_option linter.unusedVariables false
set_option linter.unusedSimpArgs false
set_option maxRecDepth 100000

theorem rowBB : RowTy Tryz.prog 130 55 1 24 := ⟨Tryz.underlying130, ⟨.slice none 0 0, by kernel_rfl, rfl⟩, by decide⟩
/-- Bytes of one's own, and where they lie. -/
structure By where
  a : Option Addr
  n : Nat
  c : Nat
  b : List Int
def byV (x : By) : Value := .slice x.a x.n x.c
def En.by_ (e : En) : By := ⟨e.a, e.n, e.c, e.b⟩
def Dist (x y : By) : Prop := ∀ g, x.a = some ⟨g, 0, none⟩ → y.a ≠ some ⟨g, 0, none⟩
theorem Dist.symm {x y : By} (h : Dist x y) : Dist y x := fun g hy hx => h g hx hy
/-- Rows of bytes, no two in one block. -/
structure Famy (w : World) (B : Nat) (l : List By) : Prop where
  own : ∀ x ∈ l, x.b.length = x.n ∧ Own w B 5 1 x.a x.n x.c (u8L x.b)
  ne : l.Pairwise Dist
theorem Famy.later {w w' : World} {B : Nat} {l : List By} (h : Famy w B l) (hb : Below w.heap.size w w') : Famy w' B l := ⟨fun x hx => ⟨(h.own x hx).1, (h.own x hx).2.later hb⟩, h.ne⟩
theorem Famy.sub {w : World} {B : Nat} {l l' : List By} (h : Famy w B l) (hs : l'.Sublist l) : Famy w B l' := ⟨fun x hx => h.own x (hs.subset hx), h.ne.sublist hs⟩
theorem Famy.only {w w' : World} {B : Nat} {l : List By} (h : Famy w B l) {R : Nat → Prop} (ho : Only R w w') (hn : ∀ x ∈ l, ∀ g, x.a = some ⟨g, 0, none⟩ → ¬ R g) : Famy w' B l := ⟨fun x hx => ⟨(h.own x hx).1, (h.own x hx).2.only ho (hn x hx)⟩, h.ne⟩
/-- One of them has grown. -/
theorem Famy.grown {w w' : World} {B : Nat} {l : List By} (h : Famy w B l) {i : Nat} {x x' : By} (hi : l[i]? = some x) (hx : x'.b.length = x'.n ∧ Own w' B 5 1 x'.a x'.n x'.c (u8L x'.b)) (hg : w.grownBy w' (x.a.map (·.block))) (hn : ∀ g, x'.a = some ⟨g, 0, none⟩ → x.a.map (·.block) = some g ∨ w.heap.size ≤ g) : Famy w' B (l.set i x') := by
  obtain ⟨hil, hie⟩ := List.getElem?_eq_some_iff.1 hi
  have hne := List.pairwise_iff_getElem.1 h.ne
  have hxo := (h.own x (List.mem_of_getElem? hi)).2
  have hxa : ∀ {k : Nat}, x.a.map (·.block) = some k → x.a = some ⟨k, 0, none⟩ := fun hk => own_block5 hxo hk
  have dist : ∀ j (hj : j < l.length), j ≠ i → Dist x l[j] := fun j hj hji => by
    rcases Nat.lt_or_gt_of_ne hji with h1 | h1
    · have := hne j i hj hil h1
      rw [hie] at this
      exact this.symm
    · have := hne i j hil hj h1
      rw [hie] at this
      exact this
  have dist' : ∀ j (hj : j < l.length), j ≠ i → Dist x' l[j] := fun j hj hji g hg1 hg2 => by
    rcases hn g hg1 with h1 | h1
    · exact dist j hj hji g (hxa h1) hg2
    · have := (own_lt (h.own _ (List.getElem_mem hj)).2 hg2).1
      omega
  refine ⟨fun y hy => ?_, List.pairwise_iff_getElem.2 fun p q hp hq hpq => ?_⟩
  · obtain ⟨j, hj, rfl⟩ := List.mem_iff_getElem.1 hy
    have hj2 : j < l.length := by simpa using hj
    by_cases hji : j = i
    · subst hji
      rw [List.getElem_set_self]
      exact hx
    · rw [List.getElem_set_ne (Ne.symm hji)]
      have ho := h.own _ (List.getElem_mem hj2)
      refine ⟨ho.1, ho.2.blocks fun g hg2 => hg.block g (own_lt ho.2 hg2).1 fun e => ?_⟩
      exact dist j hj2 hji g (hxa e.symm) hg2
  · have hp2 : p < l.length := by simpa using hp
    have hq2 : q < l.length := by simpa using hq
    by_cases h1 : p = i
    · subst h1
      rw [List.getElem_set_self, List.getElem_set_ne (by omega)]
      exact dist' q hq2 (by omega)
    · by_cases h2 : q = i
      · subst h2
        rw [List.getElem_set_self, List.getElem_set_ne (by omega)]
        exact (dist' p hp2 (by omega)).symm
      · rw [List.getElem_set_ne (by omega), List.getElem_set_ne (by omega)]
        exact hne p q hp2 hq2 hpq
/-- Is there room in a chunk? -/
theorem fits_at {w : World} {rb : Nat} {p1 p2 p3 : Int} {ea : Option Addr} {en ec : Nat} (hb : Box w rb #[.int .i64 p1, .int .i64 p2, .int .i64 p3, .slice ea en ec] 152) (a : Option Addr) (n c : Nat) (hn : n ≤ 1000000) (hm : en ≤ 1000000) :
    Calls Tryz.prog 85 #[.slice a n c, .pointer (some ⟨rb, 0, none⟩)] w fun e w' => e = .returned (.bool (decide (n + en ≤ 2048))) ∧ w' = w := by
  obtain ⟨q, hq⟩ : ∃ q, decide (n + en ≤ 2048) = q := ⟨_, rfl⟩
  have hq2 : decide ((n : Int) + (en : Int) ≤ 2048) = q := by rw [← hq]; congr 1; simp; omega
  have c3 : w.cell? ⟨rb, 3, none⟩ = some (.slice ea en ec) := hb.cell 3
  have hw : IntKind.i64.wrap ((n : Int) + (en : Int)) = (n : Int) + (en : Int) := by rw [IntKind.wrap_i64]; omega
  rw [hq]
  clear hb hq
  go_enter Tryz.func85, Tryz.ntmps85
  go_wp2
  go_ret
  exact ⟨rfl, rfl⟩
/-- The first chunk with room. -/
def idxC (cs : List By) (m : Nat) : Int := match cs.findIdx? (fun x => decide (x.b.length + m ≤ 2048)) with
  | none => -1
  | some i => (i : Int)
set_option maxHeartbeats 2000000 in
theorem index_at {w : World} {B m c rb en ec : Nat} {a ea : Option Addr} {cs : List By} {p1 p2 p3 : Int} (ho : Own w B 55 1 a m c (cs.map byV)) (hl : cs.length = m) (hm : m ≤ 3000000) (hx : ∀ x ∈ cs, x.b.length = x.n ∧ x.n ≤ 1000000) (hb : Box w rb #[.int .i64 p1, .int .i64 p2, .int .i64 p3, .slice ea en ec] 152) (he : en ≤ 1000000) :
    Calls Tryz.prog 84 #[.slice a m c, .func (.func 85) #[] #[.pointer (some ⟨rb, 0, none⟩)]] w fun e w' => e = .returned (.int .i64 (idxC cs en)) ∧ w' = w := by
  obtain ⟨I, hI⟩ : ∃ I, idxC cs en = I := ⟨_, rfl⟩
  rw [hI]
  have HO := Lib.hid ho
  have HL := Lib.hid hl
  have HX := Lib.hid hx
  have FT := Lib.hid (fun (a : Option Addr) (n c : Nat) (hn : n ≤ 1000000) => fits_at hb a n c hn he)
  have HI := Lib.hid hI
  have ENT : ∀ args w, (callFunc 85 args).run Tryz.prog w = .ok (.enter 85 args) w := enters_of Tryz.func85 (by kernel_rfl) rfl
  clear ho hl hx hb hI
  go_enter Tryz.func84, Tryz.ntmps84
  go_wp2_with fail
  go_loopw [8] (fun vi wr => ∃ (k : Nat), vi = .int .i64 (k : Int) ∧ k ≤ m ∧ wr = w ∧ Hid (∀ x ∈ cs.take k, ¬ x.b.length + en ≤ 2048)) (fun vi _ => m - (intV vi).toNat)
  case atStart => exact ⟨0, rfl, Nat.zero_le _, rfl, Lib.hid (fun x hx => by cases hx)⟩
  case round =>
    obtain ⟨k, rfl, hk, rfl, HP⟩ := hrel
    by_cases hkm : k < m
    · have d1 : decide ((k : Int) < (m : Int)) = true := decide_eq_true (by omega)
      have d1n : decide (k < m) = true := decide_eq_true hkm
      obtain ⟨x, hxk⟩ : ∃ x, cs[k]? = some x := ⟨_, List.getElem?_eq_getElem (by rw [HL.out]; exact hkm)⟩
      obtain ⟨hx1, hx2⟩ := HX.out x (List.mem_of_getElem? hxk)
      obtain ⟨g9, hg9, _, _⟩ := HO.out.some_ (by omega)
      have HOK := Lib.hid HO.out
      subst hg9
      have ck := HOK.out.cell (j := k) (u := byV x) (by rw [List.getElem?_map, hxk]; rfl)
      have ik0 : (0 : Int) ≤ (k : Int) := by omega
      have ik1 : (k : Int) < (m : Int) := by omega
      obtain ⟨xa, xn, xc, xb⟩ := x
      unfold byV at ck
      dsimp only at ck hx1 hx2
      obtain ⟨q, hq⟩ : ∃ q, decide (xn + en ≤ 2048) = q := ⟨_, rfl⟩
      have FT1 := Lib.hid (FT.out xa xn xc hx2)
      rw [hq] at FT1
      have HT : Hid (q = true → (k : Int) = I) := Lib.hid (fun h => by
        rw [← HI.out]
        unfold idxC
        have h8 : cs.findIdx? (fun x => decide (x.b.length + en ≤ 2048)) = some k := by
          rw [List.findIdx?_eq_some_iff_getElem]
          obtain ⟨hk1, hk2⟩ := List.getElem?_eq_some_iff.1 hxk
          refine ⟨hk1, ?_, fun j hj => ?_⟩
          · rw [hk2, hx1]
            exact hq.trans h
          · have := HP.out cs[j] (by rw [List.mem_take_iff_getElem]; exact ⟨j, by omega, rfl⟩)
            simpa using this
        rw [h8])
      have HN : Hid (q = false → ∀ x ∈ cs.take (k + 1), ¬ x.b.length + en ≤ 2048) := Lib.hid (fun h x hx => by
        rw [List.take_add_one, hxk] at hx
        rcases List.mem_append.1 hx with hx | hx
        · exact HP.out x hx
        · simp at hx
          subst hx
          dsimp only
          rw [hx1]
          intro h9
          rw [h] at hq
          exact absurd h9 (of_decide_eq_false hq))
      clear hxk hx1 hx2 hq HP
      go_wp2_with fail
      refine FT1.out.mono ?_
      rintro e w2 ⟨rfl, hw2⟩
      obtain rfl := hw2
      clear FT1
      cases q with
      | true =>
        have HT2 := Lib.hid (HT.out rfl)
        clear HT HN
        go_wp2_with fail
        go_ret
        exact ⟨by rw [HT2.out]; rfl, rfl⟩
      | false =>
        have HN2 := Lib.hid (HN.out rfl)
        clear HT HN
        go_wp2_with fail
        go_roundw
        case rel => exact ⟨k + 1, by go_num, by omega, by first | trivial | rfl, HN2⟩
        case measure => simp [intV]; omega
    · have d1 : decide ((k : Int) < (m : Int)) = false := decide_eq_false (by omega)
      have hkk : k = m := by omega
      have FIN : Hid (-1 = I) := Lib.hid (by
        rw [← HI.out]
        unfold idxC
        have h8 : cs.findIdx? (fun x => decide (x.b.length + en ≤ 2048)) = none := by
          rw [List.findIdx?_eq_none_iff]
          intro x hx
          have := HP.out x (by rw [hkk, List.take_of_length_le (by rw [HL.out]; exact Nat.le_refl _)]; exact hx)
          simpa using this
        rw [h8])
      clear HP
      go_wp2_with fail
      go_ret
      exact ⟨by rw [← FIN.out]; rfl, rfl⟩
/-- The loop. -/
structure PkS (w : World) (es : List En) (n ec : Nat) (ea : Option Addr) (k m c : Nat) (a : Option Addr) (cs : List By) (wr : World) : Prop where
  row : Own wr w.heap.size 55 1 a m c (cs.map byV)
  len : cs.length = m
  fam : Famy wr w.heap.size (cs ++ (es.drop k).map En.by_)
  small : ∀ x ∈ cs, x.n ≤ 2048
  eown : Own wr w.heap.size 152 4 ea n ec (flE enE es)
  eq : cs.map (·.b) = ((es.take k).map (·.b)).foldl packStep []
  bel : Below w.heap.size w wr
theorem PkS.later {w : World} {es : List En} {n ec : Nat} {ea : Option Addr} {k m c : Nat} {a : Option Addr} {cs : List By} {wr w' : World} (h : PkS w es n ec ea k m c a cs wr) (hb : Below wr.heap.size wr w') : PkS w es n ec ea k m c a cs w' :=
  ⟨h.row.later hb, h.len, h.fam.later hb, h.small, h.eown.later hb, h.eq, h.bel.trans (hb.mono h.bel.size)⟩
theorem findIdx_map {cs : List By} {b : List Int} : (cs.map (·.b)).findIdx? (fun c => decide (c.length + b.length ≤ 2048)) = cs.findIdx? (fun x => decide (x.b.length + b.length ≤ 2048)) := by
  rw [List.findIdx?_map]
  rfl
theorem encO_byts (r : Rc) : Byts (encO r) := by
  unfold encO
  split
  · rename_i h
    exact recB_byts (contR_byts h)
  · exact Byts.nil
theorem encO_len (r : Rc) : (encO r).length ≤ 1050 := by
  unfold encO
  split
  · rename_i h
    unfold encR
    rw [recB_length, contR_length]
    obtain ⟨_, _, _, _, _, _, h7, h8⟩ := h
    omega
  · simp
/-- What the sorted records' bytes are. -/
theorem recsL_bytes (g : Lg) : ∀ x ∈ recsL g, ∃ r, x.2 = encO r := by
  intro x hx
  unfold recsL at hx
  rcases List.mem_append.1 hx with hx | hx
  · rcases List.mem_append.1 hx with hx | hx
    · obtain ⟨id, _, h⟩ := List.mem_filterMap.1 hx
      unfold recP at h
      obtain ⟨r, _, rfl⟩ := Option.map_eq_some_iff.1 h
      exact ⟨_, rfl⟩
    · obtain ⟨s, _, rfl⟩ := List.mem_map.1 hx
      exact ⟨_, rfl⟩
  · unfold recT at hx
    split at hx
    · rw [List.mem_singleton] at hx
      rw [hx]
      exact ⟨_, rfl⟩
    · cases hx
theorem sortedL_perm (g : Lg) : (sortedL g).Perm (recsL g) := pm_stabS ltP (recsL g).toArray
theorem sortedL_bytes (g : Lg) : ∀ x ∈ sortedL g, ∃ r, x.2 = encO r := fun x hx => recsL_bytes g x ((sortedL_perm g).mem_iff.1 hx)
set_option maxHeartbeats 8000000 in
theorem pack_at {w : World} {RD RL : Nat → Prop} {d L : Nat} {g : Lg} (h : LgM w RD RL d L g) (hf : Few g.x) :
    Calls Tryz.prog 68 #[.pointer (some ⟨L, 0, none⟩)] w fun e w' => ∃ (m c : Nat) (a : Option Addr) (cs : List By), e = .returned (.slice a m c) ∧ m ≤ 2000001 ∧ Own w' w.heap.size 55 1 a m c (cs.map byV) ∧ cs.length = m ∧ Famy w' w.heap.size cs ∧ (∀ x ∈ cs, x.n ≤ 2048) ∧ cs.map (·.b) = packL g ∧ Below w.heap.size w w' := by
  have RC := Lib.hid (records_at h hf)
  have ENT : ∀ args w, (callFunc 85 args).run Tryz.prog w = .ok (.enter 85 args) w := enters_of Tryz.func85 (by kernel_rfl) rfl
  have mixed : Tryz.prog.follows .mixedOrders = true := by kernel_rfl
  clear h hf
  go_enter Tryz.func68, Tryz.ntmps68
  go_wp2_with fail
  refine RC.out.mono ?_
  rintro e w1 ⟨n, c1, a1, es, rfl, hn, ho, hl, hby, hne, heq, hb⟩
  have HL := Lib.hid hl
  have ESM : Hid (∀ e ∈ es, e.n ≤ 1050) := Lib.hid (fun e he => by
    have h1 : fE e ∈ sortedL g := heq ▸ List.mem_map_of_mem he
    obtain ⟨r, hr⟩ := sortedL_bytes g _ h1
    have h2 := (hby e he).1
    have h3 : e.b = encO r := hr
    have h4 := encO_len r
    rw [← h3] at h4
    omega)
  have FINE : Hid (((es.take n).map (·.b)).foldl packStep [] = packL g) := Lib.hid (by
    rw [List.take_of_length_le (by omega)]
    unfold packL
    rw [← heq, List.map_map]
    rfl)
  have ST : Hid (PkS w es n c1 a1 0 0 0 none [] w1) := Lib.hid ⟨Own.nil _ _ _ _, rfl, ⟨fun x hx => by
      rw [List.nil_append, List.drop_zero] at hx
      obtain ⟨e, he, rfl⟩ := List.mem_map.1 hx
      exact hby e he, by
      rw [List.nil_append, List.drop_zero, List.pairwise_map]
      exact hne⟩, (fun x hx => by cases hx), ho, rfl, hb⟩
  clear RC ho hl hby hne heq hb
  go_wp2_with fail
  go_loopw [3, 10] (fun vl vi wr => ∃ (k m c : Nat) (a : Option Addr) (cs : List By), (vl = .slice a m c ∧ vi = .int .i64 (k : Int)) ∧ k ≤ n ∧ m ≤ k ∧ Hid (PkS w es n c1 a1 k m c a cs wr)) (fun _ vi _ => n - (intV vi).toNat)
  case atStart => exact ⟨0, 0, 0, none, [], ⟨rfl, rfl⟩, Nat.zero_le _, Nat.le_refl _, ST⟩
  case round =>
    clear ST
    obtain ⟨k, m, c, a, cs, ⟨rfl, rfl⟩, hk, hmk, HS⟩ := hrel
    by_cases hkn : k < n
    · have d1 : decide ((k : Int) < (n : Int)) = true := decide_eq_true (by omega)
      have d1n : decide (k < n) = true := decide_eq_true hkn
      obtain ⟨e, hek⟩ : ∃ e, es[k]? = some e := ⟨_, List.getElem?_eq_getElem (by rw [HL.out]; exact hkn)⟩
      obtain ⟨g9, hg9, _, _⟩ := HS.out.eown.some_ (by omega)
      have he1 := ESM.out e (List.mem_of_getElem? hek)
      have HSK := Lib.hid HS.out
      subst hg9
      have ec0 : wr.cell? ⟨g9, k * 4 + 0, none⟩ = some (.int .i64 e.p.seg) := own_elem enE_len HSK.out.eown hek 0 _ rfl
      have ec1 : wr.cell? ⟨g9, k * 4 + 1, none⟩ = some (.int .i64 e.p.off) := own_elem enE_len HSK.out.eown hek 1 _ rfl
      have ec2 : wr.cell? ⟨g9, k * 4 + 2, none⟩ = some (.int .i64 e.p.size) := own_elem enE_len HSK.out.eown hek 2 _ rfl
      have ec3 : wr.cell? ⟨g9, k * 4 + 3, none⟩ = some (.slice e.a e.n e.c) := own_elem enE_len HSK.out.eown hek 3 _ rfl
      have HEK := Lib.hid hek
      have DR : Hid (cs ++ (es.drop k).map En.by_ = cs ++ (e.by_ :: (es.drop (k + 1)).map En.by_)) := Lib.hid (by
        obtain ⟨hlt, hge⟩ := List.getElem?_eq_some_iff.1 hek
        rw [List.drop_eq_getElem_cons hlt, hge]
        rfl)
      have EQN : Hid (((es.take (k + 1)).map (·.b)).foldl packStep [] = packStep (cs.map (·.b)) e.b) := Lib.hid (by
        rw [List.take_add_one, hek, List.map_append, List.foldl_append, ← HSK.out.eq]
        rfl)
      have ik0 : (0 : Int) ≤ (k : Int) := by omega
      have ik1 : (k : Int) < (n : Int) := by omega
      obtain ⟨⟨p1, p2, p3⟩, ea, en, ec, eb⟩ := e
      simp only [Nat.add_zero] at ec0
      dsimp only at ec0 ec1 ec2 ec3 he1 EQN
      have EBN : Hid (eb.length = en) := Lib.hid ((HSK.out.fam.own ⟨ea, en, ec, eb⟩ (by rw [DR.out]; simp [En.by_])).1)
      clear hek HS
      go_upto_region 5 with fail
      refine code_forget (fun W => Hid (PkS w es n c1 (some ⟨g9, 0, none⟩) k m c a cs W) ∧ Hid (Box W wr.heap.size #[.int .i64 p1, .int .i64 p2, .int .i64 p3, .slice ea en ec] 152)) ⟨Lib.hid (HSK.out.later ((Below.refl _ _).alloc (Nat.le_refl _) _)), Lib.hid (Box.new _ _ _)⟩ ?_
      obtain ⟨rb, hrb⟩ : ∃ p, wr.heap.size = p := ⟨_, rfl⟩
      rw [hrb]
      clear HSK ec0 ec1 ec2 ec3 hrb
      rintro w2 ⟨HS, BR⟩
      have IDX := Lib.hid (index_at HS.out.row HS.out.len (by omega) (fun x hx => ⟨(HS.out.fam.own x (List.mem_append_left _ hx)).1, by have := HS.out.small x hx; omega⟩) BR.out (by omega))
      obtain ⟨I, hI⟩ : ∃ I, idxC cs en = I := ⟨_, rfl⟩
      rw [hI] at IDX
      go_wp2_with fail
      refine IDX.out.mono ?_
      rintro e9 w3 ⟨rfl, hw3⟩
      subst hw3
      clear IDX
      cases hfi : cs.findIdx? (fun x => decide (x.b.length + en ≤ 2048)) with
      | none =>
        obtain rfl : (-1 : Int) = I := by rw [← hI]; unfold idxC; rw [hfi]
        have c3 : w3.cell? ⟨rb, 3, none⟩ = some (.slice ea en ec) := BR.out.cell 3
        have OR := Lib.hid HS.out.row
        have hB3 := HS.out.bel.size
        have HZ : Hid (cs.map byV ++ #[.slice ea en ec].toList = (cs ++ [(⟨ea, en, ec, eb⟩ : By)]).map byV) := Lib.hid (by rw [List.map_append]; rfl)
        have NEXT : Hid (∀ (w5 : World) (g5 c5 : Nat), Own w5 w.heap.size 55 1 (some ⟨g5, 0, none⟩) (m + 1) c5 ((cs ++ [(⟨ea, en, ec, eb⟩ : By)]).map byV) → w3.grownBy w5 (a.map (·.block)) → PkS w es n c1 (some ⟨g9, 0, none⟩) (k + 1) (m + 1) c5 (some ⟨g5, 0, none⟩) (cs ++ [⟨ea, en, ec, eb⟩]) w5) := Lib.hid (fun w5 g5 c5 k1 k2 => by
          have hga : ∀ {k : Nat}, a.map (·.block) = some k → a = some ⟨k, 0, none⟩ := fun hk => own_block5 HS.out.row hk
          have ho : Only (fun k => a = some ⟨k, 0, none⟩) w3 w5 := Only.of_grown k2 (fun k hk => hga hk)
          have hge : ∀ k, a = some ⟨k, 0, none⟩ → w.heap.size ≤ k := fun k hk => (own_lt HS.out.row hk).2
          refine ⟨k1, by rw [List.length_append, HS.out.len]; rfl, ?_, fun x hx => ?_, HS.out.eown.only ho (fun k hk hk2 => own_apart HS.out.eown HS.out.row hk hk2 (by decide)), ?_, HS.out.bel.trans (ho.below hB3 hge)⟩
          · have e1 : (cs ++ [(⟨ea, en, ec, eb⟩ : By)]) ++ (es.drop (k + 1)).map En.by_ = cs ++ (es.drop k).map En.by_ := by rw [DR.out]; simp [En.by_]
            rw [e1]
            exact HS.out.fam.only ho (fun x hx k hk hk2 => own_apart (HS.out.fam.own x hx).2 HS.out.row hk hk2 (by decide))
          · rcases List.mem_append.1 hx with hx | hx
            · exact HS.out.small x hx
            · rw [List.mem_singleton] at hx
              rw [hx]
              dsimp only
              omega
          · rw [EQN.out]
            unfold packStep
            rw [findIdx_map, EBN.out, hfi, List.map_append]
            rfl)
        clear HS hI hfi EQN DR
        go_wp2_with (at_builtin; refine wpList_app1 rowBB rfl _ _ rfl w.heap.size a m c _ rfl OR.out #[.slice ea en ec] rfl rfl (by simp [Value.oneCell']) (by omega) (by decide) hB3 (m + 1) rfl _ HZ.out ?_; rintro g5 c5 w5 k1 k2 k3 k4; have NX := Lib.hid (NEXT.out _ _ _ k1 k2); clear k1 k2 k3 k4 OR)
        go_roundw
        case rel => exact ⟨k + 1, m + 1, c5, some ⟨g5, 0, none⟩, _, ⟨rfl, by go_num⟩, by omega, by omega, NX⟩
        case measure => simp [intV]; omega
      | some i =>
        obtain rfl : (i : Int) = I := by rw [← hI]; unfold idxC; rw [hfi]
        obtain ⟨hic, hfit, _⟩ := List.findIdx?_eq_some_iff_getElem.1 hfi
        obtain ⟨x, hx⟩ : ∃ x, cs[i]? = some x := ⟨_, List.getElem?_eq_getElem hic⟩
        rw [(List.getElem?_eq_some_iff.1 hx).2] at hfit
        have him : i < m := by rw [← HS.out.len]; exact hic
        have hxo := HS.out.fam.own x (List.mem_append_left _ (List.mem_of_getElem? hx))
        have hsum : x.n + en ≤ 2048 := by rw [← hxo.1]; exact of_decide_eq_true hfit
        obtain ⟨cg, hcg, _, _⟩ := HS.out.row.some_ (by omega)
        have HSK := Lib.hid HS.out
        subst hcg
        have ckc := HSK.out.row.cell (j := i) (u := byV x) (by rw [List.getElem?_map, hx]; rfl)
        have lcg := (HSK.out.row.lt).2
        have fcg : ∀ j, w3.frozen? ⟨cg, j, none⟩ = false := HSK.out.row.free
        have EO := Lib.hid (HSK.out.fam.own ⟨ea, en, ec, eb⟩ (by rw [DR.out]; simp [En.by_])).2
        have ii0 : (0 : Int) ≤ (i : Int) := by omega
        have ii1 : (i : Int) < (m : Int) := by omega
        have dneg : decide ((i : Int) < 0) = false := decide_eq_false (by omega)
        have hB8 := HSK.out.bel.size
        have HXI := Lib.hid hx
        have XO := Lib.hid hxo.2.drew
        have XN := Lib.hid hxo.1
        have EL : Hid ((u8L eb).length = en * 1) := Lib.hid (by rw [u8L_len, EBN.out])
        have ER : Hid (RdC w3.drew ea (u8L eb)) := Lib.hid (rdC_of_own EO.out.drew (by decide))
        have FI := Lib.hid hfi
        obtain ⟨xa, xn, xc, xb⟩ := x
        unfold byV at ckc
        dsimp only at ckc hsum XO XN
        have hsum : xn + en ≤ 100000000 := by omega
        have NEXT : Hid (∀ (a5 : Option Addr) (c5 : Nat) (w5 : World), Own w5 w.heap.size 5 1 a5 (xn + en) c5 (u8L xb ++ u8L eb) → w3.drew.grownBy w5 (xa.map (·.block)) → Below w.heap.size w3.drew w5 → (∀ g, a5 = some ⟨g, 0, none⟩ → xa.map (·.block) = some g ∨ w3.drew.heap.size ≤ g) →
            cg < w5.heap.size ∧ w5.cell? ⟨cg, i, none⟩ = some (.slice xa xn xc) ∧ w5.frozen? ⟨cg, i, none⟩ = false ∧ Hid (PkS w es n c1 (some ⟨g9, 0, none⟩) (k + 1) m c (some ⟨cg, 0, none⟩) (cs.set i ⟨a5, xn + en, c5, xb ++ eb⟩) (w5.setCell ⟨cg, i, none⟩ (.slice a5 (xn + en) c5)))) := Lib.hid (fun a5 c5 w5 k1 k2 k3 k4 => by
          have hd : Famy w3.drew w.heap.size (cs ++ (es.drop k).map En.by_) := HSK.out.fam.later (Below.refl _ _).drew
          have hxc : (cs ++ (es.drop k).map En.by_)[i]? = some ⟨xa, xn, xc, xb⟩ := by rw [List.getElem?_append_left hic]; exact HXI.out
          have hga : ∀ {k : Nat}, xa.map (·.block) = some k → xa = some ⟨k, 0, none⟩ := fun hk => own_block5 XO.out hk
          have ho : Only (fun k => xa = some ⟨k, 0, none⟩) w3.drew w5 := Only.of_grown k2 (fun k hk => hga hk)
          have hrow : Own w5 w.heap.size 55 1 (some ⟨cg, 0, none⟩) m c (cs.map byV) := HSK.out.row.drew.only ho (fun k hk hk2 => own_apart HSK.out.row.drew XO.out hk hk2 (by decide))
          have hfam := hd.grown hxc (x' := ⟨a5, xn + en, c5, xb ++ eb⟩) ⟨by dsimp only; rw [List.length_append, XN.out, EBN.out], by rw [u8L_app]; exact k1⟩ k2 k4
          have hset : Own (w5.setCell ⟨cg, i, none⟩ (.slice a5 (xn + en) c5)) w.heap.size 55 1 (some ⟨cg, 0, none⟩) m c ((cs.set i ⟨a5, xn + en, c5, xb ++ eb⟩).map byV) := by
            have := hrow.set i (.slice a5 (xn + en) c5)
            rw [show (cs.set i ⟨a5, xn + en, c5, xb ++ eb⟩).map byV = (cs.map byV).set i (.slice a5 (xn + en) c5) by rw [List.map_set]; rfl]
            exact this
          refine ⟨hrow.lt.2, hrow.cell (by rw [List.getElem?_map, HXI.out]; rfl), hrow.free i, Lib.hid ⟨hset, by rw [List.length_set]; exact HSK.out.len, ?_, fun y hy => ?_, ?_, ?_, ?_⟩⟩
          · have h7 : Famy w5 w.heap.size (cs.set i ⟨a5, xn + en, c5, xb ++ eb⟩ ++ (es.drop (k + 1)).map En.by_) := by
              refine hfam.sub ?_
              rw [DR.out, List.set_append_left _ _ hic]
              exact (List.Sublist.refl _).append (List.sublist_cons_self _ _)
            exact ⟨fun y hy => ⟨(h7.own y hy).1, (h7.own y hy).2.other (fun g hg e => own_apart (h7.own y hy).2 hrow hg (show (some ⟨cg, 0, none⟩ : Option Addr) = some ⟨g, 0, none⟩ by rw [e]) (by decide)) _⟩, h7.ne⟩
          · rcases List.mem_or_eq_of_mem_set hy with hy | hy
            · exact HSK.out.small y hy
            · rw [hy]
              dsimp only
              have h9 := hfit
              have h8 := XN.out
              simp only [decide_eq_true_eq] at h9
              (try dsimp only at h9)
              omega
          · exact (HSK.out.eown.drew.only ho (fun k hk hk2 => own_apart HSK.out.eown.drew XO.out hk hk2 (by decide))).other (fun g hg e => own_apart HSK.out.eown.drew HSK.out.row.drew hg (show (some ⟨cg, 0, none⟩ : Option Addr) = some ⟨g, 0, none⟩ by rw [e]) (by decide)) _
          · rw [EQN.out]
            unfold packStep
            rw [findIdx_map, EBN.out, FI.out, List.map_set]
            show (cs.map _).set i (xb ++ eb) = (cs.map _).set i ((cs.map _).getD i [] ++ eb)
            rw [List.getD_eq_getElem?_getD, List.getElem?_map, HXI.out]
            rfl
          · exact (HSK.out.bel.drew.trans k3).setCell (HSK.out.row.lt).1 _)
        have ckc : w3.drew.cell? ⟨cg, i, none⟩ = some (.slice xa xn xc) := ckc
        clear HS hI hfi hx hxo hfit EQN DR EO HXI FI HSK lcg fcg
        go_upto_region 8 with fail
        refine wp_region_lastM [8, 9, 10] (fun w' => w'.cell? ⟨cg, i, none⟩ = some (.slice xa xn xc) ∧ Box w' rb #[.int .i64 p1, .int .i64 p2, .int .i64 p3, .slice ea en ec] 152) (by kernel_rfl) (⟨ckc, BR.out.drew⟩) (fun hHeld hClosed => ?_)
        refine wpAnyM_takeP (i := 0) (v := ?_) rfl (by kernel_rfl) (by kernel_rfl) (by kernel_rfl) (fun _ _ _ h => h) (by kernel_rfl) hClosed (Or.inl ⟨by rfl, ?_⟩) (fun _ => hHeld) (fun hClosed => ?_)
        rotate_left
        · intro wv hSw; go_simp; all_goals (with_reducible rfl)
        (try simp only [List.getElem_toArray, List.getElem_cons_zero, put_at, List.set])
        refine wpAnyM_takeP (i := 1) (v := ?_) rfl (by kernel_rfl) (by kernel_rfl) (by kernel_rfl) (fun _ _ _ h => h) (by kernel_rfl) hClosed (Or.inl ⟨by rfl, ?_⟩) (fun _ => hHeld) (fun hClosed => ?_)
        rotate_left
        · intro wv hSw; go_simp; all_goals (with_reducible rfl)
        (try simp only [List.getElem_toArray, List.getElem_cons_succ, List.getElem_cons_zero, put_at, List.set])
        refine wpAnyM_takeP (i := 2) (v := ?_) rfl (by kernel_rfl) (by kernel_rfl) (by kernel_rfl) (fun _ _ _ h => h) (by kernel_rfl) hClosed (Or.inl ⟨by rfl, ?_⟩) (fun _ => hHeld) (fun hClosed => ?_)
        rotate_left
        · intro wv hSw; go_simp; all_goals (with_reducible rfl)
        (try simp only [List.getElem_toArray, List.getElem_cons_succ, List.getElem_cons_zero, put_at, List.set])
        refine wpAnyM_takeP (i := 3) (v := ?_) rfl (by kernel_rfl) (by kernel_rfl) (by kernel_rfl) (fun _ _ _ h => h) (by kernel_rfl) hClosed (Or.inl ⟨by rfl, ?_⟩) (fun _ => hHeld) (fun hClosed => ?_)
        rotate_left
        · intro wv hSw; go_simp; all_goals (with_reducible rfl)
        (try simp only [List.getElem_toArray, List.getElem_cons_succ, List.getElem_cons_zero, put_at, List.set])
        refine wpAnyM_takeP (i := 4) (v := ?_) rfl (by kernel_rfl) (by kernel_rfl) (by kernel_rfl) (fun _ _ _ h => h) (by kernel_rfl) hClosed (Or.inl ⟨by rfl, ?_⟩) (fun _ => hHeld) (fun hClosed => ?_)
        rotate_left
        · intro wv hSw; go_simp; all_goals (with_reducible rfl)
        (try simp only [List.getElem_toArray, List.getElem_cons_succ, List.getElem_cons_zero, put_at, List.set])
        refine wpAnyM_take (i := 5) (v := ?_) rfl (by kernel_rfl) (by kernel_rfl) (by kernel_rfl) (by kernel_rfl) (fun _ _ _ h => h) (by kernel_rfl) hClosed (Or.inl ⟨by rfl, ?_⟩) (fun _ => hHeld) (fun hClosed => ?_)
        rotate_left
        · intro wv hSw; have ck9 := hSw.1; have cr9 : wv.cell? ⟨rb, 3, none⟩ = some (.slice ea en ec) := hSw.2.cell 3; go_simp; all_goals (with_reducible rfl)
        (try simp only [List.getElem_toArray, List.getElem_cons_succ, List.getElem_cons_zero, put_at, List.set])
        refine wpAnyM_takeP (i := 6) (v := ?_) rfl (by kernel_rfl) (by kernel_rfl) (by kernel_rfl) (fun _ _ _ h => h) (by kernel_rfl) hClosed (Or.inl ⟨by rfl, ?_⟩) (fun _ => hHeld) (fun hClosed => ?_)
        rotate_left
        · intro wv hSw; go_simp; all_goals (with_reducible rfl)
        (try simp only [List.getElem_toArray, List.getElem_cons_succ, List.getElem_cons_zero, put_at, List.set])
        refine wpAnyM_take (i := 7) (v := ?_) rfl (by kernel_rfl) (by kernel_rfl) (by kernel_rfl) (by kernel_rfl) (fun _ _ _ h => h) (by kernel_rfl) hClosed (Or.inl ⟨by rfl, ?_⟩) (fun _ => hHeld) (fun hClosed => ?_)
        rotate_left
        · intro wv hSw; have ck9 := hSw.1; have cr9 : wv.cell? ⟨rb, 3, none⟩ = some (.slice ea en ec) := hSw.2.cell 3; go_simp; all_goals (with_reducible rfl)
        (try simp only [List.getElem_toArray, List.getElem_cons_succ, List.getElem_cons_zero, put_at, List.set])
        refine wpAnyM_end (i := 8) rfl (by kernel_rfl) (by kernel_rfl) hClosed (fun KK hK => ?_)
        refine step_appE rowU8 rfl _ _ rfl w.heap.size xa xn xc _ rfl XO.out ea en ec _ rfl EL.out ER.out (u8L_one _) hsum (by decide) hB8 (xn + en) rfl _ rfl ?_
        intro a5 c5 w5 p1 p2 p3 p4
        obtain ⟨lt5, cl5, fz5, NX⟩ := NEXT.out a5 c5 w5 p1 p2 p3 p4
        clear p1 p2 p3 p4
        refine hK.out _ _ (fun hClosed => ?_)
        clear hK KK
        (try simp only [List.getElem_toArray, List.getElem_cons_succ, List.getElem_cons_zero, put_at, List.set])
        refine wpAnyM_end (i := 9) rfl (by kernel_rfl) (by kernel_rfl) hClosed (fun KK hK => ?_)
        go_simp
        refine hK.out _ _ (fun hClosed => ?_)
        clear hK KK
        (try simp only [List.getElem_toArray, List.getElem_cons_succ, List.getElem_cons_zero, put_at, List.set])
        refine wpAnyM_end (i := 10) rfl (by kernel_rfl) (by kernel_rfl) hClosed (fun KK hK => ?_)
        go_simp
        refine hK.out _ _ (fun hClosed => ?_)
        clear hK KK
        (try simp only [List.getElem_toArray, List.getElem_cons_succ, List.getElem_cons_zero, put_at, List.set])
        refine wpAnyM_over (by kernel_rfl) ?_
        go_wp2_with fail
        go_roundw
        case rel => exact ⟨k + 1, m, c, some ⟨cg, 0, none⟩, _, ⟨rfl, by go_num⟩, by omega, by omega, NX⟩
        case measure => simp [intV]; omega
    · have d1 : decide ((k : Int) < (n : Int)) = false := decide_eq_false (by omega)
      have hkk : k = n := by omega
      subst hkk
      have FIN : Hid (Own wr w.heap.size 55 1 a m c (cs.map byV) ∧ cs.length = m ∧ Famy wr w.heap.size cs ∧ (∀ x ∈ cs, x.n ≤ 2048) ∧ cs.map (·.b) = packL g ∧ Below w.heap.size w wr) := Lib.hid ⟨HS.out.row, HS.out.len, HS.out.fam.sub (List.sublist_append_left _ _), HS.out.small, by rw [HS.out.eq]; exact FINE.out, HS.out.bel⟩
      clear HS
      go_wp2_with fail
      go_ret
      exact ⟨m, c, a, cs, rfl, by omega, FIN.out⟩
end Go.Proofs.YtimkgaokcldgkaaGreatDoor
/- Package spill: rewrite. Written by gen_rewrite.py. -/
namespace Go.Proofs.YtimkgaokcldgkaaGreatDoor
open Go Go.RowKit Go.Maps Go.Sort
set_option linter.unusedVariables false
set_option linter.unusedSimpArgs false
set_option maxRecDepth 100000

/-- The rest of a row of one's own. -/
theorem from_of {w : World} {B n c k : Nat} {a : Option Addr} {l : List Int} (h : Own w B 3 1 a n c (inL l)) (hl : l.length = n) (hk : k ≤ n) :
    ∃ a' c', (∀ W : World, (Instr.sliceAt 63 (.slice a n c) (some (.int .i64 k)) none none).run Tryz.prog W = .ok (.slice a' (n - k) c') W) ∧ RdC w a' (inL (l.drop k)) ∧ ∀ g off, a' = some ⟨g, off, none⟩ → a = some ⟨g, 0, none⟩ := by
  obtain ⟨i0, z0, hi0, hz0, hz1, hz2, hz3⟩ := rowI.parts
  rcases h.form with ⟨rfl, rfl, rfl⟩ | ⟨g, rfl, _, _⟩
  · obtain rfl : k = 0 := by omega
    obtain rfl : l = [] := List.eq_nil_of_length_eq_zero hl
    refine ⟨none, 0, fun W => ?_, fun j u hj => by simp [inL] at hj, fun g off e => by cases e⟩
    simp [Instr.sliceAt, Instr.slice, run_underlying Tryz.underlying63, Instr.sliceBounds, Instr.sliceBound, asIntOf, sizeOf, typeInfo, hi0, go_sem]
  · obtain ⟨off, e1, e2⟩ := sliceFrom_off (P := Tryz.prog) rowI g n c k hk h.cap_le
    refine ⟨_, _, e1, fun j u hj => ?_, fun g' off' e => by injection e with e; injection e with e; rw [e]⟩
    have hjl : j < (l.drop k).length := by
      have := (List.getElem?_eq_some_iff.1 hj).1
      unfold inL at this
      simpa using this
    rw [List.length_drop] at hjl
    have ho := e2 (by omega)
    refine ⟨g, off, rfl, ?_⟩
    rw [ho, Nat.mul_one]
    refine h.cell ?_
    unfold inL at hj ⊢
    rw [List.getElem?_map] at hj ⊢
    rw [List.getElem?_drop] at hj
    exact hj
set_option maxHeartbeats 1000000 in
/-- Clone: a row of one's own with the same numbers. -/
theorem clone_at {w : World} {n c : Nat} {a : Option Addr} {l : List Int} (hl : l.length = n) (hn : n ≤ 1000000) (hr : RdC w a (inL l)) (hz : a = none → n = 0 ∧ c = 0) :
    Calls Tryz.prog 69 #[.slice a n c] w fun e w' => ∃ a' c', e = .returned (.slice a' n c') ∧ Own w' w.heap.size 3 1 a' n c' (inL l) ∧ Below w.heap.size w w' := by
  have HR := Lib.hid hr
  have HL : Hid ((inL l).length = n * 1) := Lib.hid (by unfold inL; rw [List.length_map, hl, Nat.mul_one])
  have H1 : Hid (∀ u ∈ inL l, u.oneCell' = true) := Lib.hid (fun u hu => by unfold inL at hu; obtain ⟨x, _, rfl⟩ := List.mem_map.1 hu; rfl)
  have HLL := Lib.hid hl
  clear hr hl
  cases a with
  | none =>
    obtain ⟨rfl, rfl⟩ := hz rfl
    have e0 : l = [] := List.eq_nil_of_length_eq_zero HLL.out
    subst e0
    have eqn : ∀ W : World, (binOp .eql 63 (.slice none 0 0) (.slice none 0 0)).run Tryz.prog W = .ok (.bool true) W := fun W => by kernel_rfl
    go_enter Tryz.func69, Tryz.ntmps69
    go_wp2
    go_ret
    exact ⟨none, 0, rfl, Own.nil _ _ _ _, Below.refl _ _⟩
  | some p =>
    clear hz
    have eqn : ∀ W : World, (binOp .eql 63 (.slice (some p) n c) (.slice none 0 0)).run Tryz.prog W = .ok (.bool false) W := fun W => by kernel_rfl
    have O0 : Hid (Own (w.alloc (.cells #[] 3)) w.heap.size 3 1 (some ⟨w.heap.size, 0, none⟩) 0 0 []) := Lib.hid (Own.lit (Nat.le_refl _) (by decide) rfl)
    have R0 := Lib.hid (HR.out.later ((Below.refl w.heap.size w).alloc (Nat.le_refl _) (.cells #[] 3)))
    have hb0 : w.heap.size ≤ (w.alloc (.cells #[] 3)).heap.size := by simp
    have BB : Hid (Below w.heap.size w (w.alloc (.cells #[] 3))) := Lib.hid ((Below.refl _ _).alloc (Nat.le_refl _) _)
    go_enter Tryz.func69, Tryz.ntmps69
    go_wp2_with (at_builtin; refine wpList_appE rowI rfl _ _ rfl w.heap.size (some ⟨w.heap.size, 0, none⟩) 0 0 [] rfl O0.out (some p) n c _ rfl HL.out R0.out H1.out (by omega) (by decide) hb0 n (by omega) (inL l) rfl ?_; rintro a' c' w5 k1 k2 k3 k4; have NX := Lib.hid (And.intro k1 (BB.out.trans k3)); clear k1 k2 k3 k4)
    go_ret
    exact ⟨a', c', rfl, NX.out.1, NX.out.2⟩
/-! What the chunks hold. -/
theorem rdL_sound {S : Sgs} (hb : BytS S) {p : Pl} {r : Rc} (h : rdL S p = some r) : soundR r ∧ FitR r := by
  unfold rdL at h
  split at h
  · cases h
  · have hs := (scan_ok (part_byts hb p)).1
    obtain ⟨l, hl⟩ : ∃ l, scanL (partL S p) = l := ⟨_, rfl⟩
    rw [hl] at hs h
    match l, h with
    | [q], h =>
      have : q = r := Option.some.inj h
      rw [← this]
      exact hs q (by simp)
theorem loadL_sound {g : Lg} (hb : BytS g.D.S) {id : Int} {r : Rc} (h : loadL g id = some r) : soundR r ∧ FitR r := by
  unfold loadL at h
  split at h
  · exact rdL_sound hb h
  · cases h
theorem encO_sound {r : Rc} (h : soundR r) : encO r = encR r := by unfold encO; rw [if_pos h]
theorem recsL_sound {g : Lg} (hb : BytS g.D.S) (ho : IxOk g.x) : ∀ x ∈ recsL g, ∃ r, soundR r ∧ x.2 = encR r := by
  intro x hx
  unfold recsL at hx
  rcases List.mem_append.1 hx with hx | hx
  · rcases List.mem_append.1 hx with hx | hx
    · obtain ⟨id, _, h⟩ := List.mem_filterMap.1 hx
      unfold recP at h
      obtain ⟨r, hr, rfl⟩ := Option.map_eq_some_iff.1 h
      obtain ⟨s1, s2, s3, s4, s5, s6, s7, s8⟩ := (loadL_sound hb hr).1
      have hs : soundR ⟨1, r.id, r.host, r.path, r.prio, r.till⟩ := ⟨by show (1 : Int) ≤ 1; decide, by show (1 : Int) ≤ 3; decide, s3, s4, s5, s6, s7, s8⟩
      exact ⟨_, hs, encO_sound hs⟩
    · obtain ⟨s, hs, rfl⟩ := List.mem_map.1 hx
      rw [srtS_mem] at hs
      have hg := gA_keys.1 hs
      obtain ⟨v, hv⟩ := Option.isSome_iff_exists.1 hg
      obtain ⟨_, h0, _, h2⟩ := ho.waits s v hv
      have hw : waitI g.x s = v := by unfold waitI; rw [hv]; rfl
      have hs : soundR ⟨3, 0, s, ⟨#[]⟩, 0, v.till⟩ := ⟨by show (1 : Int) ≤ 3; decide, by show (3 : Int) ≤ 3; decide, by show (0 : Int) ≤ 0; decide, h0, by show (0 : Int) ≤ 0; decide, by show (0 : Int) ≤ 7; decide, h2, by show (0 : Nat) ≤ 768; decide⟩
      refine ⟨_, hs, ?_⟩
      unfold recW
      rw [hw]
      exact encO_sound hs
  · unfold recT at hx
    split at hx
    · rw [List.mem_singleton] at hx
      have hs : soundR ⟨2, g.x.top, ⟨#[]⟩, ⟨#[]⟩, 0, 0⟩ := ⟨by show (1 : Int) ≤ 2; decide, by show (2 : Int) ≤ 3; decide, ho.top0, by show (0 : Int) ≤ 0; decide, by show (0 : Int) ≤ 0; decide, by show (0 : Int) ≤ 7; decide, by show (0 : Nat) ≤ 256; decide, by show (0 : Nat) ≤ 768; decide⟩
      rw [hx]
      exact ⟨_, hs, encO_sound hs⟩
    · cases hx
theorem packStep_P {P : List Int → Prop} (hP : ∀ a b, P a → P b → P (a ++ b)) {cs : List (List Int)} {b : List Int} (h : ∀ c ∈ cs, P c) (hb : P b) : ∀ c ∈ packStep cs b, P c := by
  unfold packStep
  split
  · intro c hc
    rcases List.mem_append.1 hc with hc | hc
    · exact h c hc
    · rw [List.mem_singleton] at hc
      rw [hc]; exact hb
  · rename_i i hi
    intro c hc
    rcases List.mem_or_eq_of_mem_set hc with hc | hc
    · exact h c hc
    · rw [hc]
      obtain ⟨hlt, _⟩ := List.findIdx?_eq_some_iff_getElem.1 hi
      refine hP _ _ ?_ hb
      rw [List.getD_eq_getElem?_getD, List.getElem?_eq_getElem hlt]
      exact h _ (List.getElem_mem hlt)
theorem packFold_P {P : List Int → Prop} (hP : ∀ a b, P a → P b → P (a ++ b)) : ∀ {bs : List (List Int)} {cs : List (List Int)}, (∀ c ∈ cs, P c) → (∀ b ∈ bs, P b) → ∀ c ∈ bs.foldl packStep cs, P c
  | [], cs, h, _ => h
  | b :: t, cs, h, hb => packFold_P hP (bs := t) (packStep_P hP h (hb b List.mem_cons_self)) (fun x hx => hb x (List.mem_cons_of_mem _ hx))
theorem packL_ok {g : Lg} (hb : BytS g.D.S) (ho : IxOk g.x) : ∀ c ∈ packL g, Byts c ∧ 0 < c.length := by
  unfold packL
  refine packFold_P (P := fun c => Byts c ∧ 0 < c.length) (fun a b ha hb => ⟨ha.1.append hb.1, by rw [List.length_append]; omega⟩) (fun c hc => by cases hc) (fun b hb2 => ?_)
  obtain ⟨x, hx, rfl⟩ := List.mem_map.1 hb2
  obtain ⟨r, hr, he⟩ := recsL_sound hb ho x ((sortedL_perm g).mem_iff.1 hx)
  rw [he]
  exact ⟨recB_byts (contR_byts hr), by have := encR_ge r; omega⟩
/-- The loop. -/
structure RwS (w w2 : World) (RD : Nat → Prop) (d : Nat) (F : Ds × List Int × Int) (a0 : Option Addr) (ch : List (List Int)) (k m c : Nat) (a : Option Addr) (all : List Int) (Rk : Nat → Prop) (Dk : Ds) (wr : World) : Prop where
  dk : DkM wr Rk d Dk
  only : Only (fun k => RD k ∨ a0 = some ⟨k, 0, none⟩) w2 wr
  new : ∀ k, Rk k → RD k ∨ w2.heap.size ≤ k
  row : Own wr w.heap.size 3 1 a m c (inL all)
  len : all.length = m
  addr : ∀ g, a = some ⟨g, 0, none⟩ → ¬ Rk g ∧ (a0 = some ⟨g, 0, none⟩ ∨ w2.heap.size ≤ g)
  ok : ∀ v ∈ all, okI v ∧ 0 ≤ v
  eq : rewL Dk all (ch.drop k) = F
theorem followL_ok {l : List Int} (h : ∀ v ∈ l, okI v ∧ 0 ≤ v) : okI (followL l).1 ∧ 0 ≤ (followL l).1 := by
  unfold followL
  split
  · exact ⟨okI_of (by decide) (by decide), by decide⟩
  · rename_i v hv
    obtain ⟨h1, h2⟩ := h v (List.mem_of_getLast? hv)
    have := okI_iff h1
    split
    · exact ⟨okI_of (by decide) (by decide), by decide⟩
    · exact ⟨okI_of (by dsimp only; omega) (by dsimp only; omega), by dsimp only; omega⟩
def FreshP (w : World) (RD : Nat → Prop) (d : Nat) (F : Ds × List Int × Int) (N : Nat) (w' : World) (M : Nat) (a : Option Addr) : Prop :=
  ∃ RD', DkM w' RD' d F.1 ∧ TurnR RD w RD' w' ∧ (F.2.1.drop N).length = M ∧ RdC w' a (inL (F.2.1.drop N)) ∧ (∀ v ∈ F.2.1.drop N, okI v ∧ 0 ≤ v) ∧ M ≤ 3000000 ∧ ∀ g off, a = some ⟨g, off, none⟩ → w.heap.size ≤ g ∧ ¬ RD' g
theorem RwS.fresh {w w2 : World} {RD : Nat → Prop} {d : Nat} {F : Ds × List Int × Int} {a0 : Option Addr} {ch : List (List Int)} {k m c N : Nat} {a : Option Addr} {all : List Int} {Rk : Nat → Prop} {Dk : Ds} {wr w' : World} {RX : Nat → Prop} {DX : Ds} (h : RwS w w2 RD d F a0 ch k m c a all Rk Dk wr) (hw2 : Below w.heap.size w w2) (hRD : ∀ k, RD k → k < w.heap.size) (ha0 : ∀ g, a0 = some ⟨g, 0, none⟩ → w.heap.size ≤ g)
    (hd : DkM w' RX d DX) (ht : TurnR Rk wr RX w') (hF : F.1 = DX ∧ F.2.1 = all) (hm : m ≤ 3000000) {a' : Option Addr} (hr : RdC wr a' (inL (all.drop N))) (ha : ∀ g off, a' = some ⟨g, off, none⟩ → a = some ⟨g, 0, none⟩) : FreshP w RD d F N w' (m - N) a' := by
  obtain ⟨hF1, hF2⟩ := hF
  have hag : ∀ g off, a' = some ⟨g, off, none⟩ → w.heap.size ≤ g ∧ g < wr.heap.size ∧ ¬ Rk g := fun g off e => by
    have e2 := ha g off e
    exact ⟨(own_lt h.row e2).2, (own_lt h.row e2).1, (h.addr g e2).1⟩
  refine ⟨RX, hF1 ▸ hd, ⟨?_, fun x hx => ?_⟩, by rw [hF2, List.length_drop, h.len], ?_, fun v hv => h.ok v (by rw [hF2] at hv; exact List.mem_of_mem_drop hv), by omega, fun g off e => ?_⟩
  · have o1 : Only (fun k => RD k ∨ a0 = some ⟨k, 0, none⟩) w2 w' := h.only.trans ht.only (fun x hx => by
      rcases h.new x hx with h1 | h1
      · exact Or.inl (Or.inl h1)
      · exact Or.inr h1)
    refine ⟨o1.os.trans hw2.os, o1.tape.trans hw2.tape, o1.output.trans hw2.output, Nat.le_trans hw2.size o1.size, fun i hi hne => ?_⟩
    refine (o1.block i (Nat.lt_of_lt_of_le hi hw2.size) (fun e => ?_)).trans (hw2.block i hi)
    rcases e with e | e
    · exact hne e
    · have := ha0 i e; omega
  · rcases ht.new x hx with h1 | h1
    · rcases h.new x h1 with h2 | h2
      · exact Or.inl h2
      · exact Or.inr (Nat.le_trans hw2.size h2)
    · exact Or.inr (Nat.le_trans (Nat.le_trans hw2.size h.only.size) h1)
  · rw [hF2]
    exact hr.only ht.only (fun g off e => (hag g off e).2.2)
  · obtain ⟨h1, h2, h3⟩ := hag g off e
    refine ⟨h1, fun e2 => ?_⟩
    rcases ht.new g e2 with h4 | h4
    · exact h3 h4
    · omega
set_option maxHeartbeats 8000000 in
theorem rewrite_at {w : World} {RD RL : Nat → Prop} {d L : Nat} {g : Lg} (h : LgM w RD RL d L g) (hf : Few g.x) {N oc : Nat} {oa : Option Addr} (hr : RdC w oa (inL (segsL g.D))) (hN : (segsL g.D).length = N) (hz : oa = none → N = 0 ∧ oc = 0) (hgn : g.n ≤ 1000) :
    Calls Tryz.prog 48 #[.pointer (some ⟨L, 0, none⟩), .slice oa N oc] w fun e w' => ∃ (M c : Nat) (a : Option Addr), e = .returned (.tuple #[.slice a M c, .int .i64 (rewriteL g).2.2]) ∧ ∃ RD', DkM w' RD' d (rewriteL g).1 ∧ TurnR RD w RD' w' ∧ (rewriteL g).2.1.length = M ∧ RdC w' a (inL (rewriteL g).2.1) ∧ (∀ v ∈ (rewriteL g).2.1, okI v ∧ 0 ≤ v) ∧ M ≤ 3000000 ∧ ∀ g off, a = some ⟨g, off, none⟩ → w.heap.size ≤ g ∧ ¬ RD' g := by
  obtain ⟨X, hX⟩ : ∃ X, rewriteL g = X := ⟨_, rfl⟩
  rw [hX]
  obtain ⟨F, hF⟩ : ∃ F, rewL g.D (segsL g.D) (packL g) = F := ⟨_, rfl⟩
  obtain ⟨n, hn⟩ : ∃ n, g.n = n := ⟨_, rfl⟩
  have hn1000 : n ≤ 1000 := hn ▸ hgn
  have HX : Hid (X = if n < ((packL g).length : Int) then (g.D, [], 5) else (F.1, F.2.1.drop N, F.2.2)) := Lib.hid (by rw [← hX, ← hF, ← hn, ← hN]; rfl)
  have PK := Lib.hid (pack_at h hf)
  have G := Lib.hid h
  have POK := Lib.hid (packL_ok h.dk.byt h.lx.ok)
  have SOK := Lib.hid h.dk.segs_ok
  have hN16 : N ≤ 16 := by rw [← hN]; unfold segsL; rw [List.length_map]; exact h.dk.cnt
  have CL := Lib.hid (fun (W : World) (hW : Below w.heap.size w W) => clone_at (w := W) (a := oa) (c := oc) hN (by omega) (hr.later hW) hz)
  have HN := Lib.hid hN
  have HF := Lib.hid hF
  obtain ⟨pm, wm, hi, hmi⟩ := h.lx.ix
  have BL := Lib.hid hi.box
  have HLr := Lib.hid (hmi L (Or.inl rfl))
  rw [hn] at BL
  have mixed : Tryz.prog.follows .mixedOrders = true := by kernel_rfl
  clear hX hF hn hi hmi h hf hr hN hz hgn
  go_enter Tryz.func48, Tryz.ntmps48
  go_wp2_with fail
  refine PK.out.mono ?_
  rintro e w1 ⟨m, c1, a1, cs, rfl, hm, ho, hl, hfa, hsm, heq, hb⟩
  have B1 := Lib.hid hb
  have HL := Lib.hid hl
  have CSM := Lib.hid hsm
  have CEQ := Lib.hid heq
  have CRW := Lib.hid ho
  have CFA := Lib.hid hfa
  have hml : (packL g).length = m := by rw [← heq, List.length_map, hl]
  rw [hml] at HX
  clear PK ho hl hfa hsm heq hb hml
  have l1 : w1.cell? ⟨L, 1, none⟩ = some (.int .i64 n) := (BL.out.later B1.out).cell 1
  by_cases hbig : n < (m : Int)
  · have dd : decide ((m : Int) > n) = true := decide_eq_true hbig
    have dd' : decide (n < (m : Int)) = true := dd
    have FIN : Hid (X = (g.D, [], 5) ∧ DkM w1 RD d g.D ∧ TurnR RD w RD w1) := Lib.hid ⟨by rw [HX.out, if_pos hbig], G.out.dk.later B1.out, TurnR.later B1.out⟩
    go_wp2_with fail
    go_ret2
    obtain ⟨rfl, q1, q2⟩ := FIN.out
    exact ⟨0, 0, none, rfl, RD, q1, q2, rfl, (fun j u hj => by simp [inL] at hj), (fun v hv => by cases hv), by decide, (fun g off e => by cases e)⟩
  · have hm9 : m ≤ 1000 := by omega
    have dd : decide ((m : Int) > n) = false := decide_eq_false hbig
    have dd' : decide (n < (m : Int)) = false := dd
    have HX2 : Hid (X = (F.1, F.2.1.drop N, F.2.2)) := Lib.hid (by rw [HX.out, if_neg hbig])
    have CL1 := Lib.hid (CL.out w1 B1.out)
    clear HX CL
    go_wp2_with fail
    refine CL1.out.mono ?_
    rintro e w2 ⟨a0, c0, rfl, ho, hb⟩
    have B2 := Lib.hid (B1.out.trans (hb.mono B1.out.size))
    have OLD : Hid (Own w2 w.heap.size 3 1 a0 N c0 (inL (segsL g.D))) := Lib.hid (ho.mono B1.out.size)
    have CRW2 := Lib.hid (CRW.out.later hb)
    have CFA2 := Lib.hid (CFA.out.later hb)
    have A0 : Hid (∀ g, a0 = some ⟨g, 0, none⟩ → w.heap.size ≤ g) := Lib.hid (fun g hg => (own_lt OLD.out hg).2)
    have ST : Hid (RwS w w2 RD d F a0 (packL g) 0 N c0 a0 (segsL g.D) RD g.D w2) := Lib.hid ⟨G.out.dk.later B2.out, Only.refl _ _, fun k hk => Or.inl hk, OLD.out, HN.out, fun g' hg => ⟨fun e => by have := G.out.dk.lt g' e; have := A0.out g' hg; omega, Or.inl hg⟩, SOK.out, HF.out⟩
    have LCELL : Hid (∀ W, Only (fun k => RD k ∨ a0 = some ⟨k, 0, none⟩) w2 W → W.cell? ⟨L, 0, none⟩ = some (.pointer (some ⟨d, 0, none⟩))) := Lib.hid (fun W hW => by
      have hbx := (BL.out.later B2.out).only hW (fun e => by
        rcases e with e | e
        · exact G.out.ap L e HLr.out
        · have := A0.out L e
          have := BL.out.lt
          omega)
      exact hbx.cell 0)
    have CHK : Hid (∀ W, Only (fun k => RD k ∨ a0 = some ⟨k, 0, none⟩) w2 W → Own W w.heap.size 55 1 a1 m c1 (cs.map byV) ∧ ∀ x ∈ cs, Own W w.heap.size 5 1 x.a x.n x.c (u8L x.b)) := Lib.hid (fun W hW => by
      have hge : ∀ k, RD k → k < w.heap.size := G.out.dk.lt
      refine ⟨CRW2.out.only hW (fun k hk e => ?_), fun x hx => ((CFA2.out.own x hx).2).only hW (fun k hk e => ?_)⟩
      · rcases e with e | e
        · have := hge k e; have := (own_lt CRW2.out hk).2; omega
        · exact own_apart CRW2.out OLD.out hk e (by decide)
      · rcases e with e | e
        · have := hge k e; have := (own_lt (CFA2.out.own x hx).2 hk).2; omega
        · exact own_apart (CFA2.out.own x hx).2 OLD.out hk e (by decide))
    have CLT : Hid (∀ x ∈ cs, ∀ g, x.a = some ⟨g, 0, none⟩ → w.heap.size ≤ g ∧ g < w2.heap.size) := Lib.hid (fun x hx g hg => ⟨(own_lt (CFA2.out.own x hx).2 hg).2, (own_lt (CFA2.out.own x hx).2 hg).1⟩)
    clear CL1 ho hb l1 OLD CRW CFA CRW2 CFA2 HF
    go_wp2_with fail
    go_loopw [7, 26] (fun va vi wr => ∃ (k q c : Nat) (a : Option Addr) (all : List Int) (Rk : Nat → Prop) (Dk : Ds), va = .slice a q c ∧ vi = .int .i64 (k : Int) ∧ k ≤ m ∧ Hid (q = N + k) ∧ Hid (RwS w w2 RD d F a0 (packL g) k q c a all Rk Dk wr)) (fun _ vi _ => m - (intV vi).toNat)
    case atStart => exact ⟨0, N, c0, a0, segsL g.D, RD, g.D, rfl, rfl, Nat.zero_le _, Lib.hid rfl, ST⟩
    case round =>
      clear ST
      obtain ⟨k, q, c, a, all, Rk, Dk, rfl, rfl, hk, HQ, HS⟩ := hrel
      have hq9 : q ≤ 1100 := by have := HQ.out; omega
      by_cases hkm : k < m
      · have d1 : decide ((k : Int) < (m : Int)) = true := decide_eq_true (by omega)
        have d1n : decide (k < m) = true := decide_eq_true hkm
        obtain ⟨x, hxk⟩ : ∃ x, cs[k]? = some x := ⟨_, List.getElem?_eq_getElem (by rw [HL.out]; exact hkm)⟩
        have hcr := (CHK.out wr HS.out.only).1
        obtain ⟨g9, hg9, _, _⟩ := hcr.some_ (by omega)
        have XO := Lib.hid ((CHK.out wr HS.out.only).2 x (List.mem_of_getElem? hxk))
        have hxs := CSM.out x (List.mem_of_getElem? hxk)
        have XL := Lib.hid (CLT.out x (List.mem_of_getElem? hxk))
        have hpk : (packL g)[k]? = some x.b := by rw [← CEQ.out, List.getElem?_map, hxk]; rfl
        have XP := Lib.hid (POK.out x.b (List.mem_of_getElem? hpk))
        have XN : Hid (x.b.length = x.n) := Lib.hid (by
          have h9 := XO.out.len
          rw [u8L_len] at h9
          omega)
        have HDR : Hid (rewL Dk all (x.b :: (packL g).drop (k + 1)) = F) := Lib.hid (by
          have h9 := HS.out.eq
          obtain ⟨hlt, hge⟩ := List.getElem?_eq_some_iff.1 hpk
          rw [List.drop_eq_getElem_cons hlt, hge] at h9
          exact h9)
        subst hg9
        have ck := hcr.cell (j := k) (u := byV x) (by rw [List.getElem?_map, hxk]; rfl)
        have ik0 : (0 : Int) ≤ (k : Int) := by omega
        have ik1 : (k : Int) < (m : Int) := by omega
        have l0 := LCELL.out wr HS.out.only
        obtain ⟨xa, xn, xc, xb⟩ := x
        unfold byV at ck
        dsimp only at ck hxs
        have FO := Lib.hid (following_at all q c a wr HS.out.len (by omega) (rdC_of_own HS.out.row (by decide)) (fun v hv => okI_iff (HS.out.ok v hv).1))
        have FOK := Lib.hid (followL_ok HS.out.ok)
        obtain ⟨FF, hFF⟩ : ∃ FF, followL all = FF := ⟨_, rfl⟩
        rw [hFF] at FO FOK
        have HFF := Lib.hid hFF
        clear hxk hpk hcr hFF
        go_wp2_with fail
        refine FO.out.mono ?_
        rintro e w3 ⟨rfl, hw3⟩
        subst hw3
        clear FO
        obtain ⟨f1, f2⟩ := FF
        dsimp only at FOK
        cases f2 with
        | false =>
          have EF : Hid (F = (Dk, all, 5)) := Lib.hid (by
            rw [← HDR.out]
            unfold rewL
            rw [HFF.out, if_neg (by simp)])
          obtain ⟨a', c', PS, hrd, hag⟩ := from_of (k := N) HS.out.row HS.out.len (by have := HQ.out; omega)
          have FIN : Hid (FreshP w RD d F N w3 (q - N) a') := Lib.hid (HS.out.fresh B2.out G.out.dk.lt A0.out HS.out.dk (TurnR.later (Below.refl _ _)) (by rw [EF.out]; exact ⟨rfl, rfl⟩) (by omega) hrd hag)
          clear hrd hag HDR HFF
          have hqn : q - N = k := by have := HQ.out; omega
          rw [hqn] at PS FIN
          go_wp2_with fail
          go_ret2
          obtain ⟨RD', q1, q2, q3, q4, q5, q6, q7⟩ := FIN.out
          refine ⟨_, c', a', by rw [HX2.out, EF.out]; rfl, ?_⟩
          rw [HX2.out]
          exact ⟨RD', q1, q2, q3, q4, q5, q6, q7⟩
        | true =>
          have AP := Lib.hid (kapp_at HS.out.dk f1 FOK.out.2 FOK.out.1 xb XP.out.1 XP.out.2 xn XN.out (by omega) xa xc (rdC_of_own XO.out (by decide)) (fun g off e hR => by
            obtain ⟨h7, h8⟩ : off = 0 ∧ True := ⟨by
              rcases XO.out.form with ⟨h7, _⟩ | ⟨g', h7, _, _⟩
              · rw [e] at h7; cases h7
              · rw [e] at h7; injection h7 with h7; injection h7, trivial⟩
            subst h7
            obtain ⟨h5, h6⟩ := XL.out g e
            rcases HS.out.new g hR with h4 | h4
            · have := G.out.dk.lt g h4; omega
            · omega))
          obtain ⟨Y, hY⟩ : ∃ Y, appD Dk f1 xb = Y := ⟨_, rfl⟩
          rw [hY] at AP
          have HD2 : Hid (F = if Y.2 = 0 then rewL Y.1 (all ++ [f1]) ((packL g).drop (k + 1)) else (Y.1, all, Y.2)) := Lib.hid (by
            rw [← HDR.out, ← hY]
            conv => lhs; unfold rewL
            rw [HFF.out, if_pos rfl])
          obtain ⟨D2, e2⟩ := Y
          dsimp only at AP HD2
          clear hY HDR HFF ck
          go_wp2_with fail
          refine AP.out.mono ?_
          rintro e w4 ⟨rfl, hak⟩
          obtain ⟨R4, hd4, ht4⟩ := hak
          have O4 : Hid (Only (fun k => RD k ∨ a0 = some ⟨k, 0, none⟩) w2 w4) := Lib.hid (HS.out.only.trans ht4.only (fun y hy => by
            rcases HS.out.new y hy with h1 | h1
            · exact Or.inl (Or.inl h1)
            · exact Or.inr h1))
          have N4 : Hid (∀ k, R4 k → RD k ∨ w2.heap.size ≤ k) := Lib.hid (fun y hy => by
            rcases ht4.new y hy with h1 | h1
            · exact HS.out.new y h1
            · exact Or.inr (Nat.le_trans HS.out.only.size h1))
          have ROW4 : Hid (Own w4 w.heap.size 3 1 a q c (inL all)) := Lib.hid (HS.out.row.only ht4.only (fun y hy => (HS.out.addr y hy).1))
          have AD4 : Hid (∀ g, a = some ⟨g, 0, none⟩ → ¬ R4 g ∧ (a0 = some ⟨g, 0, none⟩ ∨ w2.heap.size ≤ g)) := Lib.hid (fun y hy => ⟨fun e => by
            rcases ht4.new y e with h1 | h1
            · exact (HS.out.addr y hy).1 h1
            · have := (own_lt HS.out.row hy).1; omega, (HS.out.addr y hy).2⟩)
          by_cases hz : e2 = 0
          · have dz : (e2 != 0) = false := by simp [hz]
            have HD3 : Hid (rewL D2 (all ++ [f1]) ((packL g).drop (k + 1)) = F) := Lib.hid (by rw [HD2.out, if_pos hz])
            have HLN := Lib.hid HS.out.len
            have HOK := Lib.hid HS.out.ok
            have HD4 := Lib.hid hd4
            have hB4 : w.heap.size ≤ w4.heap.size := Nat.le_trans B2.out.size O4.out.size
            have HZ : Hid (inL all ++ #[Value.int .i64 f1].toList = inL (all ++ [f1])) := Lib.hid (by unfold inL; simp)
            have NEXT : Hid (∀ (w5 : World) (g5 c5 : Nat), Own w5 w.heap.size 3 1 (some ⟨g5, 0, none⟩) (q + 1) c5 (inL (all ++ [f1])) → w4.grownBy w5 (a.map (·.block)) → (a.map (·.block) = some g5 ∨ g5 = w4.heap.size + 1) → RwS w w2 RD d F a0 (packL g) (k + 1) (q + 1) c5 (some ⟨g5, 0, none⟩) (all ++ [f1]) R4 D2 w5) := Lib.hid (fun w5 g5 c5 k1 k2 k3 => by
              have hga : ∀ {k : Nat}, a.map (·.block) = some k → a = some ⟨k, 0, none⟩ := fun hk => own_block5 ROW4.out hk
              have ho : Only (fun k => a = some ⟨k, 0, none⟩) w4 w5 := Only.of_grown k2 (fun k hk => hga hk)
              refine ⟨HD4.out.only ho (fun y hy e => (AD4.out y e).1 hy), O4.out.trans ho (fun y hy => ?_), N4.out, k1, by rw [List.length_append, HLN.out]; rfl, fun y hy => ?_, fun v hv => ?_, HD3.out⟩
              · rcases (AD4.out y hy).2 with h1 | h1
                · exact Or.inl (Or.inr h1)
                · exact Or.inr h1
              · injection hy with hy
                injection hy with hy
                subst hy
                rcases k3 with k3 | k3
                · exact AD4.out _ (hga k3)
                · refine ⟨fun e => ?_, Or.inr ?_⟩
                  · have := HD4.out.lt _ e; omega
                  · have := O4.out.size; omega
              · rcases List.mem_append.1 hv with hv | hv
                · exact HOK.out v hv
                · rw [List.mem_singleton] at hv
                  rw [hv]
                  exact ⟨FOK.out.1, FOK.out.2⟩)
            clear hd4 ht4 HS HD2 HD3 AP XO
            go_wp2_with (at_builtin; refine wpList_app1 rowI rfl _ _ rfl w.heap.size a q c _ rfl ROW4.out #[.int .i64 f1] rfl rfl (by simp [Value.oneCell']) (by omega) (by decide) hB4 (q + 1) rfl _ HZ.out ?_; rintro g5 c5 w5 k1 k2 k3 k4; have NX := Lib.hid (NEXT.out _ _ _ k1 k2 k4); clear k1 k2 k3 k4 ROW4)
            go_roundw
            case rel => exact ⟨k + 1, q + 1, c5, _, _, R4, D2, rfl, by go_num, by omega, Lib.hid (by have := HQ.out; omega), NX⟩
            case measure => simp [intV]; omega
          · have dz : (e2 != 0) = true := by simp [hz]
            have EF : Hid (F = (D2, all, e2)) := Lib.hid (by rw [HD2.out, if_neg hz])
            obtain ⟨a', c', PS, hrd, hag⟩ := from_of (k := N) HS.out.row HS.out.len (by have := HQ.out; omega)
            have FIN : Hid (FreshP w RD d F N w4 (q - N) a') := Lib.hid (HS.out.fresh B2.out G.out.dk.lt A0.out hd4 ht4 (by rw [EF.out]; exact ⟨rfl, rfl⟩) (by omega) hrd hag)
            have hqn : q - N = k := by have := HQ.out; omega
            rw [hqn] at PS FIN
            clear hrd hag hd4 ht4 HS HD2 AP XO
            go_wp2_with fail
            go_ret2
            obtain ⟨RD', q1, q2, q3, q4, q5, q6, q7⟩ := FIN.out
            refine ⟨_, c', a', by rw [HX2.out, EF.out]; rfl, ?_⟩
            rw [HX2.out]
            exact ⟨RD', q1, q2, q3, q4, q5, q6, q7⟩
      · have d1 : decide ((k : Int) < (m : Int)) = false := decide_eq_false (by omega)
        have hkk : k = m := by omega
        have SY := Lib.hid (ksync_at (HS.out.dk.later (Below.refl _ _).drew))
        obtain ⟨Y, hY⟩ : ∃ Y, syncD Dk = Y := ⟨_, rfl⟩
        rw [hY] at SY
        have EF : Hid (F = (Y.1, all, Y.2)) := Lib.hid (by
          rw [← HS.out.eq, List.drop_of_length_le (by rw [← CEQ.out, List.length_map, HL.out]; omega), ← hY]
          rfl)
        obtain ⟨D2, e2⟩ := Y
        dsimp only at SY EF
        obtain ⟨a', c', PS, hrd, hag⟩ := from_of (k := N) HS.out.row HS.out.len (by have := HQ.out; omega)
        have FIN : Hid (∀ (w9 : World) (RX : Nat → Prop), DkM w9 RX d D2 → TurnR Rk wr.drew RX w9 → Ending.returned (.tuple #[.slice a' (q - N) c', .int .i64 e2]) = .returned (.tuple #[.slice a' (q - N) c', .int .i64 X.2.2]) ∧ ∃ RD', DkM w9 RD' d X.1 ∧ TurnR RD w RD' w9 ∧ X.2.1.length = q - N ∧ RdC w9 a' (inL X.2.1) ∧ (∀ v ∈ X.2.1, okI v ∧ 0 ≤ v) ∧ (q - N) ≤ 3000000 ∧ ∀ g off, a' = some ⟨g, off, none⟩ → w.heap.size ≤ g ∧ ¬ RD' g) := Lib.hid (fun w9 RX k1 k2 => by
          refine ⟨by rw [HX2.out, EF.out], ?_⟩
          rw [HX2.out]
          exact HS.out.fresh B2.out G.out.dk.lt A0.out k1 ((TurnR.later (Below.refl _ _).drew).trans k2) (by rw [EF.out]; exact ⟨rfl, rfl⟩) (by omega) hrd hag)
        have l0 : wr.drew.cell? ⟨L, 0, none⟩ = some (.pointer (some ⟨d, 0, none⟩)) := LCELL.out wr HS.out.only
        have HNW := Lib.hid HS.out.new
        have HON := Lib.hid HS.out.only
        have LC2 : Hid (∀ W, Only Rk wr.drew W → W.cell? ⟨L, 0, none⟩ = some (.pointer (some ⟨d, 0, none⟩))) := Lib.hid (fun W hW => LCELL.out W ((HON.out.later (Below.refl _ _).drew).trans hW (fun y hy => by
            rcases HNW.out y hy with h1 | h1
            · exact Or.inl (Or.inl h1)
            · exact Or.inr h1)))
        obtain ⟨z, hz⟩ : ∃ z, q - N = z := ⟨_, rfl⟩
        rw [hz] at PS FIN
        clear hrd hag HS hY hz
        go_upto_region 16 with fail
        refine wp_region_last 10 (fun w' => w'.cell? ⟨L, 0, none⟩ = some (.pointer (some ⟨d, 0, none⟩))) (by kernel_rfl) (l0) (fun hHeld hClosed => ?_)
        refine wtk (i := 0) (v := ?_) rfl hClosed (Or.inl ⟨by rfl, ?_⟩) hHeld (fun hClosed => ?_)
        rotate_left
        · intro wv hSw; go_simp; all_goals (with_reducible rfl)
        (try simp only [List.getElem_toArray, List.getElem_cons_zero, put_at, List.set])
        refine wtk (i := 1) (v := ?_) rfl hClosed (Or.inl ⟨by rfl, ?_⟩) hHeld (fun hClosed => ?_)
        rotate_left
        · intro wv hSw; go_simp; all_goals (with_reducible rfl)
        (try simp only [List.getElem_toArray, List.getElem_cons_succ, List.getElem_cons_zero, put_at, List.set])
        refine wtk (i := 4) (v := ?_) rfl hClosed (Or.inl ⟨by rfl, ?_⟩) hHeld (fun hClosed => ?_)
        rotate_left
        · intro wv hSw; go_simp; all_goals (with_reducible rfl)
        (try simp only [List.getElem_toArray, List.getElem_cons_succ, List.getElem_cons_zero, put_at, List.set])
        refine wtk (i := 5) (v := ?_) rfl hClosed (Or.inl ⟨by rfl, ?_⟩) hHeld (fun hClosed => ?_)
        rotate_left
        · intro wv hSw; go_simp; all_goals (with_reducible rfl)
        (try simp only [List.getElem_toArray, List.getElem_cons_succ, List.getElem_cons_zero, put_at, List.set])
        refine wtk (i := 6) (v := ?_) rfl hClosed (Or.inl ⟨by rfl, ?_⟩) hHeld (fun hClosed => ?_)
        rotate_left
        · intro wv hSw; go_simp; all_goals (with_reducible rfl)
        (try simp only [List.getElem_toArray, List.getElem_cons_succ, List.getElem_cons_zero, put_at, List.set])
        refine wtk (i := 7) (v := ?_) rfl hClosed (Or.inl ⟨by rfl, ?_⟩) hHeld (fun hClosed => ?_)
        rotate_left
        · intro wv hSw; have l09 := hSw; go_simp; all_goals (with_reducible rfl)
        (try simp only [List.getElem_toArray, List.getElem_cons_succ, List.getElem_cons_zero, put_at, List.set])
        refine wpAnyL_two (i := 2) (j := 8) rfl rfl (by kernel_rfl) (by kernel_rfl) (by kernel_rfl) hClosed (fun KK hK => ?_) (fun KK hK => ?_)
        · go_simp
          refine hK.out _ _ ?_ (fun hClosed hHeld => ?_)
          · assumption
          clear hK KK
          (first | simp only [List.getElem_toArray, List.getElem_cons_succ, List.getElem_cons_zero, put_at, List.set] | (try simp only [put_at, List.set]))
          refine wtk (i := 3) (v := .slice a' z c') rfl hClosed (Or.inl ⟨by rfl, ?_⟩) hHeld (fun hClosed => ?_)
          · intro wv hSw; exact exec_slice (by rfl) (by rfl) PS
          (try simp only [List.getElem_toArray, List.getElem_cons_succ, List.getElem_cons_zero, put_at, List.set])
          refine wpAnyL_one (i := 8) rfl (by kernel_rfl) (by kernel_rfl) hClosed (fun KK hK => ?_)
          go_simp
          refine SY.out.mono ?_
          rintro e wx ⟨rfl, hax⟩
          obtain ⟨RX, hdx, htx⟩ := hax
          go_wp2_with fail
          refine hK.out _ _ ?_ (fun hClosed hHeld => ?_)
          · exact LC2.out _ htx.only
          clear hK KK
          (first | simp only [List.getElem_toArray, List.getElem_cons_succ, List.getElem_cons_zero, put_at, List.set] | (try simp only [put_at, List.set]))
          refine wtk (i := 9) (v := ?_) rfl hClosed (Or.inl ⟨by rfl, ?_⟩) hHeld (fun hClosed => ?_)
          rotate_left
          · intro wv hSw; go_simp; all_goals (with_reducible rfl)
          (try simp only [List.getElem_toArray, List.getElem_cons_succ, List.getElem_cons_zero, put_at, List.set])
          refine wpAnyL_last rfl (by kernel_rfl) (by kernel_rfl) (fun KK hK => ?_)
          go_simp
          refine hK.out _ _ ?_
          (try simp only [put_at, List.set])
          obtain ⟨r1, r2⟩ := FIN.out _ _ hdx htx
          clear hdx htx hHeld hClosed
          go_wp2_with fail
          go_ret2
          exact ⟨_, c', a', r1, r2⟩
        · go_simp
          refine SY.out.mono ?_
          rintro e wx ⟨rfl, hax⟩
          obtain ⟨RX, hdx, htx⟩ := hax
          go_wp2_with fail
          refine hK.out _ _ ?_ (fun hClosed hHeld => ?_)
          · exact LC2.out _ htx.only
          clear hK KK
          (first | simp only [List.getElem_toArray, List.getElem_cons_succ, List.getElem_cons_zero, put_at, List.set] | (try simp only [put_at, List.set]))
          refine wpAnyL_one (i := 2) rfl (by kernel_rfl) (by kernel_rfl) hClosed (fun KK hK => ?_)
          go_simp
          refine hK.out _ _ ?_ (fun hClosed hHeld => ?_)
          · assumption
          clear hK KK
          (first | simp only [List.getElem_toArray, List.getElem_cons_succ, List.getElem_cons_zero, put_at, List.set] | (try simp only [put_at, List.set]))
          refine wtk (i := 3) (v := .slice a' z c') rfl hClosed (Or.inl ⟨by rfl, ?_⟩) hHeld (fun hClosed => ?_)
          · intro wv hSw; exact exec_slice (by rfl) (by rfl) PS
          (try simp only [List.getElem_toArray, List.getElem_cons_succ, List.getElem_cons_zero, put_at, List.set])
          refine wtk (i := 9) (v := ?_) rfl hClosed (Or.inl ⟨by rfl, ?_⟩) hHeld (fun hClosed => ?_)
          rotate_left
          · intro wv hSw; go_simp; all_goals (with_reducible rfl)
          (try simp only [List.getElem_toArray, List.getElem_cons_succ, List.getElem_cons_zero, put_at, List.set])
          refine wpAnyL_last rfl (by kernel_rfl) (by kernel_rfl) (fun KK hK => ?_)
          go_simp
          refine hK.out _ _ ?_
          (try simp only [put_at, List.set])
          obtain ⟨r1, r2⟩ := FIN.out _ _ hdx htx
          clear hdx htx hHeld hClosed
          go_wp2_with fail
          go_ret2
          exact ⟨_, c', a', r1, r2⟩
end Go.Proofs.YtimkgaokcldgkaaGreatDoor
