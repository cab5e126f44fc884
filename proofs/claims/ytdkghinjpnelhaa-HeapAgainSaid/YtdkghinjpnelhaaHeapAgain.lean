/- Set again; and in another order. -/
import Derived.Test.YtdkghinjpnelhaaHeapSorts
namespace Go.Proofs.Ytdkghinjpnelhaa
open Go.RowKit Go.Maps Go.WideMaps

theorem lt_total {x y : Int × Int} (h1 : ¬ lt x y) (h2 : ¬ lt y x) : x = y := by
  unfold lt at h1 h2
  exact Prod.ext (by omega) (by omega)
theorem Con.nodup {es : Ents} {f : Int → Option Nat} (h : Con es f) : es.Nodup := by
  refine List.pairwise_iff_getElem.2 (fun i j hi hj hij e => ?_)
  have hi : es[i]? = some es[i] := List.getElem?_eq_getElem hi
  have hj : es[j]? = some es[j] := List.getElem?_eq_getElem hj
  have := h.one hi hj (congrArg Prod.fst e)
  omega
theorem same_len {es es' : Ents} (h : es.Nodup) (h' : es'.Nodup) (hm : ∀ z, z ∈ es ↔ z ∈ es') : es.length = es'.length := ((List.perm_ext_iff_of_nodup h h').2 hm).length_eq

theorem bytes_facts {w : World} {a : Option Addr} {len cap : Nat} {zs : List Int} (h : IsRow .u8 w a len cap zs) :
    ∃ b off, (0 < len → a = some ⟨b, off, none⟩) ∧ len ≤ maxLen ∧ ∀ k, k < len → w.cell? ⟨b, off + k, none⟩ = some (.int .u8 (zs.getD k 0)) ∧ 0 ≤ zs.getD k 0 ∧ zs.getD k 0 ≤ 255 := by
  rcases h with ⟨rfl, rfl, rfl, rfl⟩ | ⟨x, rfl, hlc, hcm, hz, hcell, hwf⟩
  · exact ⟨0, 0, fun h => absurd h (by decide), by decide, fun k h => absurd h (Nat.not_lt_zero k)⟩
  · by_cases hl : 0 < zs.length
    · obtain ⟨b, off, rfl, hc⟩ := ints_at hcell hl
      refine ⟨b, off, fun _ => rfl, by omega, fun k hk => ⟨hc k (by omega), ?_⟩⟩
      have h0 : k < zs.length := by omega
      have h1 := hwf zs[k] (List.getElem_mem h0)
      simp [Lit.wf, IntKind.min, IntKind.max, IntKind.signed, IntKind.bits] at h1
      rw [List.getD_eq_getElem?_getD, List.getElem?_eq_getElem h0, Option.getD_some]
      omega
    · exact ⟨0, 0, fun h => absurd h (by omega), by omega, fun k h => absurd h (by omega)⟩

/-- Two heaps, apart from each other. -/
structure Two (w wx : World) (pa ma : Nat) (aa : Option Addr) (ca : Nat) (ea : Ents) (fa : Int → Option Nat) (Na : Nat) (ka : Int) (Bb pb mb : Nat) (ab : Option Addr) (cb : Nat) (eb : Ents) (fb : Int → Option Nat) (Nb : Nat) (kb : Int) : Prop where
  a : Cont wx w.heap.size pa ma aa ca ea fa Na ka
  b : Cont wx Bb pb mb ab cb eb fb Nb kb
  ap : ∀ k, Mine pa ma aa k → Mine pb mb ab k → False
  hB : w.heap.size ≤ Bb
  hBx : Bb ≤ wx.heap.size
  bel : Below w.heap.size w wx
section
variable {w wx wy : World} {pa ma : Nat} {aa aa' : Option Addr} {ca ca' : Nat} {ea ea' : Ents} {fa fa' : Int → Option Nat} {Na Na' : Nat} {ka ka' : Int} {Bb pb mb : Nat} {ab ab' : Option Addr} {cb cb' : Nat} {eb eb' : Ents} {fb fb' : Int → Option Nat} {Nb Nb' : Nat} {kb kb' : Int}
theorem Two.later (h : Two w wx pa ma aa ca ea fa Na ka Bb pb mb ab cb eb fb Nb kb) (hb : Below wx.heap.size wx wy) : Two w wy pa ma aa ca ea fa Na ka Bb pb mb ab cb eb fb Nb kb :=
  ⟨h.a.later hb, h.b.later hb, h.ap, h.hB, Nat.le_trans h.hBx hb.size, h.bel.trans (hb.mono h.bel.size)⟩
theorem Two.turnA (h : Two w wx pa ma aa ca ea fa Na ka Bb pb mb ab cb eb fb Nb kb) (t : Turn pa ma aa wx aa' wy) (c : Cont wy w.heap.size pa ma aa' ca' ea' fa' Na' ka') : Two w wy pa ma aa' ca' ea' fa' Na' ka' Bb pb mb ab cb eb fb Nb kb := by
  refine ⟨c, h.b.only t.1 h.ap, fun k h1 h2 => ?_, h.hB, Nat.le_trans h.hBx t.1.size, h.bel.trans (t.below h.a.hp h.bel.size)⟩
  rcases t.mine k h1 with e | e
  · exact h.ap k e h2
  · have := (h.b.hp.above h2).2
    omega
theorem Two.turnB (h : Two w wx pa ma aa ca ea fa Na ka Bb pb mb ab cb eb fb Nb kb) (t : Turn pb mb ab wx ab' wy) (c : Cont wy Bb pb mb ab' cb' eb' fb' Nb' kb') : Two w wy pa ma aa ca ea fa Na ka Bb pb mb ab' cb' eb' fb' Nb' kb' := by
  refine ⟨h.a.only t.1 (fun k h1 h2 => h.ap k h2 h1), c, fun k h1 h2 => ?_, h.hB, Nat.le_trans h.hBx t.1.size, h.bel.trans ((t.below h.b.hp h.hBx).mono h.hB)⟩
  rcases t.mine k h2 with e | e
  · exact h.ap k h1 e
  · have := (h.a.hp.above h1).2
    omega
end

/-- The first k keys. -/
def Q1 (zs : List Int) (k : Nat) (es : Ents) (N : Nat) (wk : Int) : Prop := (∀ z, z ∈ es ↔ ∃ j : Nat, j < k ∧ z = ((j : Int), zs.getD j 0)) ∧ es.length = k ∧ N ≤ 410 * k ∧ 0 ≤ wk ∧ wk ≤ 300 * k
/-- Some of n numbers, set i times; those from m on have their keys. -/
def Q2 (zs : List Int) (n m i : Nat) (es : Ents) (N : Nat) (wk : Int) : Prop := (∀ z, z ∈ es → ∃ j : Nat, j < n ∧ z.1 = (j : Int) ∧ (m ≤ j → z.2 = zs.getD j 0)) ∧ (∀ j : Nat, m ≤ j → j < n → ((j : Int), zs.getD j 0) ∈ es) ∧ es.length ≤ i ∧ N ≤ 1000 * i ∧ 0 ≤ wk ∧ wk ≤ 500 * i
theorem Q1.step {wx wy : World} {zs : List Int} {k : Nat} {B p bm : Nat} {a a' : Option Addr} {cap' : Nat} {es es' : Ents} {f' : Int → Option Nat} {N N' : Nat} {wk wk' : Int} (h : Q1 zs k es N wk) (hk : k < 100) (hs : SetC wx wy B p bm a a' cap' es N wk (k : Int) (zs.getD k 0) es' f' N' wk') : Q1 zs (k + 1) es' N' wk' := by
  obtain ⟨_, h2, h3, h4, h5, h6, _⟩ := hs
  obtain ⟨g1, g2, g3, g4, g5⟩ := h
  have hno : ∀ k', ((k : Int), k') ∉ es := by
    intro k' e
    obtain ⟨j, hj, e⟩ := (g1 _).1 e
    injection e with e1 _
    omega
  have hl : es'.length = k + 1 := by
    rcases h3 with ⟨_, k', e⟩ | ⟨e, _⟩
    · exact absurd e (hno k')
    · rw [e, g2]
  have hd := digs_le es'.length
  refine ⟨fun z => ?_, hl, by omega, by omega, by omega⟩
  rw [h2 z]
  constructor
  · rintro (⟨e, _⟩ | rfl)
    · obtain ⟨j, hj, e⟩ := (g1 _).1 e
      exact ⟨j, by omega, e⟩
    · exact ⟨k, by omega, rfl⟩
  · rintro ⟨j, hj, rfl⟩
    by_cases e : j = k
    · subst e
      exact Or.inr rfl
    · exact Or.inl ⟨(g1 _).2 ⟨j, by omega, rfl⟩, fun e2 => e (Int.ofNat.inj e2)⟩
theorem Q2.step {wx wy : World} {zs : List Int} {n m m' i : Nat} {B p bm : Nat} {a a' : Option Addr} {cap' : Nat} {es es' : Ents} {f' : Int → Option Nat} {N N' : Nat} {wk wk' : Int} (h : Q2 zs n m i es N wk) (hi : i < 200) {j : Nat} {z : Int} (hj : j < n) (hm : m' = m ∧ j < m ∨ m' = j ∧ m = j + 1 ∧ z = zs.getD j 0) (hs : SetC wx wy B p bm a a' cap' es N wk (j : Int) z es' f' N' wk') : Q2 zs n m' (i + 1) es' N' wk' := by
  obtain ⟨_, h2, h3, h4, h5, h6, _⟩ := hs
  obtain ⟨g1, g2, g3, g4, g5, g6⟩ := h
  have hl : es'.length ≤ i + 1 := by
    rcases h3 with ⟨e, _⟩ | ⟨e, _⟩ <;> omega
  have hd := digs_le es'.length
  refine ⟨fun x hx => ?_, fun l hl1 hl2 => ?_, hl, by omega, by omega, by omega⟩
  · rcases (h2 x).1 hx with ⟨hx, hne⟩ | rfl
    · obtain ⟨l, h1, h2, h3⟩ := g1 x hx
      refine ⟨l, h1, h2, fun hml => h3 ?_⟩
      have hlj : l ≠ j := fun e => hne (by rw [h2, e])
      omega
    · refine ⟨j, hj, rfl, fun hmj => ?_⟩
      rcases hm with ⟨_, e⟩ | ⟨_, _, e⟩
      · omega
      · exact e
  · rw [h2]
    by_cases e : l = j
    · subst e
      rcases hm with ⟨_, e⟩ | ⟨_, _, e⟩
      · omega
      · exact Or.inr (by rw [e])
    · exact Or.inl ⟨g2 l (by omega) hl2, fun e2 => e (Int.ofNat.inj e2)⟩
/-- The same entries in both. -/
def Q3 (n m : Nat) (ea eb : Ents) (Na Nb : Nat) (ka kb : Int) : Prop := (∀ z, z ∈ ea ↔ z ∈ eb) ∧ (∀ z, z ∈ ea → In64 z.1) ∧ ea.length + m = n ∧ eb.length + m = n ∧ Na ≤ 300000 + 1000 * m ∧ Nb ≤ 300000 + 1000 * m ∧ 0 ≤ ka ∧ ka ≤ 200000 + 500 * m ∧ 0 ≤ kb ∧ kb ≤ 200000 + 500 * m
theorem Q3.start {zs : List Int} {n i : Nat} {ea eb : Ents} {fa fb : Int → Option Nat} {Na Nb : Nat} {ka kb : Int} (h : Q1 zs n ea Na ka) (h2 : Q2 zs n 0 i eb Nb kb) (hn : n ≤ 60) (hi : i ≤ 200) (ha : Con ea fa) (hb : Con eb fb) : Q3 n 0 ea eb Na Nb ka kb := by
  obtain ⟨g1, g2, g3, g4, g5⟩ := h
  obtain ⟨h1, h2, h3, h4, h5, h6⟩ := h2
  have hm : ∀ z, z ∈ ea ↔ z ∈ eb := by
    intro z
    rw [g1 z]
    constructor
    · rintro ⟨j, hj, rfl⟩
      exact h2 j (Nat.zero_le _) hj
    · intro hz
      obtain ⟨j, hj, e1, e2⟩ := h1 z hz
      exact ⟨j, hj, Prod.ext e1 (e2 (Nat.zero_le _))⟩
  have hl := same_len ha.nodup hb.nodup hm
  refine ⟨hm, fun z hz => ?_, by omega, by omega, by omega, by omega, by omega, by omega, by omega, by omega⟩
  obtain ⟨j, hj, rfl⟩ := (g1 z).1 hz
  constructor <;> simp <;> omega
theorem Q3.step {wx wy wz wu : World} {n m : Nat} {B p bm B' p' bm' : Nat} {a a' : Option Addr} {cap cap' : Nat} {ea eb ea' eb' : Ents} {fa' fb' : Int → Option Nat} {Na Nb Na' Nb' : Nat} {ka kb ka' kb' : Int} (h : Q3 n m ea eb Na Nb ka kb) (hn : n ≤ 60) {id : Int}
    (hs : DropC wx wy B p bm a cap ea Na ka id ea' fa' Na' ka') (hs' : DropC wz wu B' p' bm' a' cap' eb Nb kb id eb' fb' Nb' kb') : Q3 n (m + 1) ea' eb' Na' Nb' ka' kb' := by
  obtain ⟨_, h2, h3, h4, h5, h6, _⟩ := hs
  obtain ⟨_, i2, i3, i4, i5, i6, _⟩ := hs'
  obtain ⟨g1, g2, g3, g4, g5, g6, g7, g8, g9, g10⟩ := h
  have hd := digs_le ea.length
  have hd' := digs_le eb.length
  exact ⟨fun z => by rw [h2 z, i2 z, g1 z], fun z hz => g2 z ((h2 z).1 hz).1, by omega, by omega, by omega, by omega, by omega, by omega, by omega, by omega⟩

set_option maxRecDepth 100000 in
set_option maxHeartbeats 2000000 in
theorem heapAgain_walk (a : Option Addr) (len cap : Nat) (zs : List Int) (oa : Option Addr) (olen ocap : Nat) (os : List Int) (w : World) (hrow : IsRow .i64 w a len cap zs) (horow : IsRow .u8 w oa olen ocap os) :
    Calls Try.prog 10 #[.slice a len cap, .slice oa olen ocap] w fun e w' => e = .returned (.bool true) ∧ Below w.heap.size w w' := by
  obtain ⟨b, off, ha, hlm, hc, hwz⟩ := row_facts hrow
  obtain ⟨ob, ooff, hoa, holm, hoc⟩ := bytes_facts horow
  have HA := Lib.hid ha
  have HC := Lib.hid hc
  have HW := Lib.hid hwz
  have HOA := Lib.hid hoa
  have HOC := Lib.hid hoc
  clear hrow ha hc hwz horow hoa hoc
  obtain ⟨n, hn, hn60, hnl⟩ : ∃ n : Nat, n = (if 60 < len then 60 else len) ∧ n ≤ 60 ∧ n ≤ len := ⟨_, rfl, by split <;> omega, by split <;> omega⟩
  go_enter Try.func10, Try.ntmps10
  go_wp2_with fail
  refine (new_cont _).mono ?_
  rintro e w0 ⟨rfl, h0, b0⟩
  go_wp2_with fail
  refine (new_cont _).mono ?_
  rintro e w1 ⟨rfl, h1, b1⟩
  have T0 := Lib.hid (show Two w w1 (w.heap.size + 1) w.heap.size none 0 [] (fun _ => none) 0 0 w0.heap.size (w0.heap.size + 1) w0.heap.size none 0 [] (fun _ => none) 0 0 from
    ⟨h0.later b1, h1, fun k e1 e2 => by
      have g1 := (h0.hp.above e1).2
      have g2 := (h1.hp.above e2).1
      omega, b0.size, b1.size, b0.trans (b1.mono b0.size)⟩)
  clear h0 b0 h1 b1
  go_upto_if 23 with fail
  go_cut [7] (fun v wx => v = .int .i64 n ∧ wx = w1)
  case first =>
    by_cases h100 : 60 < len
    · rw [if_pos h100] at hn
      subst hn
      have hd1 : decide ((60 : Int) < len) = true := decide_eq_true (by omega)
      go_wp2_with fail
      go_meet
      exact ⟨rfl, rfl⟩
    · rw [if_neg h100] at hn
      subst hn
      have hd1 : decide ((60 : Int) < n) = false := decide_eq_false (by omega)
      go_wp2_with fail
      go_meet
      exact ⟨rfl, rfl⟩
  case rest =>
    obtain ⟨rfl, rfl⟩ := hcut
    clear hn
    generalize hG : w0.heap.size = G at *
    clear hG
    go_wp2_with fail
    go_loopw [8] (fun v wx => ∃ (k : Nat) (aa : Option Addr) (ca : Nat) (ea : Ents) (fa : Int → Option Nat) (Na : Nat) (ka : Int), k ≤ n ∧ v = .int .i64 k ∧ Hid (Q1 zs k ea Na ka) ∧ Hid (Two w wx (w.heap.size + 1) w.heap.size aa ca ea fa Na ka G (G + 1) G none 0 [] (fun _ => none) 0 0)) (fun v _ => n - (intOf v).toNat)
    case atStart => exact ⟨0, _, _, _, _, _, _, by omega, rfl, Lib.hid ⟨fun z => by simp, rfl, by omega, by decide, by decide⟩, T0⟩
    case round =>
      clear T0
      obtain ⟨k, aa, ca, ea, fa, Na, ka, hk, rfl, HQ, HT⟩ := hrel
      by_cases hlt : k < n
      · have hd1 : decide ((k : Int) < n) = true := decide_eq_true (by omega)
        have ha := HA.out (by omega)
        subst ha
        have hcell := HC.out k (by omega)
        have hck := (HT.out.bel.cell (World.block_lt_of_cell? _ _ hcell)).trans hcell
        obtain ⟨z, hz⟩ : ∃ z, zs.getD k 0 = z := ⟨_, rfl⟩
        have HZ := Lib.hid hz
        rw [hz] at hck
        clear hcell hz
        obtain ⟨_, q1, q2, q3, q4⟩ := HQ.out
        go_wp2_with fail
        refine (set_any HT.out.a HT.out.bel.size k z ⟨by omega, by omega⟩ (by rw [← HZ.out]; exact HW.out k) (by omega) (by omega) q3 (by omega)).mono ?_
        rintro r w1 ⟨a1, cap1, es1, f1, N1, wk1, rfl, hs⟩
        have HT1 := Lib.hid (HT.out.turnA hs.2.2.2.2.2.2 hs.1)
        rw [← HZ.out] at hs
        have HQ1 := Lib.hid (HQ.out.step (by omega) hs)
        clear hs
        go_wp2_with fail
        go_roundw
        case rel => exact ⟨k + 1, _, _, _, _, _, _, by omega, by go_num, HQ1, HT1⟩
        case measure => simp [intOf]; omega
      · have hd1 : decide ((k : Int) < n) = false := decide_eq_false (by omega)
        obtain rfl : k = n := by omega
        go_wp2_with fail
        go_loopw [9] (fun v wx => ∃ (i : Nat) (ab : Option Addr) (cb : Nat) (eb : Ents) (fb : Int → Option Nat) (Nb : Nat) (kb : Int), i ≤ 100 ∧ i ≤ olen ∧ v = .int .i64 i ∧ Hid (Q2 zs k k i eb Nb kb) ∧ Hid (Two w wx (w.heap.size + 1) w.heap.size aa ca ea fa Na ka G (G + 1) G ab cb eb fb Nb kb)) (fun v _ => 100 - (intOf v).toNat)
        case atStart => exact ⟨0, _, _, _, _, _, _, by omega, by omega, rfl, Lib.hid ⟨fun z hz => by simp at hz, fun j h1 h2 => by omega, by simp, by omega, by decide, by decide⟩, HT⟩
        case round =>
          clear HT
          obtain ⟨i, ab, cb, eb, fb, Nb, kb, hi, hio, rfl, HQ2, HT⟩ := hrel
          obtain ⟨bb, hbb⟩ : ∃ bb : Bool, bb = decide (i < olen ∧ i < 100 ∧ 0 < k) := ⟨_, rfl⟩
          go_upto_region 10 with fail
          go_cut [47] (fun v wx => v = .bool bb ∧ wx = wr)
          case first =>
            by_cases g1 : i < olen
            · have hd1 : decide ((i : Int) < olen) = true := decide_eq_true (by omega)
              by_cases g2 : i < 100
              · have hd2 : decide ((i : Int) < 100) = true := decide_eq_true (by omega)
                by_cases g3 : 0 < k
                · have hd3 : decide ((0 : Int) < k) = true := decide_eq_true (by omega)
                  rw [decide_eq_true ⟨g1, g2, g3⟩] at hbb
                  subst hbb
                  go_wp2_with fail
                  go_meet
                  exact ⟨rfl, rfl⟩
                · have hd3 : decide ((0 : Int) < k) = false := decide_eq_false (by omega)
                  rw [decide_eq_false (fun h => g3 h.2.2)] at hbb
                  subst hbb
                  go_wp2_with fail
                  go_meet
                  exact ⟨rfl, rfl⟩
              · have hd2 : decide ((i : Int) < 100) = false := decide_eq_false (by omega)
                rw [decide_eq_false (fun h => g2 h.2.1)] at hbb
                subst hbb
                go_wp2_with fail
                go_meet
                exact ⟨rfl, rfl⟩
            · have hd1 : decide ((i : Int) < olen) = false := decide_eq_false (by omega)
              rw [decide_eq_false (fun h => g1 h.1)] at hbb
              subst hbb
              go_wp2_with fail
              go_meet
              exact ⟨rfl, rfl⟩
          case rest =>
            obtain ⟨rfl, rfl⟩ := hcut
            cases bb with
            | true =>
              obtain ⟨g1, g2, g3⟩ := of_decide_eq_true hbb.symm
              clear hbb
              have ha := HOA.out (by omega)
              subst ha
              obtain ⟨hcell, hby⟩ := HOC.out i (by omega)
              have hck := (HT.out.bel.cell (World.block_lt_of_cell? _ _ hcell)).trans hcell
              generalize os.getD i 0 = y at hck hby
              clear hcell
              obtain ⟨j, hj, hjk⟩ : ∃ j : Nat, y.tmod (k : Int) = (j : Int) ∧ j < k := by
                have h1 := Int.emod_nonneg y (b := (k : Int)) (by omega)
                have h2 := Int.emod_lt_of_pos y (b := (k : Int)) (by omega)
                have h3 : y.tmod (k : Int) = y % (k : Int) := Int.tmod_eq_emod_of_nonneg hby.1
                exact ⟨(y % (k : Int)).toNat, by omega, by omega⟩
              obtain ⟨_, _, q1, q2, q3, q4⟩ := HQ2.out
              go_wp2_with fail
              refine (set_any HT.out.b HT.out.hBx j (-(i : Int)) ⟨by omega, by omega⟩ ⟨by omega, by omega⟩ (by omega) (by omega) q3 (by omega)).mono ?_
              rintro r w1 ⟨a1, cap1, es1, f1, N1, wk1, rfl, hs⟩
              have HT1 := Lib.hid (HT.out.turnB hs.2.2.2.2.2.2 hs.1)
              have HQ21 := Lib.hid (HQ2.out.step (by omega) hjk (Or.inl ⟨rfl, hjk⟩) hs)
              clear hs
              go_wp2_with fail
              go_roundw
              case rel => exact ⟨i + 1, _, _, _, _, _, _, by omega, by omega, by go_num, HQ21, HT1⟩
              case measure => simp [intOf]; omega
            | false =>
              clear hbb
              obtain ⟨i0, hi0⟩ : ∃ i0, i0 = i := ⟨_, rfl⟩
              have HQS := Lib.hid (show Q2 zs k k (i + (k - k)) eb Nb kb by rw [Nat.sub_self, Nat.add_zero]; exact HQ2.out)
              go_wp2_with fail
              go_loopw [10] (fun v wx => ∃ (m : Nat) (ab : Option Addr) (cb : Nat) (eb : Ents) (fb : Int → Option Nat) (Nb : Nat) (kb : Int), m ≤ k ∧ v = .int .i64 ((m : Int) - 1) ∧ Hid (Q2 zs k m (i + (k - m)) eb Nb kb) ∧ Hid (Two w wx (w.heap.size + 1) w.heap.size aa ca ea fa Na ka G (G + 1) G ab cb eb fb Nb kb)) (fun v _ => (intOf v + 1).toNat)
              case atStart => exact ⟨k, _, _, _, _, _, _, by omega, rfl, HQS, HT⟩
              case round =>
                clear HQ2 HQS HT
                obtain ⟨m, ab, cb, eb, fb, Nb, kb, hm, rfl, HQ2, HT⟩ := hrel
                by_cases hm0 : 0 < m
                · have hd1 : decide ((0 : Int) ≤ (m : Int) - 1) = true := decide_eq_true (by omega)
                  obtain ⟨j, rfl⟩ : ∃ j, m = j + 1 := ⟨m - 1, by omega⟩
                  have ej : ((j + 1 : Nat) : Int) - 1 = (j : Int) := by omega
                  have ha := HA.out (by omega)
                  subst ha
                  have hcell := HC.out j (by omega)
                  have hck := (HT.out.bel.cell (World.block_lt_of_cell? _ _ hcell)).trans hcell
                  obtain ⟨z, hz⟩ : ∃ z, zs.getD j 0 = z := ⟨_, rfl⟩
                  have HZ := Lib.hid hz
                  rw [hz] at hck
                  clear hcell hz
                  obtain ⟨_, _, q1, q2, q3, q4⟩ := HQ2.out
                  rw [ej]
                  clear ej
                  go_wp2_with fail
                  refine (set_any HT.out.b HT.out.hBx j z ⟨by omega, by omega⟩ (by rw [← HZ.out]; exact HW.out j) (by omega) (by omega) q3 (by omega)).mono ?_
                  rintro r w1 ⟨a1, cap1, es1, f1, N1, wk1, rfl, hs⟩
                  have HT1 := Lib.hid (HT.out.turnB hs.2.2.2.2.2.2 hs.1)
                  have HQ21 := Lib.hid (HQ2.out.step (m' := j) (by omega) (by omega) (Or.inr ⟨rfl, rfl, HZ.out.symm⟩) hs)
                  rw [show i + (k - (j + 1)) + 1 = i + (k - j) by omega] at HQ21
                  clear hs
                  go_wp2_with fail
                  go_roundw
                  case rel => exact ⟨j, _, _, _, _, _, _, by omega, rfl, HQ21, HT1⟩
                  case measure => simp [intOf]
                · have em : (m : Int) - 1 = -1 := by omega
                  rw [em]
                  clear em
                  obtain rfl : m = 0 := by omega
                  have HQ3 := Lib.hid (Q3.start HQ.out HQ2.out (by omega) (by omega) HT.out.a.con HT.out.b.con)
                  clear HQ HQ2
                  go_wp2_with fail
                  go_loopw [11] (fun v wx => ∃ (m : Nat) (aa : Option Addr) (ca : Nat) (ea : Ents) (fa : Int → Option Nat) (Na : Nat) (ka : Int) (ab : Option Addr) (cb : Nat) (eb : Ents) (fb : Int → Option Nat) (Nb : Nat) (kb : Int), m ≤ k ∧ v = .int .i64 m ∧ Hid (Q3 k m ea eb Na Nb ka kb) ∧ Hid (Two w wx (w.heap.size + 1) w.heap.size aa ca ea fa Na ka G (G + 1) G ab cb eb fb Nb kb)) (fun v _ => k - (intOf v).toNat)
                  case atStart => exact ⟨0, _, _, _, _, _, _, _, _, _, _, _, _, by omega, rfl, HQ3, HT⟩
                  case round =>
                    clear HQ3 HT
                    obtain ⟨m, aa, ca, ea, fa, Na, ka, ab, cb, eb, fb, Nb, kb, hm, rfl, HQ3, HT⟩ := hrel
                    obtain ⟨_, _, q1, q2, q3, q4, q5, q6, q7, q8⟩ := HQ3.out
                    by_cases hlt : m < k
                    · have hd1 : decide ((m : Int) < k) = true := decide_eq_true (by omega)
                      go_wp2_with fail
                      refine (min_any HT.out.a (by omega) (by omega)).mono ?_
                      rintro r w1 ⟨⟨id, z⟩, he, hle, rfl, b1⟩
                      have HT1 := Lib.hid (HT.out.later b1)
                      have HE := Lib.hid he
                      have HLE := Lib.hid hle
                      clear he hle b1 HT
                      go_wp2_with fail
                      refine (min_any HT1.out.b (by omega) (by omega)).mono ?_
                      rintro r w2 ⟨e2, he2, hle2, rfl, b2⟩
                      obtain rfl : e2 = (id, z) := lt_total (HLE.out _ ((HQ3.out.1 _).2 he2)) (hle2 _ ((HQ3.out.1 _).1 HE.out))
                      have HT2 := Lib.hid (HT1.out.later b2)
                      have HE2 := Lib.hid he2
                      have HID := Lib.hid (HQ3.out.2.1 _ HE.out)
                      clear he2 hle2 b2 HT1 HLE
                      go_wp2_with fail
                      refine (drop_yes HT2.out.a id z HID.out HE.out (by omega) (by omega) q5 (by omega)).mono ?_
                      rintro r w3 ⟨es3, f3, N3, wk3, rfl, hs3⟩
                      have HT3 := Lib.hid (HT2.out.turnA hs3.2.2.2.2.2.2 hs3.1)
                      have HS3 := Lib.hid hs3
                      clear hs3
                      go_wp2_with fail
                      refine (drop_yes HT3.out.b id z HID.out HE2.out (by omega) (by omega) q7 (by omega)).mono ?_
                      rintro r w4 ⟨es4, f4, N4, wk4, rfl, hs4⟩
                      have HT4 := Lib.hid (HT3.out.turnB hs4.2.2.2.2.2.2 hs4.1)
                      have HQ4 := Lib.hid (HQ3.out.step (by omega) HS3.out hs4)
                      clear hs4
                      go_wp2_with fail
                      go_roundw
                      case rel => exact ⟨m + 1, _, _, _, _, _, _, _, _, _, _, _, _, by omega, by go_num, HQ4, HT4⟩
                      case measure => simp [intOf]; omega
                    · have hd1 : decide ((m : Int) < k) = false := decide_eq_false (by omega)
                      go_wp2_with fail
                      refine (awake12 _).mono ?_
                      rintro r w2 ⟨rfl, b2⟩
                      have HT2 := Lib.hid (HT.out.later b2)
                      go_wp2_with fail
                      refine (len_is HT2.out.a 0 (by omega)).mono ?_
                      rintro r w3 ⟨rfl, rfl⟩
                      go_wp2_with fail
                      refine (len_is HT2.out.b 0 (by omega)).mono ?_
                      rintro r w3 ⟨rfl, rfl⟩
                      go_wp2_with fail
                      exact bodyPost_ret (v := .bool true) (by simp [results, Try.results10, go_sem]) rfl ⟨rfl, HT2.out.bel⟩
end Go.Proofs.Ytdkghinjpnelhaa
