/- TaleMany: the walk. Written by gen_many.py. -/
import Derived.Test.YtbfdklmljcdonaaDoorTlBulk
import Derived.Test.YtbfdklmljcdonaaDoorTlAwk2
import Derived.Test.YtbfdklmljcdonaaDoorTlRdM
import Derived.Deep.CutBlock
namespace Go.Proofs.YtbfdklmljcdonaaDoor
open Go Go.RowKit
set_option linter.unusedVariables false
set_option linter.unusedSimpArgs false
set_option maxRecDepth 10000

theorem rowStp : RowTy Tryd.prog 22 26 6 72 := ⟨Tryd.underlying22, ⟨.agg #[.int .i64 0, .int .i64 0, .int .i64 0, .int .i64 0, .string ByteArray.empty, .slice none 0 0], by kernel_rfl, rfl⟩, by decide⟩
theorem many_add (a b t : ByteArray) (h : a ++ b = t) (hs : a.size + b.size ≤ 100000000) : ∀ w : World, (Op.stringOp .add a b).run Tryd.prog w = .ok (.string t) w := fun w => by
  rw [run_string_add_sum w _ _ (by omega), h]
theorem yV_app (a b : List Yv) : yV (a ++ b) = yV a ++ yV b := by unfold yV; rw [List.flatMap_append]
theorem sum_take_le (l : List Nat) (i : Nat) : (l.take i).sum ≤ l.sum := by
  have := congrArg List.sum (List.take_append_drop i l)
  rw [List.sum_append] at this
  omega
theorem sum_take_succ {l : List Nat} {i x : Nat} (h : l[i]? = some x) : (l.take (i + 1)).sum = (l.take i).sum + x := by
  rw [List.take_add_one, h, List.sum_append]
  simp
theorem sum_sz : ∀ xs : List Yv, 3 * (xs.map fun v => szS v.y).sum ≤ 4 * (xs.map fun v => blkS v.y).sum
  | [] => by simp
  | x :: r => by
    have h1 := blkS_sz x.y
    have h2 := sum_sz r
    simp only [List.map_cons, List.sum_cons]
    omega
theorem blk_mem : ∀ {xs : List Yv} {v : Yv}, v ∈ xs → blkS v.y ≤ (xs.map fun v => blkS v.y).sum
  | x :: r, v, h => by
    simp only [List.map_cons, List.sum_cons]
    rcases List.mem_cons.1 h with rfl | h
    · omega
    · have := blk_mem h
      omega
/-- The text and the list so far. -/
structure MnI (xs G : List Yv) (T : ByteArray) (i m : Nat) : Prop where
  len : G.length = m
  sub : ∀ v ∈ G, v ∈ xs
  txt : ∃ ls : List Bt, bl T = ls.flatMap (fun l => l ++ [10]) ∧ (∀ l ∈ ls, (10 : UInt8) ∉ l) ∧ ls.map stepS = G.map (fun v => some (spOf v.y))
  siz : T.size ≤ 101 * i + 2 * ((xs.map fun v => szS v.y).take i).sum
theorem MnI.small {xs G : List Yv} {T : ByteArray} {i m : Nat} (h : MnI xs G T i m) (hi : i ≤ 50) (hb : (xs.map fun v => blkS v.y).sum ≤ 1048576) : T.size ≤ 2850000 := by
  have h1 := h.siz
  have h2 := sum_take_le (xs.map fun v => szS v.y) i
  have h3 := sum_sz xs
  omega
theorem MnI.skip {xs G : List Yv} {T : ByteArray} {i m : Nat} (h : MnI xs G T i m) : MnI xs G T (i + 1) m := by
  refine ⟨h.len, h.sub, h.txt, ?_⟩
  have h1 := h.siz
  have : ((xs.map fun v => szS v.y).take i).sum ≤ ((xs.map fun v => szS v.y).take (i + 1)).sum := by
    rw [List.take_add_one, List.sum_append]
    omega
  omega
theorem MnI.step {xs G : List Yv} {T T2 l l1 : ByteArray} {i m : Nat} {v : Yv} (h : MnI xs G T i m) (hv : xs[i]? = some v) (hr : RgS v.y) (hl : lineS (spOf v.y) = some (bl l)) (h1 : l ++ (⟨#[10]⟩ : ByteArray) = l1) (h2 : T ++ l1 = T2) : MnI xs (G ++ [v]) T2 (i + 1) (m + 1) := by
  obtain ⟨ls, e1, e2, e3⟩ := h.txt
  refine ⟨by rw [List.length_append, h.len]; rfl, fun u hu => ?_, ⟨ls ++ [bl l], ?_, fun u hu => ?_, ?_⟩, ?_⟩
  · rcases List.mem_append.1 hu with hu | hu
    · exact h.sub u hu
    · rw [List.mem_singleton.1 hu]; exact List.mem_of_getElem? hv
  · rw [List.flatMap_append, ← e1, ← h2, ← h1]
    simp [bl]
  · rcases List.mem_append.1 hu with hu | hu
    · exact e2 u hu
    · rw [List.mem_singleton.1 hu]; exact fun hm => line_no hl _ hm rfl
  · rw [List.map_append, List.map_append, e3]
    simp [step_of_line hl hr]
  · have h3 := h.siz
    have h4 := sum_take_succ (l := xs.map fun v => szS v.y) (i := i) (x := szS v.y) (by rw [List.getElem?_map, hv]; rfl)
    have h5 := line_len hl hr
    have h6 : (bl l).length = l.size := bl_len l
    have h7 : T2.size = T.size + l1.size := by rw [← h2, ByteArray.size_append]
    have h8 : l1.size = l.size + 1 := by rw [← h1, ByteArray.size_append]; rfl
    rw [h4]
    omega
theorem lnl_flat : ∀ ls : List Bt, (∀ l ∈ ls, (10 : UInt8) ∉ l) → lnl (ls.flatMap (fun l => l ++ [10])) = ls
  | [], _ => lnl_nil
  | l :: r, h => by
    rw [List.flatMap_cons, List.append_assoc, show [10] ++ r.flatMap (fun l => l ++ [10]) = 10 :: r.flatMap (fun l => l ++ [10]) from rfl, lnl_word _ _ (h l (List.mem_cons_self ..)), lnl_flat r (fun x hx => h x (List.mem_cons_of_mem _ hx))]
theorem MnI.read {xs G : List Yv} {T : ByteArray} {i m : Nat} (h : MnI xs G T i m) : (lnB T).map (fun x => stepS (bl x)) = (G.map (·.y)).map (fun x => some (spOf x)) := by
  obtain ⟨ls, e1, e2, e3⟩ := h.txt
  unfold lnB
  rw [e1, lnl_flat ls e2, List.map_map, List.map_map]
  rw [show (fun v : Yv => some (spOf v.y)) = ((fun x => some (spOf x)) ∘ fun v : Yv => v.y) from rfl] at e3
  rw [← e3]
  refine List.map_congr_left fun l _ => ?_
  show stepS (bl (stB l)) = _
  rw [bl_stB]
set_option maxHeartbeats 4000000 in
theorem taleMany_walk (x : Option Addr × Nat × Nat) (w : World) (hx : IsStpsU w x) (hT : TabT w) :
    Calls Tryd.prog 3 #[.slice x.1 x.2.1 x.2.2] w fun e w' => e = .returned (.bool true) ∧ Below w.heap.size w w' := by
  obtain ⟨sa, N, cap⟩ := x
  obtain ⟨b, off, xs, hsa, hmx, hlen, hbk, hel⟩ := hx
  dsimp only at hsa hmx hlen hel ⊢
  have HT := Lib.hid hT
  have HL := Lib.hid hlen
  have HB := Lib.hid hbk
  have HE := Lib.hid hel
  have HSA := Lib.hid hsa
  have hN : N ≤ 9223372036854775807 := by unfold maxLen at hmx; omega
  clear hT hlen hbk hel hsa hmx
  go_enter Tryd.func3, Tryd.ntmps3
  go_upto_block 0 with fail
  refine code_forget (fun W => Hid (Own W w.heap.size 26 6 (some ⟨w.heap.size, 0, none⟩) 0 0 []) ∧ Hid (Below w.heap.size w W)) ⟨Lib.hid (Own.lit (cs := #[]) (Nat.le_refl _) (by decide) rfl), Lib.hid ((Below.refl w.heap.size w).alloc (Nat.le_refl _) _)⟩ ?_
  rintro w1 ⟨OG, B1⟩
  go_cut [3, 5] (fun vt vg wx => ∃ (G : List Yv) (T : ByteArray) (m c : Nat) (a : Option Addr), vt = .string T ∧ vg = .slice a m c ∧ m ≤ 50 ∧ T.size ≤ 2850000 ∧ Hid (∃ i, MnI xs G T i m) ∧ Hid (Own wx w.heap.size 26 6 a m c (yV G)) ∧ Hid (Below w.heap.size w wx))
  case first =>
    go_wp2_with fail
    go_loopw [3, 4, 5, 6] (fun vt vn vg vi wr => ∃ (G : List Yv) (T : ByteArray) (v i m c : Nat) (a : Option Addr), vt = .string T ∧ vn = .int .i64 (v : Int) ∧ vg = .slice a m c ∧ vi = .int .i64 (i : Int) ∧ i ≤ 50 ∧ i ≤ N ∧ v ≤ 4000 ∧ m ≤ i ∧ T.size ≤ 2850000 ∧ Hid (MnI xs G T i m) ∧ Hid (Own wr w.heap.size 26 6 a m c (yV G)) ∧ Hid (Below w.heap.size w wr)) (fun _ _ _ vi _ => 50 - (intOf vi).toNat)
    case atStart => exact ⟨[], ⟨#[]⟩, 0, 0, 0, 0, _, rfl, rfl, rfl, rfl, by omega, by omega, by omega, by omega, by decide, Lib.hid ⟨rfl, (fun v hv => by cases hv), ⟨[], rfl, (fun l hl => by cases hl), rfl⟩, Nat.zero_le _⟩, OG, B1⟩
    case round =>
      clear OG B1
      obtain ⟨G, T, v, i, m, c, a, rfl, rfl, rfl, rfl, hi50, hiN, hv4, hmi, hTz, HI, OG, BR⟩ := hrel
      have EXIT : Hid (∃ i, MnI xs G T i m) := Lib.hid ⟨i, HI.out⟩
      by_cases hin : i < N
      · have d1 : decide ((i : Int) < (N : Int)) = true := decide_eq_true (by omega)
        have d1n : decide (i < N) = true := decide_eq_true hin
        by_cases hi5 : i < 50
        · have d2 : decide ((i : Int) < 50) = true := decide_eq_true (by omega)
          have d2n : decide (i < 50) = true := decide_eq_true hi5
          obtain ⟨y0, hy0⟩ : ∃ y0, xs[i]? = some y0 := ⟨_, List.getElem?_eq_getElem (by rw [HL.out]; exact hin)⟩
          obtain ⟨y, ha, hc⟩ := y0
          have HY := Lib.hid hy0
          obtain ⟨hrg, hrd, hcl⟩ := HE.out i _ hy0
          dsimp only at hrg hrd hcl
          have hbk := Nat.le_trans (blk_mem (List.mem_of_getElem? hy0)) HB.out
          dsimp only at hbk
          have HSZ := Lib.hid (blkS_SzS hbk)
          have HRG := Lib.hid hrg
          have HRD := Lib.hid hrd
          obtain ⟨hn, hhn⟩ : ∃ hn, y.hs.length = hn := ⟨_, rfl⟩
          have HHN := Lib.hid hhn
          have SZ := Lib.hid (fun W (h : RdC W ha (hdV y.hs)) => size_at y ha hn hc hhn HSZ.out.big W h)
          have LI := Lib.hid (fun W (h : RdC W ha (hdV y.hs)) (ht : TabT W) => line_at y HSZ.out HRG.out ha hn hc hhn W h ht)
          unfold stA at SZ LI
          obtain rfl := HSA.out (by omega)
          rw [hhn] at hcl
          have C0 := Lib.hid (show w.cell? ⟨b, off + i * 6, none⟩ = some (.int .i64 y.k) from hcl 0 _ rfl)
          have C1 := Lib.hid (show w.cell? ⟨b, off + i * 6 + 1, none⟩ = some (.int .i64 y.a) from hcl 1 _ rfl)
          have C2 := Lib.hid (show w.cell? ⟨b, off + i * 6 + 2, none⟩ = some (.int .i64 y.b) from hcl 2 _ rfl)
          have C3 := Lib.hid (show w.cell? ⟨b, off + i * 6 + 3, none⟩ = some (.int .i64 y.c) from hcl 3 _ rfl)
          have C4 := Lib.hid (show w.cell? ⟨b, off + i * 6 + 4, none⟩ = some (.string y.t) from hcl 4 _ rfl)
          have C5 := Lib.hid (show w.cell? ⟨b, off + i * 6 + 5, none⟩ = some (.slice ha hn hc) from hcl 5 _ rfl)
          have CC : Hid (∀ W, Below w.heap.size w W → W.cell? ⟨b, off + i * 6, none⟩ = some (.int .i64 y.k) ∧ W.cell? ⟨b, off + i * 6 + 1, none⟩ = some (.int .i64 y.a) ∧ W.cell? ⟨b, off + i * 6 + 2, none⟩ = some (.int .i64 y.b) ∧ W.cell? ⟨b, off + i * 6 + 3, none⟩ = some (.int .i64 y.c) ∧ W.cell? ⟨b, off + i * 6 + 4, none⟩ = some (.string y.t) ∧ W.cell? ⟨b, off + i * 6 + 5, none⟩ = some (.slice ha hn hc)) := Lib.hid (fun W Z => by
            have c0 := (Z.cell (World.block_lt_of_cell? _ _ C0.out)).trans C0.out
            have c1 := (Z.cell (World.block_lt_of_cell? _ _ C1.out)).trans C1.out
            have c2 := (Z.cell (World.block_lt_of_cell? _ _ C2.out)).trans C2.out
            have c3 := (Z.cell (World.block_lt_of_cell? _ _ C3.out)).trans C3.out
            have c4 := (Z.cell (World.block_lt_of_cell? _ _ C4.out)).trans C4.out
            have c5 := (Z.cell (World.block_lt_of_cell? _ _ C5.out)).trans C5.out
            exact ⟨c0, c1, c2, c3, c4, c5⟩)
          have HSTP := Lib.hid (fun (T2 l l1 : ByteArray) (hl : lineS (spOf y) = some (bl l)) (h1 : l ++ (⟨#[10]⟩ : ByteArray) = l1) (h2 : T ++ l1 = T2) => HI.out.step HY.out HRG.out hl h1 h2)
          have HSKP := Lib.hid HI.out.skip
          have hlsz : Hid (∀ l : ByteArray, lineS (spOf y) = some (bl l) → l.size ≤ 3000000) := Lib.hid (fun l hl => by
            have h5 := line_len hl HRG.out
            rw [bl_len] at h5
            have := blkS_sz y
            omega)
          clear C0 C1 C2 C3 C4 C5 hy0 hrg hrd hcl hhn hbk HI
          have ik0 : (0 : Int) ≤ (i : Int) := by omega
          obtain ⟨c0, c1, c2, c3, c4, c5⟩ := CC.out wr BR.out
          go_wp2_with fail
          refine (SZ.out _ (HRD.out.later BR.out)).mono ?_
          rintro e w2 ⟨s, rfl, hb2, hs2, _⟩
          have B2 := Lib.hid (BR.out.trans (hb2.mono BR.out.size))
          have OG2 := Lib.hid (OG.out.later hb2)
          clear hb2 OG c0 c1 c2 c3 c4 c5 SZ
          obtain ⟨u, hu⟩ : ∃ u, v + s = u := ⟨_, rfl⟩
          have hwr : IntKind.i64.wrap ((v : Int) + (s : Int)) = (u : Int) := by rw [i64_in _ (by omega) (by omega)]; omega
          by_cases hbig : 4000 < u
          · have d3 : decide ((4000 : Int) < (u : Int)) = true := decide_eq_true (by omega)
            have d3' : decide ((u : Int) > 4000) = true := d3
            go_wp2_with fail
            go_meet
            exact ⟨G, T, m, c, a, rfl, rfl, by omega, hTz, EXIT, OG2, B2⟩
          · have d3 : decide ((4000 : Int) < (u : Int)) = false := decide_eq_false (by omega)
            have d3' : decide ((u : Int) > 4000) = false := d3
            obtain ⟨c0, c1, c2, c3, c4, c5⟩ := CC.out w2 B2.out
            go_wp2_with fail
            refine (LI.out _ (HRD.out.later B2.out) (HT.out.later B2.out)).mono ?_
            rintro e w3 ⟨hb3, ⟨hno, rfl⟩ | ⟨l, hl, rfl⟩⟩
            · have B3 := Lib.hid (B2.out.trans (hb3.mono B2.out.size))
              have OG3 := Lib.hid (OG2.out.later hb3)
              clear hb3 OG2 c0 c1 c2 c3 c4 c5 LI hno
              have hwi : IntKind.i64.wrap ((i : Int) + 1) = ((i + 1 : Nat) : Int) := by rw [i64_in _ (by omega) (by omega)]; omega
              go_wp2_with fail
              go_roundw
              case rel => exact ⟨G, T, u, i + 1, m, c, a, rfl, rfl, rfl, by go_num, by omega, by omega, by omega, by omega, hTz, HSKP, OG3, B3⟩
              case measure => simp [intOf]; omega
            · have B3 := Lib.hid (B2.out.trans (hb3.mono B2.out.size))
              have OG3 := Lib.hid (OG2.out.later hb3)
              have hl3 := hlsz.out l hl
              obtain ⟨l1, hl1⟩ : ∃ l1, l ++ (⟨#[10]⟩ : ByteArray) = l1 := ⟨_, rfl⟩
              obtain ⟨T2, hT2⟩ : ∃ T2, T ++ l1 = T2 := ⟨_, rfl⟩
              have A1 := many_add l ⟨#[10]⟩ l1 hl1 (by have : (⟨#[10]⟩ : ByteArray).size = 1 := rfl; omega)
              have hls1 : l1.size = l.size + 1 := by rw [← hl1, ByteArray.size_append]; rfl
              have A2 := many_add T l1 T2 hT2 (by omega)
              have NI := Lib.hid (HSTP.out T2 l l1 hl hl1 hT2)
              have NZ := NI.out.small (by omega) HB.out
              have HZ : Hid (yV G ++ #[.int .i64 y.k, .int .i64 y.a, .int .i64 y.b, .int .i64 y.c, .string y.t, .slice ha hn hc].toList = yV (G ++ [⟨y, ha, hc⟩])) := Lib.hid (by rw [yV_app, ← HHN.out]; simp [yV, yL])
              have ONE : Hid ((#[.int .i64 y.k, .int .i64 y.a, .int .i64 y.b, .int .i64 y.c, .string y.t, .slice ha hn hc] : Array Value).all (·.oneCell') = true) := Lib.hid (st_one _ _ _ _ _ _ _ _)
              clear hb3 OG2 c0 c1 c2 c3 c4 c5 LI hl HSKP HSTP hl1 hT2 hl3
              obtain ⟨c0, c1, c2, c3, c4, c5⟩ := CC.out w3 B3.out
              have hwi : IntKind.i64.wrap ((i : Int) + 1) = ((i + 1 : Nat) : Int) := by rw [i64_in _ (by omega) (by omega)]; omega
              go_wp2_with (at_builtin; refine wpList_app1 rowStp rfl _ _ rfl w.heap.size a m c (yV G) rfl OG3.out #[.int .i64 y.k, .int .i64 y.a, .int .i64 y.b, .int .i64 y.c, .string y.t, .slice ha hn hc] rfl rfl ONE.out (by omega) (by decide) B3.out.size (m + 1) rfl (yV (G ++ [⟨y, ha, hc⟩])) HZ.out ?_; rintro g5 c5 w5 p1 p2 p3 p4; have NX := Lib.hid (And.intro p1 (B3.out.trans p3)); clear p1 p2 p3 p4 OG3 B3)
              go_roundw
              case rel => exact ⟨G ++ [⟨y, ha, hc⟩], T2, u, i + 1, m + 1, _, _, rfl, rfl, rfl, by go_num, by omega, by omega, by omega, by omega, NZ, NI, Lib.hid NX.out.1, Lib.hid NX.out.2⟩
              case measure => simp [intOf]; omega
        · have d2 : decide ((i : Int) < 50) = false := decide_eq_false (by omega)
          go_wp2_with fail
          go_meet
          exact ⟨G, T, m, c, a, rfl, rfl, by omega, hTz, EXIT, OG, BR⟩
      · have d1 : decide ((i : Int) < (N : Int)) = false := decide_eq_false (by omega)
        go_wp2_with fail
        go_meet
        exact ⟨G, T, m, c, a, rfl, rfl, by omega, hTz, EXIT, OG, BR⟩
  case rest =>
    clear OG B1
    obtain ⟨G, T, m, c, a, rfl, rfl, hm, hTz, HG, OG, B2⟩ := hcut
    obtain ⟨q, hMI⟩ := HG.out
    have RD := Lib.hid (fun W hW => read_asB T (G.map (·.y)) m (by rw [List.length_map]; exact hMI.len) hMI.read (by omega) (by omega) W hW)
    have HLN := Lib.hid hMI.len
    have HSUB := Lib.hid hMI.sub
    clear hMI HG
    go_wp2_with fail
    refine (RD.out _ (HT.out.later B2.out)).mono ?_
    rintro e w4 ⟨ra, rc, ys, rfl, hys, ho, hok, hb4⟩
    have HYS := Lib.hid hys
    have RO := Lib.hid ho
    have ROK := Lib.hid hok
    have OG4 := Lib.hid (OG.out.later hb4)
    have B4 := Lib.hid (B2.out.trans (hb4.mono B2.out.size))
    clear hys ho hok hb4 OG RD B2
    go_wp2_with fail
    go_loopw [12] (fun vi wr => ∃ i : Nat, vi = .int .i64 (i : Int) ∧ i ≤ m ∧ Hid (Below w4.heap.size w4 wr)) (fun vi _ => m - (intOf vi).toNat)
    case atStart => exact ⟨0, rfl, by omega, Lib.hid (Below.refl _ _)⟩
    case round =>
      obtain ⟨i, rfl, him, BR⟩ := hrel
      by_cases hin : i < m
      · have d1 : decide ((i : Int) < (m : Int)) = true := decide_eq_true (by omega)
        have d1n : decide (i < m) = true := decide_eq_true hin
        obtain ⟨v, hv⟩ : ∃ v, G[i]? = some v := ⟨_, List.getElem?_eq_getElem (by rw [HLN.out]; exact hin)⟩
        obtain ⟨z, hz⟩ : ∃ z, ys[i]? = some z := by
          have := congrArg List.length HYS.out
          rw [List.length_map, List.length_map, HLN.out] at this
          exact ⟨_, List.getElem?_eq_getElem (by omega)⟩
        have hzy : z.y = v.y := by
          have := congrArg (·[i]?) HYS.out
          simp only [List.getElem?_map, hz, hv, Option.map_some] at this
          exact Option.some.inj this
        obtain ⟨y, ha, hc⟩ := v
        obtain ⟨y', za, zc⟩ := z
        dsimp only at hzy
        subst hzy
        obtain ⟨j, hj⟩ := List.getElem?_of_mem (HSUB.out _ (List.mem_of_getElem? hv))
        have hbk := Nat.le_trans (blk_mem (List.mem_of_getElem? hj)) HB.out
        dsimp only at hbk
        have hrd := (HE.out j _ hj).2.1
        dsimp only at hrd
        obtain ⟨hn, hhn⟩ : ∃ hn, y'.hs.length = hn := ⟨_, rfl⟩
        have RY := Lib.hid (rdc_own (ROK.out _ (List.mem_of_getElem? hz)) (by decide))
        dsimp only at RY
        have SM : Hid (∀ W, Below w4.heap.size w4 W → Calls Tryd.prog 7 #[.agg #[.int .i64 y'.k, .int .i64 y'.a, .int .i64 y'.b, .int .i64 y'.c, .string y'.t, .slice za hn zc], .agg #[.int .i64 y'.k, .int .i64 y'.a, .int .i64 y'.b, .int .i64 y'.c, .string y'.t, .slice ha hn hc]] W fun e w' => e = .returned (.bool true) ∧ Below W.heap.size W w') := Lib.hid (fun W hW =>
          (same_at y' y' za ha hn hn zc hc hhn hhn (by have := (blkS_SzS hbk).2.1; omega) W (RY.out.later hW) (hrd.later (B4.out.trans (hW.mono B4.out.size)))).mono (fun e w' ⟨q, he, hq, hb⟩ => ⟨by rw [he, hq.2 rfl], hb⟩))
        obtain ⟨g, rfl, _, _⟩ := RO.out.some_ (by omega : 0 < m)
        obtain ⟨g2, rfl, _, _⟩ := OG4.out.some_ (by omega : 0 < m)
        have CP : ∀ j u, (yL ⟨y', za, zc⟩)[j]? = some u → w4.cell? ⟨g, i * 6 + j, none⟩ = some u := fun j u hj => RO.out.cell (yV_at hz j u hj)
        have CQ : ∀ j u, (yL ⟨y', ha, hc⟩)[j]? = some u → w4.cell? ⟨g2, i * 6 + j, none⟩ = some u := fun j u hj => OG4.out.cell (yV_at hv j u hj)
        have P0 := Lib.hid (show w4.cell? ⟨g, i * 6, none⟩ = some (.int .i64 y'.k) from CP 0 _ rfl)
        have P1 := Lib.hid (show w4.cell? ⟨g, i * 6 + 1, none⟩ = some (.int .i64 y'.a) from CP 1 _ rfl)
        have P2 := Lib.hid (show w4.cell? ⟨g, i * 6 + 2, none⟩ = some (.int .i64 y'.b) from CP 2 _ rfl)
        have P3 := Lib.hid (show w4.cell? ⟨g, i * 6 + 3, none⟩ = some (.int .i64 y'.c) from CP 3 _ rfl)
        have P4 := Lib.hid (show w4.cell? ⟨g, i * 6 + 4, none⟩ = some (.string y'.t) from CP 4 _ rfl)
        have P5 := Lib.hid (show w4.cell? ⟨g, i * 6 + 5, none⟩ = some (.slice za hn zc) from hhn ▸ CP 5 _ rfl)
        have Q0 := Lib.hid (show w4.cell? ⟨g2, i * 6, none⟩ = some (.int .i64 y'.k) from CQ 0 _ rfl)
        have Q1 := Lib.hid (show w4.cell? ⟨g2, i * 6 + 1, none⟩ = some (.int .i64 y'.a) from CQ 1 _ rfl)
        have Q2 := Lib.hid (show w4.cell? ⟨g2, i * 6 + 2, none⟩ = some (.int .i64 y'.b) from CQ 2 _ rfl)
        have Q3 := Lib.hid (show w4.cell? ⟨g2, i * 6 + 3, none⟩ = some (.int .i64 y'.c) from CQ 3 _ rfl)
        have Q4 := Lib.hid (show w4.cell? ⟨g2, i * 6 + 4, none⟩ = some (.string y'.t) from CQ 4 _ rfl)
        have Q5 := Lib.hid (show w4.cell? ⟨g2, i * 6 + 5, none⟩ = some (.slice ha hn hc) from hhn ▸ CQ 5 _ rfl)
        have ik0 : (0 : Int) ≤ (i : Int) := by omega
        have hwi : IntKind.i64.wrap ((i : Int) + 1) = ((i + 1 : Nat) : Int) := by rw [i64_in _ (by omega) (by omega)]; omega
        clear CP CQ hv hz hj hbk hrd hhn RY
        go_upto_region 18 with fail
        refine code_forget (fun W => Hid (Below w4.heap.size w4 W)) BR ?_
        rintro w6 B6
        refine wp_region_last 9 (fun w' => Below w4.heap.size w4 w') (by kernel_rfl) (B6.out.drew) (fun hHeld hClosed => ?_)
        refine wpAnyL_take (i := 0) (v := ?_) rfl (by kernel_rfl) (by kernel_rfl) (by kernel_rfl) (by kernel_rfl) (fun _ _ _ h => h) (by kernel_rfl) hClosed (Or.inl ⟨by rfl, ?_⟩) hHeld (fun hClosed => ?_)
        rotate_left
        · intro wv hSw; go_simp; all_goals (with_reducible rfl)
        (try simp only [List.getElem_toArray, List.getElem_cons_succ, List.getElem_cons_zero, put_at, List.set])
        refine wpAnyL_take (i := 1) (v := ?_) rfl (by kernel_rfl) (by kernel_rfl) (by kernel_rfl) (by kernel_rfl) (fun _ _ _ h => h) (by kernel_rfl) hClosed (Or.inl ⟨by rfl, ?_⟩) hHeld (fun hClosed => ?_)
        rotate_left
        · intro wv hSw; go_simp; all_goals (with_reducible rfl)
        (try simp only [List.getElem_toArray, List.getElem_cons_succ, List.getElem_cons_zero, put_at, List.set])
        refine wpAnyL_take (i := 2) (v := ?_) rfl (by kernel_rfl) (by kernel_rfl) (by kernel_rfl) (by kernel_rfl) (fun _ _ _ h => h) (by kernel_rfl) hClosed (Or.inl ⟨by rfl, ?_⟩) hHeld (fun hClosed => ?_)
        rotate_left
        · intro wv hSw; go_simp; all_goals (with_reducible rfl)
        (try simp only [List.getElem_toArray, List.getElem_cons_succ, List.getElem_cons_zero, put_at, List.set])
        refine wpAnyL_take (i := 3) (v := ?_) rfl (by kernel_rfl) (by kernel_rfl) (by kernel_rfl) (by kernel_rfl) (fun _ _ _ h => h) (by kernel_rfl) hClosed (Or.inl ⟨by rfl, ?_⟩) hHeld (fun hClosed => ?_)
        rotate_left
        · intro wv hSw; have Z := hSw; have c0 := (Z.cell (World.block_lt_of_cell? _ _ P0.out)).trans P0.out; have c1 := (Z.cell (World.block_lt_of_cell? _ _ P1.out)).trans P1.out; have c2 := (Z.cell (World.block_lt_of_cell? _ _ P2.out)).trans P2.out; have c3 := (Z.cell (World.block_lt_of_cell? _ _ P3.out)).trans P3.out; have c4 := (Z.cell (World.block_lt_of_cell? _ _ P4.out)).trans P4.out; have c5 := (Z.cell (World.block_lt_of_cell? _ _ P5.out)).trans P5.out; go_simp; all_goals (with_reducible rfl)
        (try simp only [List.getElem_toArray, List.getElem_cons_succ, List.getElem_cons_zero, put_at, List.set])
        refine wpAnyL_take (i := 4) (v := ?_) rfl (by kernel_rfl) (by kernel_rfl) (by kernel_rfl) (by kernel_rfl) (fun _ _ _ h => h) (by kernel_rfl) hClosed (Or.inl ⟨by rfl, ?_⟩) hHeld (fun hClosed => ?_)
        rotate_left
        · intro wv hSw; go_simp; all_goals (with_reducible rfl)
        (try simp only [List.getElem_toArray, List.getElem_cons_succ, List.getElem_cons_zero, put_at, List.set])
        refine wpAnyL_take (i := 5) (v := ?_) rfl (by kernel_rfl) (by kernel_rfl) (by kernel_rfl) (by kernel_rfl) (fun _ _ _ h => h) (by kernel_rfl) hClosed (Or.inl ⟨by rfl, ?_⟩) hHeld (fun hClosed => ?_)
        rotate_left
        · intro wv hSw; go_simp; all_goals (with_reducible rfl)
        (try simp only [List.getElem_toArray, List.getElem_cons_succ, List.getElem_cons_zero, put_at, List.set])
        refine wpAnyL_take (i := 6) (v := ?_) rfl (by kernel_rfl) (by kernel_rfl) (by kernel_rfl) (by kernel_rfl) (fun _ _ _ h => h) (by kernel_rfl) hClosed (Or.inl ⟨by rfl, ?_⟩) hHeld (fun hClosed => ?_)
        rotate_left
        · intro wv hSw; go_simp; all_goals (with_reducible rfl)
        (try simp only [List.getElem_toArray, List.getElem_cons_succ, List.getElem_cons_zero, put_at, List.set])
        refine wpAnyL_take (i := 7) (v := ?_) rfl (by kernel_rfl) (by kernel_rfl) (by kernel_rfl) (by kernel_rfl) (fun _ _ _ h => h) (by kernel_rfl) hClosed (Or.inl ⟨by rfl, ?_⟩) hHeld (fun hClosed => ?_)
        rotate_left
        · intro wv hSw; have Z := hSw; have c0 := (Z.cell (World.block_lt_of_cell? _ _ Q0.out)).trans Q0.out; have c1 := (Z.cell (World.block_lt_of_cell? _ _ Q1.out)).trans Q1.out; have c2 := (Z.cell (World.block_lt_of_cell? _ _ Q2.out)).trans Q2.out; have c3 := (Z.cell (World.block_lt_of_cell? _ _ Q3.out)).trans Q3.out; have c4 := (Z.cell (World.block_lt_of_cell? _ _ Q4.out)).trans Q4.out; have c5 := (Z.cell (World.block_lt_of_cell? _ _ Q5.out)).trans Q5.out; go_simp; all_goals (with_reducible rfl)
        (try simp only [List.getElem_toArray, List.getElem_cons_succ, List.getElem_cons_zero, put_at, List.set])
        refine wpAnyL_one (i := 8) rfl (by kernel_rfl) (by kernel_rfl) hClosed (fun KK hK => ?_)
        go_simp
        refine (SM.out _ hHeld).mono ?_
        rintro ee w5 ⟨rfl, hw5⟩
        go_wp2_with fail
        refine hK.out _ _ ?_ (fun hClosed hHeld => ?_)
        · exact hHeld.trans (hw5.mono hHeld.size)
        clear hK KK
        (first | simp only [List.getElem_toArray, List.getElem_cons_succ, List.getElem_cons_zero, put_at, List.set] | (try simp only [put_at, List.set]))
        refine wpAnyL_last rfl (by kernel_rfl) (by kernel_rfl) (fun KK hK => ?_)
        go_simp
        refine hK.out _ _ ?_
        (try simp only [put_at, List.set])
        have B7 := Lib.hid hHeld
        clear hHeld SM B6 BR
        go_wp2_with fail
        go_roundw
        case rel => exact ⟨i + 1, by go_num, by omega, B7⟩
        case measure => simp [intOf]; omega
      · have d1 : decide ((i : Int) < (m : Int)) = false := decide_eq_false (by omega)
        have AW := Lib.hid (awake24 wr (HT.out.later (B4.out.trans (BR.out.mono B4.out.size))))
        go_wp2_with fail
        refine AW.out.mono ?_
        rintro e w6 ⟨rfl, hb⟩
        have B6 := Lib.hid (((B4.out.trans (BR.out.mono B4.out.size))).trans (hb.mono (B4.out.trans (BR.out.mono B4.out.size)).size))
        clear hb
        go_wp2_with fail
        go_ret
        exact ⟨rfl, B6.out⟩
end Go.Proofs.YtbfdklmljcdonaaDoor
