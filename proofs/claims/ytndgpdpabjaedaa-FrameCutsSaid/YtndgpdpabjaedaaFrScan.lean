/- Package frame: all records that bytes begin with. -/
import Derived.Test.YtndgpdpabjaedaaFrDec
namespace Go.Proofs.Ytndgpdpabjaedaa
open Go.RowKit

theorem decode_at (l : List Int) (n : Nat) (a : Option Addr) (cap : Nat) (w : World) (hn : l.length = n) (hr : RdB w a l) (hb : Byts l) (hc : n ≤ cap) (hl : n < 1000000) :
    Calls Try.prog 18 #[.slice a n cap] w fun e w' => DecP l e ∧ Below w.heap.size w w' := by
  subst hn
  by_cases h6 : l.length < 6
  · exact decode_short l a cap w h6
  · obtain ⟨b, off, rfl⟩ := hr.plain (by omega)
    obtain ⟨m, hm⟩ : ∃ m, (valI (l.take 2)).toNat = m := ⟨_, rfl⟩
    by_cases h : l.length < 6 + m ∨ 6 + m < 26
    · exact decode_cut l b off cap w hr hb hc hl m hm (by omega) h
    · have H : Head l b off cap w m ((l.drop 6).take m) := ⟨hr, hb, hc, hl, hm, by omega, by omega, rfl⟩
      by_cases hs : valI ((l.drop 2).take 4) = (sumC ((l.drop 6).take m)).toNat
      · obtain ⟨k, hk⟩ : ∃ k, (valI ((((l.drop 6).take m).drop 18).take 2)).toNat = k := ⟨_, rfl⟩
        by_cases hbad : m < 20 + k
        · exact decode_host l b off cap w m _ H hs k hk hbad
        · exact decode_end l b off cap w m _ H hs k hk (by omega)
      · exact decode_sum l b off cap w m _ H hs

/-- Records in a row. -/
def flatC (rs : List Rc) : List Value := rs.flatMap recL
def RdR (w : World) (a : Option Addr) (rs : List Rc) : Prop := rs = [] ∨ ∃ b off, a = some ⟨b, off, none⟩ ∧ ∀ i r, rs[i]? = some r → ∀ j v, (recL r)[j]? = some v → w.cell? ⟨b, off + i * 6 + j, none⟩ = some v
def OwnR (w : World) (B : Nat) (a : Option Addr) (cap : Nat) (rs : List Rc) : Prop := w.ownsRow B 25 6 (.slice a rs.length cap) rs.length (flatC rs)
theorem infoR : (Try.prog.info? 25).map (fun i => (i.zero, i.size, i.bytes)) = some (some (.agg #[.int .i64 0, .int .i64 0, .string ByteArray.empty, .string ByteArray.empty, .int .i64 0, .int .i64 0]), 6, 64) := by kernel_rfl
theorem recL_one (r : Rc) : ∀ v ∈ recL r, v.oneCell' = true := by
  intro v hv
  simp only [recL, reqL, List.mem_cons, List.not_mem_nil, or_false] at hv
  rcases hv with rfl | rfl | rfl | rfl | rfl | rfl <;> rfl
theorem flatC_len : ∀ rs : List Rc, (flatC rs).length = rs.length * 6
  | [] => rfl
  | r :: rs => by
    rw [flatC, List.flatMap_cons, List.length_append]
    have := flatC_len rs
    rw [flatC] at this
    rw [this]
    simp [recL, reqL]
    omega
theorem flatC_append (a b : List Rc) : flatC (a ++ b) = flatC a ++ flatC b := by simp [flatC]
theorem flatC_at {j : Nat} (hj : j < 6) : ∀ {rs : List Rc} {i : Nat} {r : Rc}, rs[i]? = some r → (flatC rs)[i * 6 + j]? = (recL r)[j]?
  | [], i, r, h => by simp at h
  | x :: rs, 0, r, h => by
    simp at h
    subst h
    rw [flatC, List.flatMap_cons, List.getElem?_append_left (by simp [recL, reqL]; omega)]
    simp
  | x :: rs, i + 1, r, h => by
    have := flatC_at hj (rs := rs) (i := i) (r := r) (by simpa using h)
    rw [flatC, List.flatMap_cons, List.getElem?_append_right (by simp [recL, reqL]; omega), ← this]
    congr 1
    simp [recL, reqL]
    omega
theorem OwnR.rd {w : World} {B : Nat} {a : Option Addr} {cap : Nat} {rs : List Rc} (h : OwnR w B a cap rs) : RdR w a rs := by
  have hl := h.1
  rcases h.2 with ⟨e, h0⟩ | ⟨g, c, cur, e, _⟩
  · exact Or.inl (List.eq_nil_of_length_eq_zero h0)
  · have e0 := e
    injection e with e1 e2 e3
    subst e1
    refine Or.inr ⟨g, 0, rfl, fun i r hi j v hv => ?_⟩
    have h1 := (List.getElem?_eq_some_iff.1 hi).1
    have h2 := (List.getElem?_eq_some_iff.1 hv).1
    have h2 : j < 6 := h2
    rw [Nat.zero_add, World.ownsRow.cellAt h (i * 6 + j) (by omega), flatC_at h2 hi]
    exact hv
theorem RdR.later {w w' : World} {a : Option Addr} {rs : List Rc} (h : RdR w a rs) (hb : Below w.heap.size w w') : RdR w' a rs := by
  rcases h with h | ⟨b, off, ha, hc⟩
  · exact Or.inl h
  · exact Or.inr ⟨b, off, ha, fun i r hi j v hv => (hb.cell (World.block_lt_of_cell? _ _ (hc i r hi j v hv))).trans (hc i r hi j v hv)⟩
theorem OwnR.cap_le {w : World} {B : Nat} {a : Option Addr} {cap : Nat} {rs : List Rc} (h : OwnR w B a cap rs) : rs.length ≤ cap := by
  rcases h.2 with ⟨e, h0⟩ | ⟨g, c, cur, e, _, _, hnc, _⟩
  · omega
  · injection e with _ _ e3
    rw [e3]
    exact hnc
theorem OwnR.later {w w' : World} {B : Nat} {a : Option Addr} {cap : Nat} {rs : List Rc} (h : OwnR w B a cap rs) (hb : Below w.heap.size w w') : OwnR w' B a cap rs := by
  refine ⟨h.1, ?_⟩
  rcases h.2 with h | ⟨g, c, cur, e, hB, hg, hr⟩
  · exact Or.inl h
  · exact Or.inr ⟨g, c, cur, e, hB, (hb.block g (Array.getElem?_eq_some_iff.1 hg).1).trans hg, hr⟩
theorem OwnR.alloc {w : World} {B : Nat} {a : Option Addr} {cap : Nat} {rs : List Rc} (h : OwnR w B a cap rs) (o : Obj) : OwnR (w.alloc o) B a cap rs := World.ownsRow.alloc h o
theorem cells_new (w : World) (l : List Value) (t : TypeId) : ∀ j u, l[j]? = some u → (w.alloc (.cells l.toArray t)).cell? ((⟨w.heap.size, 0, none⟩ : Addr).add j) = some u := by
  intro j u hj
  rw [Go.WideShapes.add_plain, (Box.new w l.toArray t).cell (0 + j)]
  simpa using hj
/-- A record is appended, which lies in a block of its own. -/
theorem wpList_appR {ops : Array Oper} {rest : List Oper} {o : Oper} {act : Act} {Q : Exit → Act → World → Prop} {w : World} (hgd : o.guard = none) (s x : Operand) (ho : o.op = .call { callee := .builtin .append, args := #[s, x], argTypes := #[32, 32] })
    (B : Nat) (a : Option Addr) (cap : Nat) (rs : List Rc) (r : Rc) (hs : act.eval s = .slice a rs.length cap) (hown : OwnR w B a cap rs)
    (b2 : Nat) (hx : act.eval x = .slice (some ⟨b2, 0, none⟩) 1 1) (hr : ∀ j u, (recL r)[j]? = some u → w.cell? ((⟨b2, 0, none⟩ : Addr).add j) = some u) (hl : rs.length ≤ 1000000) (hB : B ≤ w.heap.size)
    (h : ∀ a' cap' w', OwnR w' B a' cap' (rs ++ [r]) → Below B w w' → wpList Try.prog ops Q rest (act.put o.dst (.slice a' (rs ++ [r]).length cap')) w') : wpList Try.prog ops Q (o :: rest) act w := by
  obtain ⟨i0, hi0, hz0, hz1, hz2⟩ := info_parts infoR
  refine wpList_append_own_at _ hgd s x _ ho B 25 i0 _ 6 64 Try.underlying32 hi0 hz0 hz1 hz2 rfl (by decide) (.slice a rs.length cap) _ _ hs hown ⟨b2, 0, none⟩ 1 1 (recL r) hx rfl hr (recL_one r) (by unfold maxLen; omega) (by omega) hB ?_
  intro v' w' hown' hg _ _
  obtain ⟨a', cap', rfl⟩ := own_slice hown'
  have := h a' cap' w' (by unfold OwnR; rw [List.length_append, flatC_append]; simpa [flatC] using hown') ((Below.refl _ _).grown hg hB (fun k hk => (hown.lt k hk).1))
  simpa using this

theorem scan_step {l : List Int} (hb : Byts l) {rs : List Rc} {n : Nat} (h1 : ∀ r ∈ rs, soundR r ∧ FitR r) (h2 : n = (flatR rs).length) (h3 : l = flatR rs ++ l.drop n) {r : Rc} {m : Nat} (h : decR (l.drop n) = some (r, m)) :
    (∀ x ∈ rs ++ [r], soundR x ∧ FitR x) ∧ n + m = (flatR (rs ++ [r])).length ∧ l = flatR (rs ++ [r]) ++ l.drop (n + m) ∧ n + m ≤ l.length ∧ 26 ≤ m := by
  obtain ⟨g1, g2, g3, g4, g5, g6⟩ := enc_inv (hb.drop n) h
  rw [List.length_drop] at g3
  refine ⟨fun x hx => ?_, ?_, ?_, by omega, g4⟩
  · rcases List.mem_append.1 hx with hx | hx
    · exact h1 x hx
    · rw [List.mem_singleton.1 hx]
      exact ⟨g1, g2⟩
  · rw [h2, g5]
    simp [flatR]
  · conv => lhs; rw [h3, g6]
    simp [flatR, List.drop_drop]

set_option maxHeartbeats 2000000 in
theorem scan_at (l : List Int) (len : Nat) (a : Option Addr) (cap : Nat) (w : World) (hn : l.length = len) (hr : RdB w a l) (hb : Byts l) (hc : len ≤ cap) (hl : len < 1000000) (hp : cap = 0 ∨ ∃ b off, a = some ⟨b, off, none⟩) :
    Calls Try.prog 12 #[.slice a len cap] w fun e w' => ∃ (rs : List Rc) (n : Nat) (a' : Option Addr) (cap' : Nat), e = .returned (.tuple #[.slice a' rs.length cap', .int .i64 n]) ∧ Scanned l rs n ∧ OwnR w' w.heap.size a' cap' rs ∧ n ≤ len ∧ rs.length ≤ len ∧ Below w.heap.size w w' := by
  have HLEN := Lib.hid hn
  have HRD := Lib.hid hr
  have HBY := Lib.hid hb
  clear hn hr hb
  go_enter Try.func12, Try.ntmps12
  go_wp2_with fail
  go_loopw [4, 5] (fun vs vn wx => ∃ (rs : List Rc) (n : Nat) (a' : Option Addr) (cap' : Nat), n ≤ len ∧ rs.length ≤ n ∧ vs = .slice a' rs.length cap' ∧ vn = .int .i64 n ∧ Hid (∀ r ∈ rs, soundR r ∧ FitR r) ∧ Hid (n = (flatR rs).length) ∧ Hid (l = flatR rs ++ l.drop n) ∧ Hid (OwnR wx w.heap.size a' cap' rs) ∧ Hid (Below w.heap.size w wx)) (fun _ vn _ => len - (intOf vn).toNat)
  case atStart => exact ⟨[], 0, none, 0, by omega, by simp, rfl, rfl, Lib.hid (by simp), Lib.hid rfl, Lib.hid (by simp [flatR]), Lib.hid (World.ownsRow_nil _ _ _ _), Lib.hid (Below.refl _ _)⟩
  case round =>
    obtain ⟨rs, n, a', cap', hnl, hrn, rfl, rfl, H1, H2, H3, HOW, HB⟩ := hrel
    have hbs := HB.out.size
    go_upto_region 3 with fail
    go_cut [6, 7, 8] (fun v6 v7 v8 wx => ∃ (r : Rc) (m : Int) (b : Bool) (g : Nat), v6 = .pointer (some ⟨g, 0, none⟩) ∧ v7 = .int .i64 m ∧ v8 = .bool b ∧ w.heap.size ≤ g ∧ Hid ((b = true ∧ ∃ k : Nat, m = k ∧ decR (l.drop n) = some (r, k)) ∨ (b = false ∧ decR (l.drop n) = none)) ∧ Hid (Box wx g (recL r).toArray 25) ∧ Hid (OwnR wx w.heap.size a' cap' rs) ∧ Hid (Below w.heap.size w wx))
    case first =>
      rcases hp with rfl | ⟨b, off, rfl⟩
      · skip
        have HRX : RdB wr a (l.drop n) := Or.inl (List.drop_eq_nil_of_le (by rw [HLEN.out]; omega))
        have HRN : Hid (RdB wr a (l.drop n)) := Lib.hid HRX
        go_wp2_with fail
        refine (decode_at (l.drop n) (len - n) _ _ _ (by rw [List.length_drop, HLEN.out]) HRN.out (HBY.out.drop n) (by omega) (by omega)).mono ?_
        rintro e w1 ⟨⟨⟨k1, k2, k3, k4, k5, k6⟩, m, b, he, hcase⟩, hb1⟩
        have he' : e = .returned (.tuple #[.agg #[.int .i64 k1, .int .i64 k2, .string k3, .string k4, .int .i64 k5, .int .i64 k6], .int .i64 m, .bool b]) := he
        subst he'
        clear he
        have HC := Lib.hid hcase
        clear hcase
        have hb1s := hb1.size
        go_wp2_with fail
        go_meet
        exact ⟨⟨k1, k2, k3, k4, k5, k6⟩, m, b, w1.heap.size, rfl, rfl, rfl, by omega, HC, Lib.hid (Box.new w1 _ _), Lib.hid ((HOW.out.later hb1).alloc _), Lib.hid ((HB.out.trans (hb1.mono HB.out.size)).alloc (by omega) _)⟩
      · have HRW := Lib.hid (HRD.out.later (HB.out.mono (Nat.le_refl _)))
        obtain ⟨i0, hi0, hz0, hz1, hz2⟩ := info_parts info5
        obtain ⟨U, hU, hU1, _⟩ := slice_from (P := Try.prog) 27 5 Try.underlying27 hi0 hz1 b off len cap n hnl hc
        have HRX : RdB wr (some ⟨b, U, none⟩) (l.drop n) := RdB.rest HRW.out (by rw [HLEN.out]; exact hc) hU1
        clear hi0 hz0 hz1 hz2 hU1
        have HRN : Hid (RdB wr (some ⟨b, U, none⟩) (l.drop n)) := Lib.hid HRX
        go_wp2_with (refine wpList_slice rfl 27 _ _ _ _ _ rfl rfl hU ?_)
        refine (decode_at (l.drop n) (len - n) _ _ _ (by rw [List.length_drop, HLEN.out]) HRN.out (HBY.out.drop n) (by omega) (by omega)).mono ?_
        rintro e w1 ⟨⟨⟨k1, k2, k3, k4, k5, k6⟩, m, b, he, hcase⟩, hb1⟩
        have he' : e = .returned (.tuple #[.agg #[.int .i64 k1, .int .i64 k2, .string k3, .string k4, .int .i64 k5, .int .i64 k6], .int .i64 m, .bool b]) := he
        subst he'
        clear he
        have HC := Lib.hid hcase
        clear hcase
        have hb1s := hb1.size
        go_wp2_with fail
        go_meet
        exact ⟨⟨k1, k2, k3, k4, k5, k6⟩, m, b, w1.heap.size, rfl, rfl, rfl, by omega, HC, Lib.hid (Box.new w1 _ _), Lib.hid ((HOW.out.later hb1).alloc _), Lib.hid ((HB.out.trans (hb1.mono HB.out.size)).alloc (by omega) _)⟩
    case rest =>
      clear HOW HB hbs
      obtain ⟨⟨k1, k2, k3, k4, k5, k6⟩, m, b, g, rfl, rfl, rfl, hg, HC, HBX, HOW, HB⟩ := hcut
      have hbx : Box wc g #[.int .i64 k1, .int .i64 k2, .string k3, .string k4, .int .i64 k5, .int .i64 k6] 25 := HBX.out
      obtain ⟨lx, cx, fx⟩ := hbx.facts
      clear hbx
      have hbs := HB.out.size
      cases b with
      | false =>
        have hnone : decR (l.drop n) = none := by
          rcases HC.out with ⟨h, _⟩ | ⟨_, h⟩
          · cases h
          · exact h
        have HN := Lib.hid hnone
        clear hnone
        go_wp2_with fail
        exact bodyPost_ret (v := .tuple #[.slice a' rs.length cap', .int .i64 n]) (by simp [results, Try.results12, go_sem]) rfl ⟨rs, n, a', cap', rfl, ⟨H1.out, H2.out, H3.out, HN.out⟩, HOW.out, hnl, by omega, HB.out⟩
      | true =>
        obtain ⟨k, hk, hdec⟩ : ∃ k : Nat, m = k ∧ decR (l.drop n) = some (⟨k1, k2, k3, k4, k5, k6⟩, k) := by
          rcases HC.out with ⟨_, h⟩ | ⟨h, _⟩
          · exact h
          · cases h
        subst hk
        obtain ⟨g1, g2, g3, g4, g5⟩ := scan_step HBY.out H1.out H2.out H3.out hdec
        rw [HLEN.out] at g4
        have G1 := Lib.hid g1
        have G2 := Lib.hid g2
        have G3 := Lib.hid g3
        have GL : Hid (rs.length + 1 = (rs ++ [(⟨k1, k2, k3, k4, k5, k6⟩ : Rc)]).length) := Lib.hid (by simp)
        clear g1 g2 g3 hdec H1 H2 H3 HC
        go_wp2_with (at_builtin; refine wpList_appR rfl _ _ rfl w.heap.size a' cap' rs ⟨k1, k2, k3, k4, k5, k6⟩ rfl (HOW.out.alloc _) wc.heap.size rfl (cells_new wc (recL ⟨k1, k2, k3, k4, k5, k6⟩) 25) (by omega) (by simp; omega) ?_; intro a2 cap2 w2 hown2 hb2)
        have HB2 := Lib.hid ((HB.out.alloc hbs _).trans hb2)
        generalize rs ++ [(⟨k1, k2, k3, k4, k5, k6⟩ : Rc)] = rs2 at *
        go_roundw
        case rel => exact ⟨rs2, n + k, a2, cap2, g4, by have := GL.out; omega, by rw [GL.out], by go_num, G1, G2, G3, Lib.hid hown2, HB2⟩
        case measure => simp [intOf]; omega
end Go.Proofs.Ytndgpdpabjaedaa
