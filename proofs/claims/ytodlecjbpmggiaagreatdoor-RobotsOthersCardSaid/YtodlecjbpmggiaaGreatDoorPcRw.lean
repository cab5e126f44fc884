/- Package pct: Norm and Decode: what they write for each text. -/
import Derived.Test.YtodlecjbpmggiaaGreatDoorPcRune
namespace Go.Proofs.YtodlecjbpmggiaaGreatDoor
open Go.RowKit
set_option linter.unusedVariables false
set_option linter.unusedSimpArgs false

theorem IsB.later {B b : Nat} {l : List Int} {w w' : World} (h : IsB B b l w) (hb : Below w.heap.size w w') : IsB B b l w' := by
  have key : ∀ p, Lib.BuilderAtF 109 5 B b p (l.map (Value.int .u8)) w → Lib.BuilderAtF 109 5 B b p (l.map (Value.int .u8)) w' := by
    rintro p ⟨hB, v, hbk, hown, hne⟩
    refine ⟨hB, v, (hb.block b (Array.getElem?_eq_some_iff.1 hbk).1).trans hbk, ⟨hown.1, ?_⟩, hne⟩
    rcases hown.2 with h | ⟨g, c, cur, fz, e, hB, hg, hr⟩
    · exact Or.inl h
    · exact Or.inr ⟨g, c, cur, fz, e, hB, (hb.block g (Array.getElem?_eq_some_iff.1 hg).1).trans hg, hr⟩
  rcases h with h | h
  · exact Or.inl (key _ h)
  · exact Or.inr (key _ h)
theorem Kp.of_below {B b : Nat} {w w' : World} (h : Below w.heap.size w w') (hB : B ≤ w.heap.size) : Kp B b w w' :=
  ⟨h.mono hB, fun k o hk _ _ => (h.block k (Array.getElem?_eq_some_iff.1 hk).1).trans hk⟩
theorem Kp.of_below' {B b : Nat} {w w' : World} (h : Below w.heap.size w w') (hB : B ≤ w.heap.size) : Kp B b w w' := Kp.of_below h hB

/-- The tables of package utf8, as their initialisers lay them. -/
def Tabs (w : World) : Prop := Lib.Utf8Tabs (Tryz.lays197_ren.g 3) (Tryz.lays197_ren.g 4) w
theorem Tabs.later {w w' : World} (h : Tabs w) (hb : Below w.heap.size w w') : Tabs w' :=
  ⟨fun c hc => (hb.cell (World.block_lt_of_cell? _ _ (h.1 c hc))).trans (h.1 c hc), fun i hi => ⟨(hb.cell (World.block_lt_of_cell? _ _ (h.2 i hi).1)).trans (h.2 i hi).1, (hb.cell (World.block_lt_of_cell? _ _ (h.2 i hi).2)).trans (h.2 i hi).2⟩⟩
theorem Tabs.below {w w' : World} {B : Nat} (h : Tabs w) (hb : Below B w w') (hB : w.heap.size ≤ B) : Tabs w' := h.later (hb.mono hB)
theorem decode_at (s : ByteArray) (w : World) (hT : Tabs w) :
    Calls Tryz.prog 82 #[.string s] w fun e w' => e = .returned (.tuple #[.int .i32 (Lib.decodeGo s).1, .int .i64 (Lib.decodeGo s).2]) ∧ Below w.heap.size w w' :=
  Any.utf8_DecodeRuneInString Tryz.lays197 s w hT

def cds (l : List Int) : List Int := l.flatMap codeI
theorem cds_snoc (l : List Int) (c : Int) : cds (l ++ [c]) = cds l ++ codeI c := by simp [cds]
theorem cds_len (l : List Int) : (cds l).length = 3 * l.length := by
  induction l with
  | nil => rfl
  | cons a l ih =>
    have : cds (a :: l) = codeI a ++ cds l := by simp [cds]
    rw [this, List.length_append, ih]
    simp [codeI]
    omega

theorem ntriple_at (B b : Nat) (l : List Int) (c : Int) (h0 : 0 ≤ c) (h1 : c < 256) (w : World) (hI : IsB B b l w) (hl : l.length ≤ 1000000) (hB : B ≤ w.heap.size) :
    Calls Tryz.prog 69 #[.pointer (some ⟨b, 0, none⟩), .int .u8 c] w fun e w' => e = .returned (.tuple #[]) ∧ IsB B b (l ++ nT c) w' ∧ Kp B b w w' := by
  have HI := Lib.hid hI
  clear hI
  obtain ⟨fb, hfb⟩ : ∃ fb, freeI c = fb := ⟨_, rfl⟩
  have HF := Lib.hid hfb
  have HN : Hid (nT c = if fb then [c] else codeI c) := Lib.hid (by rw [← hfb]; rfl)
  clear hfb
  go_enter Tryz.func69, Tryz.ntmps69
  go_wp2_with fail
  refine (unreserved_as c fb HF.out _).mono ?_
  rintro e w' ⟨rfl, rfl⟩
  cases fb
  · go_wp2_with fail
    refine (wtriple_at B b l c h0 h1 _ HI.out hl hB).mono ?_
    rintro e w1 ⟨rfl, h2, k2⟩
    have H2 := Lib.hid h2
    have K2 := Lib.hid k2
    clear h2 k2
    go_wp2
    go_end0
    rw [HN.out]
    exact ⟨rfl, H2.out, K2.out⟩
  · go_wp2_with fail
    refine (wbyte_at B b l c _ HI.out (by omega) hB).mono ?_
    rintro e w1 ⟨rfl, h2, k2⟩
    have H2 := Lib.hid h2
    have K2 := Lib.hid k2
    clear h2 k2
    go_wp2
    refine bodyPost_ret (v := .tuple #[]) (by simp [results, Tryz.results69, go_sem]) rfl ?_
    rw [HN.out]
    exact ⟨rfl, H2.out, K2.out⟩
theorem width_at (s : ByteArray) (w : World) (hT : Tabs w) :
    Calls Tryz.prog 95 #[.string s] w fun e w' => e = .returned (.int .i64 (Lib.decodeGo s).2) ∧ Below w.heap.size w w' := by
  have HT := Lib.hid hT
  clear hT
  go_enter Tryz.func95, Tryz.ntmps95
  go_wp2_with fail
  refine (decode_at s _ HT.out).mono ?_
  rintro e w' ⟨rfl, hb⟩
  have HB := Lib.hid hb
  clear hb
  go_wp2
  go_ret
  exact ⟨rfl, HB.out⟩
theorem btL_get (x : ByteArray) (k : Nat) (h : k < x.size) : (btL x).take (k + 1) = (btL x).take k ++ [(x[k].toNat : Int)] := by
  have hk : k < (btL x).length := by simpa using h
  rw [List.take_succ_eq_append_getElem hk]
  congr 2
  simp [btL]
  rfl
set_option maxHeartbeats 1000000 in
theorem nplain_code (B b : Nat) (l : List Int) (x : ByteArray) (c : Int) (n : Nat) (hd : Lib.decodeGo x = (c.toNat, n)) (hc : 0 ≤ c) (hf : freeI c = false)
    (hcr : ∀ w, Calls Tryz.prog 83 #[.string ⟨#[33, 36, 38, 39, 40, 41, 42, 43, 44, 59, 61, 58, 64, 47, 63, 91, 93]⟩, .int .i32 c] w fun e w' => e = .returned (.bool false) ∧ Below w.heap.size w w')
    (hx : x.size ≤ 1000) (w : World) (hI : IsB B b l w) (hT : Tabs w) (hl : l.length ≤ 100000) (hB : B ≤ w.heap.size) :
    Calls Tryz.prog 70 #[.pointer (some ⟨b, 0, none⟩), .string x] w fun e w' => e = .returned (.tuple #[]) ∧ IsB B b (l ++ cds (btL x)) w' ∧ Kp B b w w' := by
  have HI := Lib.hid hI
  have HT := Lib.hid hT
  have HD := Lib.hid hd
  have HF := Lib.hid hf
  have HC := Lib.hid hcr
  clear hI hT hd hf hcr
  go_enter Tryz.func70, Tryz.ntmps70
  go_wp2_with fail
  refine (decode_at x _ HT.out).mono ?_
  rw [HD.out, show ((c.toNat : Nat) : Int) = c from by omega]
  rintro e w1 ⟨rfl, hb1⟩
  have I1 := Lib.hid (HI.out.later hb1)
  have B1 : B ≤ w1.heap.size := Nat.le_trans hB hb1.size
  have K1 := Lib.hid (Kp.of_below (b := b) hb1 hB)
  clear hb1
  go_wp2_with fail
  refine (unreserved_as c false HF.out _).mono ?_
  rintro e w' ⟨rfl, rfl⟩
  go_wp2_with fail
  refine (HC.out _).mono ?_
  rintro e w2 ⟨rfl, hb2⟩
  have I2 := Lib.hid (I1.out.later hb2)
  have B2 : B ≤ w2.heap.size := Nat.le_trans B1 hb2.size
  have K2 := Lib.hid (K1.out.trans (Kp.of_below (b := b) hb2 B1))
  clear hb2
  go_wp2_with fail
  go_loopw [6, 23] (fun _ i wr => ∃ k : Nat, k ≤ x.size ∧ i = .int .i64 k ∧ Hid (IsB B b (l ++ cds ((btL x).take k)) wr ∧ Kp B b w wr) ∧ B ≤ wr.heap.size) (fun _ i _ => x.size - (intOf i).toNat)
  case atStart => exact ⟨0, Nat.zero_le _, rfl, Lib.hid ⟨by simpa [cds] using I2.out, K2.out⟩, B2⟩
  case round =>
    obtain ⟨k, hk, rfl, HR, Br⟩ := hrel
    by_cases hlt : k < x.size
    · have hu := x[k].toNat_lt
      have hbt := btL_get x k hlt
      obtain ⟨u, hu'⟩ : ∃ u : Int, (x[k].toNat : Int) = u := ⟨_, rfl⟩
      rw [hu'] at hbt
      have u0 : 0 ≤ u := by omega
      have u1 : u < 256 := by omega
      have HBT := Lib.hid hbt
      have hlen : (l ++ cds ((btL x).take k)).length ≤ 1000000 := by
        rw [List.length_append, cds_len]
        have := List.length_take_le k (btL x)
        omega
      have HL := Lib.hid hlen
      clear hbt hu hlen
      go_wp2_with fail
      refine (wtriple_at B b (l ++ cds ((btL x).take k)) u u0 u1 _ HR.out.1 HL.out Br).mono ?_
      rintro e w3 ⟨rfl, h3, k3⟩
      have B3 : B ≤ w3.heap.size := Nat.le_trans Br k3.1.size
      have H3 : Hid (IsB B b (l ++ cds ((btL x).take (k + 1))) w3 ∧ Kp B b w w3) := Lib.hid ⟨by rw [HBT.out, cds_snoc, ← List.append_assoc]; exact h3, HR.out.2.trans k3⟩
      clear h3 k3
      go_wp2
      go_roundw
      case rel => exact ⟨k + 1, by omega, by go_num, H3, B3⟩
      case measure => simp [intOf]; omega
    · have HE : Hid ((btL x).take k = btL x) := Lib.hid (List.take_of_length_le (by simp; omega))
      go_wp2
      go_end0
      have := HR.out
      rw [HE.out] at this
      exact ⟨rfl, this.1, this.2⟩
set_option maxHeartbeats 1000000 in
theorem nplain_keep (B b : Nat) (l : List Int) (x : ByteArray) (c : Int) (n : Nat) (hd : Lib.decodeGo x = (c.toNat, n)) (hc : 0 ≤ c) (hc2 : c < 128) (hf : (freeI c || resI c) = true)
    (hx : x.size ≤ 1000) (w : World) (hI : IsB B b l w) (hT : Tabs w) (hl : l.length ≤ 100000) (hB : B ≤ w.heap.size) :
    Calls Tryz.prog 70 #[.pointer (some ⟨b, 0, none⟩), .string x] w fun e w' => e = .returned (.tuple #[]) ∧ IsB B b (l ++ btL x) w' ∧ Kp B b w w' := by
  have HI := Lib.hid hI
  have HT := Lib.hid hT
  have HD := Lib.hid hd
  clear hI hT hd
  obtain ⟨f1, hf1⟩ : ∃ f1, freeI c = f1 := ⟨_, rfl⟩
  have HF := Lib.hid hf1
  have hr : f1 = false → resI c = true := fun e => by rw [hf1, e, Bool.false_or] at hf; exact hf
  clear hf hf1
  cases f1
  · have HR := Lib.hid (hr rfl)
    clear hr
    go_enter Tryz.func70, Tryz.ntmps70
    go_wp2_with fail
    refine (decode_at x _ HT.out).mono ?_
    rw [HD.out, show ((c.toNat : Nat) : Int) = c from by omega]
    rintro e w1 ⟨rfl, hb1⟩
    have I1 := Lib.hid (HI.out.later hb1)
    have B1 : B ≤ w1.heap.size := Nat.le_trans hB hb1.size
    have K1 := Lib.hid (Kp.of_below (b := b) hb1 hB)
    clear hb1
    go_wp2_with fail
    refine (unreserved_as c false HF.out _).mono ?_
    rintro e w' ⟨rfl, rfl⟩
    go_wp2_with fail
    refine (crune_low c true HR.out hc hc2 _).mono ?_
    rintro e w' ⟨rfl, rfl⟩
    go_wp2_with fail
    refine (wstr_at B b l x _ I1.out (by omega) (by omega) B1).mono ?_
    rintro e w2 ⟨rfl, h2, k2⟩
    have H2 := Lib.hid h2
    have K2 := Lib.hid (K1.out.trans k2)
    clear h2 k2
    go_wp2
    exact bodyPost_ret (v := .tuple #[]) (by simp [results, Tryz.results70, go_sem]) rfl ⟨rfl, H2.out, K2.out⟩
  · clear hr
    go_enter Tryz.func70, Tryz.ntmps70
    go_wp2_with fail
    refine (decode_at x _ HT.out).mono ?_
    rw [HD.out, show ((c.toNat : Nat) : Int) = c from by omega]
    rintro e w1 ⟨rfl, hb1⟩
    have I1 := Lib.hid (HI.out.later hb1)
    have B1 : B ≤ w1.heap.size := Nat.le_trans hB hb1.size
    have K1 := Lib.hid (Kp.of_below (b := b) hb1 hB)
    clear hb1
    go_wp2_with fail
    refine (unreserved_as c true HF.out _).mono ?_
    rintro e w' ⟨rfl, rfl⟩
    go_wp2_with fail
    refine (wstr_at B b l x _ I1.out (by omega) (by omega) B1).mono ?_
    rintro e w2 ⟨rfl, h2, k2⟩
    have H2 := Lib.hid h2
    have K2 := Lib.hid (K1.out.trans k2)
    clear h2 k2
    go_wp2
    exact bodyPost_ret (v := .tuple #[]) (by simp [results, Tryz.results70, go_sem]) rfl ⟨rfl, H2.out, K2.out⟩
end Go.Proofs.YtodlecjbpmggiaaGreatDoor
