/- Package pct: what writes; the document's own. -/
import Derived.Test.YtodlecjbpmggiaaGreatDoorPcBase
import Derived.Test.YtodlecjbpmggiaaGreatDoorShelf
namespace Go.Proofs.YtodlecjbpmggiaaGreatDoor
open Go.RowKit

theorem mem_of_small (L : List Int) (f : Int → Bool) (hL : ∀ x ∈ L, 0 ≤ x ∧ x < 128) (hf : ∀ c, f c = true → 0 ≤ c ∧ c < 128) (h : ∀ i : Fin 128, decide ((i.val : Int) ∈ L) = f i.val) (c : Int) : decide (c ∈ L) = f c := by
  by_cases hc : 0 ≤ c ∧ c < 128
  · have := h ⟨c.toNat, by omega⟩
    rw [show ((⟨c.toNat, by omega⟩ : Fin 128).val : Int) = c from by show (c.toNat : Int) = c; omega] at this
    exact this
  · cases hfc : f c with
    | true => exact absurd (hf c hfc) hc
    | false => exact decide_eq_false fun h => hc (hL c h)
theorem free_mem (c : Int) : decide (c ∈ btL ⟨#[97, 98, 99, 100, 101, 102, 103, 104, 105, 106, 107, 108, 109, 110, 111, 112, 113, 114, 115, 116, 117, 118, 119, 120, 121, 122, 65, 66, 67, 68, 69, 70, 71, 72, 73, 74, 75, 76, 77, 78, 79, 80, 81, 82, 83, 84, 85, 86, 87, 88, 89, 90, 48, 49, 50, 51, 52, 53, 54, 55, 56, 57, 45, 46, 95, 126]⟩) = freeI c := by
  refine mem_of_small _ freeI (by decide +kernel) (fun c h => ?_) (by decide +kernel) c
  rw [freeI_iff] at h
  unfold freeP at h
  omega
theorem res_mem (c : Int) : decide (c ∈ btL ⟨#[33, 36, 38, 39, 40, 41, 42, 43, 44, 59, 61, 58, 64, 47, 63, 91, 93]⟩) = resI c := by
  refine mem_of_small _ resI (by decide +kernel) (fun c h => ?_) (by decide +kernel) c
  rw [resI_iff] at h
  unfold resP at h
  omega
set_option maxHeartbeats 1000000 in
theorem rfree_as (c : Int) (b : Bool) (hb : freeI c = b) (w : World) :
    Calls Tryz.prog 77 #[.int .u8 c] w fun e w' => e = .returned (.bool b) ∧ w = w' := by
  have HB := Lib.hid hb
  clear hb
  go_enter Tryz.func77, Tryz.ntmps77
  go_wp2_with fail
  refine (rin_as _ c b (by rw [← HB.out]; exact free_mem c) (by decide) _).mono ?_
  rintro e w' ⟨rfl, rfl⟩
  go_wp2
  go_ret
  exact ⟨rfl, rfl⟩
theorem rres_as (c : Int) (b : Bool) (hb : resI c = b) (w : World) :
    Calls Tryz.prog 79 #[.string ⟨#[33, 36, 38, 39, 40, 41, 42, 43, 44, 59, 61, 58, 64, 47, 63, 91, 93]⟩, .int .u8 c] w fun e w' => e = .returned (.bool b) ∧ w = w' :=
  rin_as _ c b (by rw [← hb]; exact res_mem c) (by decide) _
theorem digs (c : Int) (h0 : 0 ≤ c) (h1 : c < 256) : ∃ (a b : Nat) (ha : a < 16) (hb : b < 16), c / 16 = a ∧ c % 16 = b ∧ digI (c / 16) = (((({ data := #[48, 49, 50, 51, 52, 53, 54, 55, 56, 57, 65, 66, 67, 68, 69, 70] } : ByteArray)[a]'ha).toNat : Int)) ∧ digI (c % 16) = (((({ data := #[48, 49, 50, 51, 52, 53, 54, 55, 56, 57, 65, 66, 67, 68, 69, 70] } : ByteArray)[b]'hb).toNat : Int)) := by
  refine ⟨(c / 16).toNat, (c % 16).toNat, by omega, by omega, by omega, by omega, ?_, ?_⟩
  · rw [dig_get _ (by omega), show (((c / 16).toNat : Nat) : Int) = c / 16 from by omega]
  · rw [dig_get _ (by omega), show (((c % 16).toNat : Nat) : Int) = c % 16 from by omega]
theorem dig_at (n : Int) (h0 : 0 ≤ n) (h1 : n < 16) (h : n.toNat < ({ data := #[48, 49, 50, 51, 52, 53, 54, 55, 56, 57, 65, 66, 67, 68, 69, 70] } : ByteArray).size) : ((({ data := #[48, 49, 50, 51, 52, 53, 54, 55, 56, 57, 65, 66, 67, 68, 69, 70] } : ByteArray)[n.toNat]'h).toNat : Int) = digI n := by
  have := dig_get n.toNat (by omega)
  rw [this, show ((n.toNat : Nat) : Int) = n from by omega]
theorem conv_at {W : World} {g : Nat} {l : List Int} (h : RdB W (some ⟨g, 0, none⟩) l) (k cap : Nat) (hk : l.length = k) : (convert 74 9 (.slice (some ⟨g, 0, none⟩) k cap)).run Tryz.prog W = .ok (.string (strL l)) W := by
  subst hk
  exact h.text _ 5 _ Tryz.underlying74 Tryz.underlying5 Tryz.underlying9 (fun _ => Or.inr ⟨_, _, rfl⟩) cap
theorem rcode_as (c : Int) (h0 : 0 ≤ c) (h1 : c < 256) (w : World) :
    Calls Tryz.prog 78 #[.int .u8 c] w fun e w' => e = .returned (.string (strL (codeI c))) ∧ Below w.heap.size w w' := by
  have a1 : 0 ≤ c / 16 := by omega
  have a2 : c / 16 < 16 := by omega
  have b1 : 0 ≤ c % 16 := by omega
  have b2 : c % 16 < 16 := by omega
  have e1 := dig_at (c / 16) a1 a2 (by show (c / 16).toNat < 16; omega)
  have e2 := dig_at (c % 16) b1 b2 (by show (c % 16).toNat < 16; omega)
  have hcv := conv_at (RdB.new w [37, digI (c / 16), digI (c % 16)] 5 (0, 0)).drew 3 3 rfl
  simp only [List.map_cons, List.map_nil] at hcv
  go_enter Tryz.func78, Tryz.ntmps78
  go_wp2
  go_region
  go_wp2
  go_ret
  exact ⟨rfl, ((Below.refl _ _).alloc (Nat.le_refl _) _).drew⟩
theorem hexPair_short (s : ByteArray) (h : s.size < 2) (w : World) :
    Calls Tryz.prog 94 #[.string s] w fun e w' => e = .returned (.tuple #[.int .u8 0, .bool false]) ∧ w = w' := by
  go_enter Tryz.func94, Tryz.ntmps94
  go_wp2
  go_ret2
  exact ⟨rfl, rfl⟩
theorem or_dig {x y : Int} (h1 : 0 ≤ x) (bx : x < 16) (h2 : 0 ≤ y) (yx : y < 16) : bits BinOp.or IntKind.u8 (x * 16) y = 16 * x + y := by
  have : ∀ i j : Fin 16, bits BinOp.or IntKind.u8 ((i.val : Int) * 16) (j.val : Int) = 16 * (i.val : Int) + (j.val : Int) := by decide +kernel
  have := this ⟨x.toNat, by omega⟩ ⟨y.toNat, by omega⟩
  simp only [] at this
  rwa [show ((x.toNat : Nat) : Int) = x from by omega, show ((y.toNat : Nat) : Int) = y from by omega] at this
set_option maxHeartbeats 1000000 in
theorem hexPair_yes (s : ByteArray) (h : 2 ≤ s.size) (a b x y v : Int) (ha : (s[0].toNat : Int) = a) (hb : (s[1].toNat : Int) = b) (hx : hexI a = x) (hy : hexI b = y) (h1 : 0 ≤ x) (h2 : 0 ≤ y) (hv : 16 * x + y = v) (w : World) :
    Calls Tryz.prog 94 #[.string s] w fun e w' => e = .returned (.tuple #[.int .u8 v, .bool true]) ∧ w = w' := by
  have i0 : 0 < s.size := by omega
  have i1 : 1 < s.size := by omega
  have ba := hexI_ascii (c := a) (by omega)
  have bb := hexI_ascii (c := b) (by omega)
  have bx : x < 16 := by have := hexI_bd a; omega
  have yx : y < 16 := by have := hexI_bd b; omega
  obtain ⟨ba1, ba2⟩ := ba
  obtain ⟨bb1, bb2⟩ := bb
  have HX := Lib.hid hx
  have HY := Lib.hid hy
  have HV := Lib.hid hv
  clear hx hy hv
  go_enter Tryz.func94, Tryz.ntmps94
  go_wp2_with fail
  refine (hexDigit_yes a x HX.out h1 _).mono ?_
  rintro e w' ⟨rfl, rfl⟩
  go_wp2_with fail
  refine (hexDigit_yes b y HY.out h2 _).mono ?_
  rintro e w' ⟨rfl, rfl⟩
  go_wp2
  go_ret2
  exact ⟨ret_pair (by rw [← HV.out]; exact or_dig h1 bx h2 yx) rfl, rfl⟩
set_option maxHeartbeats 1000000 in
theorem hexPair_no (s : ByteArray) (h : 2 ≤ s.size) (a b : Int) (ha : (s[0].toNat : Int) = a) (hb : (s[1].toNat : Int) = b) (hn : ¬ (0 ≤ hexI a ∧ 0 ≤ hexI b)) (w : World) :
    Calls Tryz.prog 94 #[.string s] w fun e w' => (∃ v : Int, e = .returned (.tuple #[.int .u8 v, .bool false])) ∧ w = w' := by
  have i0 : 0 < s.size := by omega
  have i1 : 1 < s.size := by omega
  have a1 : 0 ≤ a := by omega
  have a2 : a < 256 := by have := s[0].toNat_lt; omega
  have b1 : 0 ≤ b := by omega
  have b2 : b < 256 := by have := s[1].toNat_lt; omega
  cases c1 : decide (0 ≤ hexI a) <;> cases c2 : decide (0 ≤ hexI b)
  case true.true => exact absurd ⟨of_decide_eq_true c1, of_decide_eq_true c2⟩ hn
  case false.false =>
    have H1 := Lib.hid (of_decide_eq_false c1)
    have H2 := Lib.hid (of_decide_eq_false c2)
    clear c1 c2 hn
    go_enter Tryz.func94, Tryz.ntmps94
    go_wp2_with fail
    refine (hexDigit_no a (by have := H1.out; omega) _).mono ?_
    rintro e w' ⟨rfl, rfl⟩
    go_wp2_with fail
    refine (hexDigit_no b (by have := H2.out; omega) _).mono ?_
    rintro e w' ⟨rfl, rfl⟩
    go_wp2
    go_ret2
    exact ⟨⟨_, rfl⟩, rfl⟩
  case false.true =>
    have H1 := Lib.hid (of_decide_eq_false c1)
    have H2 := Lib.hid (of_decide_eq_true c2)
    obtain ⟨v, hv⟩ : ∃ v, hexI b = v := ⟨_, rfl⟩
    have HV := Lib.hid hv
    have hv0 : 0 ≤ v := by have := H2.out; omega
    have hv1 : v < 16 := by have := hexI_bd b; omega
    clear c1 c2 hn hv
    go_enter Tryz.func94, Tryz.ntmps94
    go_wp2_with fail
    refine (hexDigit_no a (by have := H1.out; omega) _).mono ?_
    rintro e w' ⟨rfl, rfl⟩
    go_wp2_with fail
    refine (hexDigit_yes b v HV.out hv0 _).mono ?_
    rintro e w' ⟨rfl, rfl⟩
    go_wp2
    go_ret2
    exact ⟨⟨_, rfl⟩, rfl⟩
  case true.false =>
    have H1 := Lib.hid (of_decide_eq_true c1)
    have H2 := Lib.hid (of_decide_eq_false c2)
    obtain ⟨v, hv⟩ : ∃ v, hexI a = v := ⟨_, rfl⟩
    have HV := Lib.hid hv
    have hv0 : 0 ≤ v := by have := H1.out; omega
    have hv1 : v < 16 := by have := hexI_bd a; omega
    clear c1 c2 hn hv
    go_enter Tryz.func94, Tryz.ntmps94
    go_wp2_with fail
    refine (hexDigit_yes a v HV.out hv0 _).mono ?_
    rintro e w' ⟨rfl, rfl⟩
    go_wp2_with fail
    refine (hexDigit_no b (by have := H2.out; omega) _).mono ?_
    rintro e w' ⟨rfl, rfl⟩
    go_wp2
    go_ret2
    exact ⟨⟨_, rfl⟩, rfl⟩

/-! A builder of bytes. -/
def IsB (B b : Nat) (l : List Int) (w : World) : Prop := Lib.IsBuilderF 109 5 B b (l.map (Value.int .u8)) w
def Kp (B b : Nat) (w w' : World) : Prop := Below B w w' ∧ Lib.OthersKept 5 (some b) w w'
theorem Kp.trans {B b : Nat} {w w' w'' : World} (h : Kp B b w w') (k : Kp B b w' w'') : Kp B b w w'' := ⟨h.1.trans k.1, h.2.trans k.2⟩
theorem Kp.refl (B b : Nat) (w : World) : Kp B b w w := ⟨Below.refl _ _, Lib.OthersKept.refl _ _ _⟩
theorem wbyte_at (B b : Nat) (l : List Int) (c : Int) (w : World) (h : IsB B b l w) (hl : l.length ≤ 10000000) (hB : B ≤ w.heap.size) :
    Calls Tryz.prog 97 #[.pointer (some ⟨b, 0, none⟩), .int .u8 c] w fun e w' => e = .returned .nilIface ∧ IsB B b (l ++ [c]) w' ∧ Kp B b w w' := by
  refine (Any.Builder_WriteByte_k Tryz.lays167 Tryz.extra167 B b _ c _ h (by simp; omega) hB).mono ?_
  rintro e w1 ⟨rfl, h1, b1, k1⟩
  refine ⟨rfl, ?_, b1, k1⟩
  unfold IsB
  rw [List.map_append]
  exact Or.inr h1
theorem wstr_at (B b : Nat) (l : List Int) (s : ByteArray) (w : World) (h : IsB B b l w) (hl : l.length ≤ 10000000) (hs : s.size ≤ 10000000) (hB : B ≤ w.heap.size) :
    Calls Tryz.prog 91 #[.pointer (some ⟨b, 0, none⟩), .string s] w fun e w' => e = .returned (.tuple #[.int .i64 s.size, .nilIface]) ∧ IsB B b (l ++ btL s) w' ∧ Kp B b w w' := by
  refine (Any.Builder_WriteString_k Tryz.lays166 Tryz.extra166 B b _ s _ h (by simp; omega) hB).mono ?_
  rintro e w1 ⟨rfl, h1, b1, k1⟩
  refine ⟨rfl, ?_, b1, k1⟩
  unfold IsB
  rw [List.map_append]
  refine Or.inr ?_
  have e : Lib.strCells s = (btL s).map (Value.int .u8) := by
    unfold Lib.strCells btL
    rw [List.map_map]
    rfl
  rw [← e]
  exact h1
theorem cells_is (l : List Int) (hb : Byts l) : l.map (Value.int .u8) = Lib.byteCells (l.map fun z => UInt8.ofNat z.toNat) := by
  unfold Lib.byteCells
  rw [List.map_map]
  refine List.map_congr_left fun c hc => ?_
  have := hb c hc
  show Value.int .u8 c = Value.int .u8 _
  congr 1
  simp
  omega
theorem bstr_at (B b : Nat) (l : List Int) (w : World) (h : IsB B b l w) (hb : Byts l) (hB : B ≤ w.heap.size) :
    Calls Tryz.prog 93 #[.pointer (some ⟨b, 0, none⟩)] w fun e w' => e = .returned (.string (strL l)) ∧ Kp B b w w' := by
  unfold IsB at h
  rw [cells_is l hb] at h
  refine (Any.Builder_String_any_k Tryz.lays169 Tryz.extra169 B b _ _ h hB).mono ?_
  rintro e w1 ⟨rfl, h1, b1, k1⟩
  exact ⟨rfl, b1, k1⟩
theorem wtriple_at (B b : Nat) (l : List Int) (c : Int) (h0 : 0 ≤ c) (h1 : c < 256) (w : World) (hI : IsB B b l w) (hl : l.length ≤ 1000000) (hB : B ≤ w.heap.size) :
    Calls Tryz.prog 98 #[.pointer (some ⟨b, 0, none⟩), .int .u8 c] w fun e w' => e = .returned (.tuple #[]) ∧ IsB B b (l ++ codeI c) w' ∧ Kp B b w w' := by
  have a1 : 0 ≤ c / 16 := by omega
  have a2 : c / 16 < 16 := by omega
  have b1 : 0 ≤ c % 16 := by omega
  have b2 : c % 16 < 16 := by omega
  have e1 := dig_at (c / 16) a1 a2 (by show (c / 16).toNat < 16; omega)
  have e2 := dig_at (c % 16) b1 b2 (by show (c % 16).toNat < 16; omega)
  have HI := Lib.hid hI
  have e3 : Hid (l ++ codeI c = ((l ++ [37]) ++ [digI (c / 16)]) ++ [digI (c % 16)]) := Lib.hid (by simp [codeI])
  clear hI
  go_enter Tryz.func98, Tryz.ntmps98
  go_wp2_with fail
  refine (wbyte_at B b l 37 _ HI.out (by omega) hB).mono ?_
  rintro e w1 ⟨rfl, h1, k1⟩
  have B1 : B ≤ w1.heap.size := Nat.le_trans hB k1.1.size
  have H1 := Lib.hid h1
  have K1 := Lib.hid k1
  clear h1 k1
  go_wp2_with fail
  refine (wbyte_at B b (l ++ [37]) (digI (c / 16)) _ H1.out (by simp; omega) B1).mono ?_
  rintro e w2 ⟨rfl, h2, k2⟩
  have B2 : B ≤ w2.heap.size := Nat.le_trans B1 k2.1.size
  have H2 := Lib.hid h2
  have K2 := Lib.hid k2
  clear h2 k2
  go_wp2_with fail
  refine (wbyte_at B b ((l ++ [37]) ++ [digI (c / 16)]) (digI (c % 16)) _ H2.out (by simp; omega) B2).mono ?_
  rintro e w3 ⟨rfl, h3, k3⟩
  have H3 := Lib.hid h3
  have K3 := Lib.hid k3
  clear h3 k3
  go_wp2
  go_end0
  rw [e3.out]
  exact ⟨rfl, H3.out, (K1.out.trans K2.out).trans K3.out⟩
end Go.Proofs.YtodlecjbpmggiaaGreatDoor
