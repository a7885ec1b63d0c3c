/-
  Layer 2 (sha): plain mathematics: words, the compression of a block, the digest of a text. Names no program.
-/
import Derived.WalkKit
namespace Go.Proofs.YtogpigfepebibaaGreatDoor
namespace Sh

abbrev Bs := List UInt8
abbrev W := BitVec 32

theorem bxor (x y : W) : bits .xor .u32 (x.toNat : Int) (y.toNat : Int) = ((x ^^^ y).toNat : Int) := by
  show IntKind.u32.wrap ((BitVec.ofInt 32 (x.toNat : Int) ^^^ BitVec.ofInt 32 (y.toNat : Int)).toNat : Int) = _
  rw [BitVec.ofInt_natCast, BitVec.ofInt_natCast, BitVec.ofNat_toNat, BitVec.ofNat_toNat, BitVec.setWidth_eq, BitVec.setWidth_eq]
  exact IntWalk.u32_in _ ⟨by omega, by have := (x ^^^ y).isLt; omega⟩
theorem bor (x y : W) : bits .or .u32 (x.toNat : Int) (y.toNat : Int) = ((x ||| y).toNat : Int) := by
  show IntKind.u32.wrap ((BitVec.ofInt 32 (x.toNat : Int) ||| BitVec.ofInt 32 (y.toNat : Int)).toNat : Int) = _
  rw [BitVec.ofInt_natCast, BitVec.ofInt_natCast, BitVec.ofNat_toNat, BitVec.ofNat_toNat, BitVec.setWidth_eq, BitVec.setWidth_eq]
  exact IntWalk.u32_in _ ⟨by omega, by have := (x ||| y).isLt; omega⟩
theorem band (x y : W) : bits .and .u32 (x.toNat : Int) (y.toNat : Int) = ((x &&& y).toNat : Int) := by
  show IntKind.u32.wrap ((BitVec.ofInt 32 (x.toNat : Int) &&& BitVec.ofInt 32 (y.toNat : Int)).toNat : Int) = _
  rw [BitVec.ofInt_natCast, BitVec.ofInt_natCast, BitVec.ofNat_toNat, BitVec.ofNat_toNat, BitVec.setWidth_eq, BitVec.setWidth_eq]
  exact IntWalk.u32_in _ ⟨by omega, by have := (x &&& y).isLt; omega⟩
theorem bnot (y : W) : bits .xor .u32 4294967295 (y.toNat : Int) = ((~~~y).toNat : Int) := by
  have h := bxor (BitVec.allOnes 32) y
  rw [BitVec.allOnes_xor] at h
  exact h
theorem badd (x y : W) : ((x.toNat : Int) + (y.toNat : Int)) % 4294967296 = ((x + y).toNat : Int) := by
  rw [BitVec.toNat_add]; omega
theorem bshr (x : W) (n : Nat) : (x.toNat : Int) / 2 ^ n = ((x >>> n).toNat : Int) := by
  rw [BitVec.toNat_ushiftRight, Nat.shiftRight_eq_div_pow]; simp
theorem bshl (x : W) (n : Nat) : (x.toNat : Int) * 2 ^ n % 4294967296 = ((x <<< n).toNat : Int) := by
  rw [BitVec.toNat_shiftLeft, Nat.shiftLeft_eq]; simp
theorem wlt (x : W) : (x.toNat : Int) ≤ 4294967295 := by have := x.isLt; omega

/-- Rotated right. -/
def rotr (x : W) (n : Nat) : W := (x >>> n) ||| (x <<< (32 - n))

theorem orI (p q : Nat) (hp : p < 4294967296) (hq : q < 4294967296) : bits .or .u32 (p : Int) (q : Int) = ((p ||| q : Nat) : Int) := by
  have h := bor (BitVec.ofNat 32 p) (BitVec.ofNat 32 q)
  rw [BitVec.toNat_or, BitVec.toNat_ofNat, BitVec.toNat_ofNat, Nat.mod_eq_of_lt (by omega), Nat.mod_eq_of_lt (by omega)] at h
  exact h
theorem or_low (a b i : Nat) (h : b < 2 ^ i) : a * 2 ^ i ||| b = a * 2 ^ i + b := by
  rw [Nat.mul_comm]; exact (Nat.two_pow_add_eq_or_of_lt h a).symm

/-- The word of four bytes. -/
def word (a b c d : UInt8) : W := BitVec.ofNat 32 (((a.toNat * 256 + b.toNat) * 256 + c.toNat) * 256 + d.toNat)
theorem word_toNat (a b c d : UInt8) : (word a b c d).toNat = ((a.toNat * 256 + b.toNat) * 256 + c.toNat) * 256 + d.toNat := by
  have ha := a.toNat_lt
  have hb := b.toNat_lt
  have hc := c.toNat_lt
  have hd := d.toNat_lt
  unfold word
  rw [BitVec.toNat_ofNat]; omega
theorem word_or (x y z t : UInt8) : bits .or .u32 (bits .or .u32 (bits .or .u32 ((x.toNat : Int) * 16777216) ((y.toNat : Int) * 65536)) ((z.toNat : Int) * 256)) (t.toNat : Int) = ((word x y z t).toNat : Int) := by
  have ha := x.toNat_lt
  have hb := y.toNat_lt
  have hc := z.toNat_lt
  have hd := t.toNat_lt
  rw [word_toNat]
  have e1 := or_low x.toNat (y.toNat * 65536) 24 (by omega)
  have e2 := or_low (x.toNat * 256 + y.toNat) (z.toNat * 256) 16 (by omega)
  have e3 := or_low ((x.toNat * 256 + y.toNat) * 256 + z.toNat) t.toNat 8 (by omega)
  rw [show (x.toNat : Int) * 16777216 = ((x.toNat * 2 ^ 24 : Nat) : Int) by omega, show (y.toNat : Int) * 65536 = ((y.toNat * 65536 : Nat) : Int) by omega, orI _ _ (by omega) (by omega), e1]
  rw [show (z.toNat : Int) * 256 = ((z.toNat * 256 : Nat) : Int) by omega, show x.toNat * 2 ^ 24 + y.toNat * 65536 = (x.toNat * 256 + y.toNat) * 2 ^ 16 by omega, orI _ _ (by omega) (by omega), e2]
  rw [show (x.toNat * 256 + y.toNat) * 2 ^ 16 + z.toNat * 256 = ((x.toNat * 256 + y.toNat) * 256 + z.toNat) * 2 ^ 8 by omega, orI _ _ (by omega) (by omega), e3]

/-- The constants. -/
def K : List W := [1116352408#32, 1899447441#32, 3049323471#32, 3921009573#32, 961987163#32, 1508970993#32, 2453635748#32, 2870763221#32, 3624381080#32, 310598401#32, 607225278#32, 1426881987#32, 1925078388#32, 2162078206#32, 2614888103#32, 3248222580#32, 3835390401#32, 4022224774#32, 264347078#32, 604807628#32, 770255983#32, 1249150122#32, 1555081692#32, 1996064986#32, 2554220882#32, 2821834349#32, 2952996808#32, 3210313671#32, 3336571891#32, 3584528711#32, 113926993#32, 338241895#32, 666307205#32, 773529912#32, 1294757372#32, 1396182291#32, 1695183700#32, 1986661051#32, 2177026350#32, 2456956037#32, 2730485921#32, 2820302411#32, 3259730800#32, 3345764771#32, 3516065817#32, 3600352804#32, 4094571909#32, 275423344#32, 430227734#32, 506948616#32, 659060556#32, 883997877#32, 958139571#32, 1322822218#32, 1537002063#32, 1747873779#32, 1955562222#32, 2024104815#32, 2227730452#32, 2361852424#32, 2428436474#32, 2756734187#32, 3204031479#32, 3329325298#32]
theorem K_length : K.length = 64 := by decide

/-- The schedule of a block, word by word. -/
def wordAt (l : Bs) (k : Nat) : W := word (l.getD (4 * k) 0) (l.getD (4 * k + 1) 0) (l.getD (4 * k + 2) 0) (l.getD (4 * k + 3) 0)
def sig0 (x : W) : W := rotr x 7 ^^^ rotr x 18 ^^^ x >>> 3
def sig1 (x : W) : W := rotr x 17 ^^^ rotr x 19 ^^^ x >>> 10
def next (l : List W) (k : Nat) : W := l.getD (k - 16) 0 + sig0 (l.getD (k - 15) 0) + l.getD (k - 7) 0 + sig1 (l.getD (k - 2) 0)
def sch (l : Bs) : Nat → List W
  | 0 => []
  | k + 1 => sch l k ++ [if k < 16 then wordAt l k else next (sch l k) k]
theorem sch_length (l : Bs) (k : Nat) : (sch l k).length = k := by
  induction k with
  | zero => rfl
  | succ k ih => simp [sch, ih]

/-- The eight words. -/
structure St where
  a : W
  b : W
  c : W
  d : W
  e : W
  f : W
  g : W
  h : W
def St.list (s : St) : List W := [s.a, s.b, s.c, s.d, s.e, s.f, s.g, s.h]
def rot3 (x : W) (a b c : Nat) : W := rotr x a ^^^ rotr x b ^^^ rotr x c
def t1 (s : St) (k w : W) : W := s.h + rot3 s.e 6 11 25 + ((s.e &&& s.f) ^^^ (~~~s.e &&& s.g)) + k + w
def t2 (s : St) : W := rot3 s.a 2 13 22 + (((s.a &&& s.b) ^^^ (s.a &&& s.c)) ^^^ (s.b &&& s.c))
def step (s : St) (k w : W) : St := ⟨t1 s k w + t2 s, s.a, s.b, s.c, s.d + t1 s k w, s.e, s.f, s.g⟩
def rounds (ws : List W) (s : St) : Nat → St
  | 0 => s
  | n + 1 => step (rounds ws s n) (K.getD n 0) (ws.getD n 0)
def addSt (s t : St) : St := ⟨s.a + t.a, s.b + t.b, s.c + t.c, s.d + t.d, s.e + t.e, s.f + t.f, s.g + t.g, s.h + t.h⟩
def compress (s : St) (l : Bs) : St := addSt s (rounds (sch l 64) s 64)

/-- Words as values. -/
def vals (l : List W) : List Value := l.map fun x => Value.int .u32 (x.toNat : Int)
theorem vals_length (l : List W) : (vals l).length = l.length := by simp [vals]
theorem vals_get (l : List W) (k : Nat) (h : k < l.length) : (vals l)[k]? = some (.int .u32 ((l.getD k 0).toNat : Int)) := by
  simp [vals, h]
theorem vals_append (a b : List W) : vals (a ++ b) = vals a ++ vals b := by simp [vals]
def bvals (l : Bs) : List Value := l.map fun x => Value.int .u8 (x.toNat : Int)
theorem bvals_length (l : Bs) : (bvals l).length = l.length := by simp [bvals]
theorem bvals_get (l : Bs) (k : Nat) (h : k < l.length) : (bvals l)[k]? = some (.int .u8 ((l.getD k 0).toNat : Int)) := by
  simp [bvals, h]

/-- A hash's cells: its words, how much was added, the bytes that await their block's end. -/
def HC (ws : List W) (n : Nat) (r : Bs) : List Value := vals ws ++ (Value.int .u64 (n : Int) :: bvals r)
theorem HC_length (ws : List W) (n : Nat) (r : Bs) (hw : ws.length = 8) (hr : r.length = 64) : (HC ws n r).length = 73 := by
  simp [HC, vals_length, bvals_length, hw, hr]
theorem HC_rest (ws : List W) (n : Nat) (r : Bs) (hw : ws.length = 8) (j : Nat) : (HC ws n r)[9 + j]? = (bvals r)[j]? := by
  unfold HC
  rw [List.getElem?_append_right (by rw [vals_length]; omega), vals_length, hw, show 9 + j - 8 = j + 1 by omega, List.getElem?_cons_succ]
theorem HC_size (ws : List W) (n : Nat) (r : Bs) (hw : ws.length = 8) : (HC ws n r)[8]? = some (.int .u64 (n : Int)) := by
  unfold HC
  rw [List.getElem?_append_right (by rw [vals_length]; omega), vals_length, hw]
  rfl
theorem HC_word (ws : List W) (n : Nat) (r : Bs) (hw : ws.length = 8) (j : Nat) (hj : j < 8) : (HC ws n r)[j]? = some (.int .u32 ((ws.getD j 0).toNat : Int)) := by
  unfold HC
  rw [List.getElem?_append_left (by rw [vals_length]; omega), vals_get _ _ (by omega)]

/-- A word behind m of its four bytes. -/
def wpart (l : Bs) (j : Nat) : Nat → W
  | 0 => 0
  | m + 1 => (wpart l j m <<< 8) ||| BitVec.ofNat 32 (l.getD (4 * j + m) 0).toNat
/-- The 64 words behind k bytes. -/
def pk (l : Bs) (k : Nat) : List W := (List.range 64).map fun j => wpart l j (min (k - 4 * j) 4)
theorem pk_length (l : Bs) (k : Nat) : (pk l k).length = 64 := by simp [pk]
theorem pk_get (l : Bs) (k j : Nat) (h : j < 64) : (pk l k)[j]? = some (wpart l j (min (k - 4 * j) 4)) := by
  simp [pk, h]
theorem pk_getD (l : Bs) (k j : Nat) (h : j < 64) : (pk l k).getD j 0 = wpart l j (min (k - 4 * j) 4) := by
  rw [List.getD_eq_getElem?_getD, pk_get l k j h]; rfl
theorem pk_zero (l : Bs) : pk l 0 = List.replicate 64 0 := by
  unfold pk
  simp only [Nat.zero_sub, Nat.zero_min]
  simp [wpart, List.map_const']
theorem pk_succ (l : Bs) (k : Nat) (hk : k < 64) : pk l (k + 1) = (pk l k).set (k / 4) (((pk l k).getD (k / 4) 0 <<< 8) ||| BitVec.ofNat 32 (l.getD k 0).toNat) := by
  apply List.ext_getElem?
  intro j
  rw [List.getElem?_set, pk_length]
  by_cases hj : j < 64
  · rw [pk_get _ _ _ hj]
    by_cases he : k / 4 = j
    · subst he
      rw [if_pos rfl, if_pos hj, pk_getD _ _ _ hj]
      rw [show min (k + 1 - 4 * (k / 4)) 4 = (k - 4 * (k / 4)) + 1 by omega, show min (k - 4 * (k / 4)) 4 = k - 4 * (k / 4) by omega]
      simp only [wpart]
      rw [show 4 * (k / 4) + (k - 4 * (k / 4)) = k by omega]
    · rw [if_neg he, pk_get _ _ _ hj]
      congr 2
      omega
  · rw [List.getElem?_eq_none (by rw [pk_length]; omega)]
    by_cases he : k / 4 = j
    · omega
    · rw [if_neg he, List.getElem?_eq_none (by rw [pk_length]; omega)]
theorem byte_or (x : W) (c : UInt8) (h : x.toNat < 2 ^ 24) : ((x <<< 8) ||| BitVec.ofNat 32 c.toNat).toNat = x.toNat * 256 + c.toNat := by
  have hc := c.toNat_lt
  rw [BitVec.toNat_or, BitVec.toNat_shiftLeft, BitVec.toNat_ofNat, Nat.shiftLeft_eq, Nat.mod_eq_of_lt (by omega), Nat.mod_eq_of_lt (a := c.toNat) (by omega), or_low x.toNat c.toNat 8 (by omega)]
theorem wpart_four (l : Bs) (j : Nat) : wpart l j 4 = wordAt l j := by
  have h0 := (l.getD (4 * j) 0).toNat_lt
  have h1 := (l.getD (4 * j + 1) 0).toNat_lt
  have h2 := (l.getD (4 * j + 2) 0).toNat_lt
  have h3 := (l.getD (4 * j + 3) 0).toNat_lt
  have e1 : (wpart l j 1).toNat = (l.getD (4 * j) 0).toNat := by
    show ((0#32 <<< 8) ||| BitVec.ofNat 32 (l.getD (4 * j + 0) 0).toNat).toNat = _
    rw [byte_or _ _ (by decide)]; simp
  have e2 : (wpart l j 2).toNat = (l.getD (4 * j) 0).toNat * 256 + (l.getD (4 * j + 1) 0).toNat := by
    show ((wpart l j 1 <<< 8) ||| BitVec.ofNat 32 (l.getD (4 * j + 1) 0).toNat).toNat = _
    rw [byte_or _ _ (by omega), e1]
  have e3 : (wpart l j 3).toNat = ((l.getD (4 * j) 0).toNat * 256 + (l.getD (4 * j + 1) 0).toNat) * 256 + (l.getD (4 * j + 2) 0).toNat := by
    show ((wpart l j 2 <<< 8) ||| BitVec.ofNat 32 (l.getD (4 * j + 2) 0).toNat).toNat = _
    rw [byte_or _ _ (by omega), e2]
  apply BitVec.eq_of_toNat_eq
  show ((wpart l j 3 <<< 8) ||| BitVec.ofNat 32 (l.getD (4 * j + 3) 0).toNat).toNat = _
  rw [byte_or _ _ (by omega), e3]
  unfold wordAt
  rw [word_toNat]
theorem sch_get (l : Bs) (k n j : Nat) (h : j < k) (hk : k ≤ n) : (sch l n)[j]? = (sch l k)[j]? := by
  induction n with
  | zero => omega
  | succ n ih =>
    by_cases he : k = n + 1
    · rw [he]
    · rw [← ih (by omega)]
      show (sch l n ++ _)[j]? = _
      rw [List.getElem?_append_left (by rw [sch_length]; omega)]
theorem sch_low (l : Bs) (k j : Nat) (hj : j < k) (h16 : j < 16) : (sch l k)[j]? = some (wordAt l j) := by
  rw [sch_get l (j + 1) k j (by omega) (by omega)]
  show (sch l j ++ _)[j]? = _
  rw [List.getElem?_append_right (by rw [sch_length]; omega), sch_length, Nat.sub_self, if_pos h16]
  rfl
theorem pk_end (l : Bs) : pk l 64 = sch l 16 ++ List.replicate 48 0 := by
  apply List.ext_getElem?
  intro j
  by_cases hj : j < 16
  · rw [pk_get _ _ _ (by omega), List.getElem?_append_left (by rw [sch_length]; omega), sch_low _ _ _ hj hj, show min (64 - 4 * j) 4 = 4 by omega, wpart_four]
  · by_cases hj2 : j < 64
    · rw [pk_get _ _ _ hj2, List.getElem?_append_right (by rw [sch_length]; omega), sch_length, List.getElem?_replicate, if_pos (by omega), show min (64 - 4 * j) 4 = 0 by omega]
      rfl
    · rw [List.getElem?_eq_none (by rw [pk_length]; omega), List.getElem?_eq_none (by rw [List.length_append, sch_length, List.length_replicate]; omega)]
/-- The words while they are made: k of them, zeros behind. -/
def wk (l : Bs) (k : Nat) : List W := sch l k ++ List.replicate (64 - k) 0
theorem wk_length (l : Bs) (k : Nat) (h : k ≤ 64) : (wk l k).length = 64 := by simp [wk, sch_length]; omega
theorem wk_getD (l : Bs) (k j : Nat) (h : j < k) : (wk l k).getD j 0 = (sch l k).getD j 0 := by
  unfold wk
  rw [List.getD_eq_getElem?_getD, List.getElem?_append_left (by rw [sch_length]; omega), ← List.getD_eq_getElem?_getD]
theorem wk_succ (l : Bs) (k : Nat) (h16 : 16 ≤ k) (h : k < 64) : wk l (k + 1) = (wk l k).set k (next (sch l k) k) := by
  unfold wk
  rw [List.set_append_right _ _ (by rw [sch_length]; omega), sch_length, Nat.sub_self, show 64 - k = (64 - (k + 1)) + 1 by omega, List.replicate_succ, List.set_cons_zero]
  show (sch l k ++ _) ++ _ = _
  rw [if_neg (by omega), List.append_assoc]
  rfl
theorem wk_end (l : Bs) : wk l 64 = sch l 64 := by simp [wk]
theorem vals_set (l : List W) (j : Nat) (x : W) : (vals l).set j (.int .u32 (x.toNat : Int)) = vals (l.set j x) := by
  simp [vals, List.map_set]

theorem word_step (x : W) (c : UInt8) : Value.int .u32 (bits .or .u32 ((x.toNat : Int) * 256 % 4294967296) (c.toNat : Int)) = .int .u32 (((x <<< 8) ||| BitVec.ofNat 32 c.toNat).toNat : Int) := by
  have hc := c.toNat_lt
  have e : (c.toNat : Int) = ((BitVec.ofNat 32 c.toNat).toNat : Int) := by
    rw [BitVec.toNat_ofNat]; omega
  have s := bshl x 8
  rw [show (2 : Int) ^ 8 = 256 from rfl] at s
  rw [s, e, bor]

theorem sig0_eq (x : W) : bits .xor .u32 (bits .xor .u32 ((rotr x 7).toNat : Int) ((rotr x 18).toNat : Int)) ((x.toNat : Int) / 8) = ((sig0 x).toNat : Int) := by
  have s := bshr x 3
  rw [show (2 : Int) ^ 3 = 8 from rfl] at s
  rw [s, bxor, bxor]; rfl
theorem sig1_eq (x : W) : bits .xor .u32 (bits .xor .u32 ((rotr x 17).toNat : Int) ((rotr x 19).toNat : Int)) ((x.toNat : Int) / 1024) = ((sig1 x).toNat : Int) := by
  have s := bshr x 10
  rw [show (2 : Int) ^ 10 = 1024 from rfl] at s
  rw [s, bxor, bxor]; rfl

theorem add4_eq (x y z t : W) : ((x.toNat : Int) + (y.toNat : Int) + (z.toNat : Int) + (t.toNat : Int)) % 4294967296 = ((x + y + z + t : W).toNat : Int) := by
  rw [BitVec.toNat_add, BitVec.toNat_add, BitVec.toNat_add]; omega
theorem vals_one (l : List W) : (vals l).toArray.all (·.oneCell') = true := by
  rw [Array.all_eq_true_iff_forall_mem]
  intro v hv
  obtain ⟨x, _, rfl⟩ := List.mem_map.1 (List.mem_toArray.1 hv)
  rfl
theorem bvals_one (l : Bs) : (bvals l).toArray.all (·.oneCell') = true := by
  rw [Array.all_eq_true_iff_forall_mem]
  intro v hv
  obtain ⟨x, _, rfl⟩ := List.mem_map.1 (List.mem_toArray.1 hv)
  rfl

/-- The words, the first k of them added to. -/
def wadd (s t : St) (k : Nat) : List W := (List.range 8).map fun j => if j < k then s.list.getD j 0 + t.list.getD j 0 else s.list.getD j 0
theorem wadd_length (s t : St) (k : Nat) : (wadd s t k).length = 8 := by simp [wadd]
theorem wadd_zero (s t : St) : wadd s t 0 = s.list := rfl
theorem wadd_end (s t : St) : wadd s t 8 = (addSt s t).list := rfl
theorem wadd_get (s t : St) (k j : Nat) (h : j < 8) : (wadd s t k)[j]? = some (if j < k then s.list.getD j 0 + t.list.getD j 0 else s.list.getD j 0) := by
  simp [wadd, h]
theorem wadd_succ (s t : St) (k : Nat) (hk : k < 8) : wadd s t (k + 1) = (wadd s t k).set k (s.list.getD k 0 + t.list.getD k 0) := by
  apply List.ext_getElem?
  intro j
  rw [List.getElem?_set, wadd_length]
  by_cases hj : j < 8
  · rw [wadd_get _ _ _ _ hj]
    by_cases he : k = j
    · subst he
      rw [if_pos (by omega), if_pos rfl, if_pos hk]
    · rw [if_neg he, wadd_get _ _ _ _ hj]
      by_cases hlt : j < k
      · rw [if_pos hlt, if_pos (by omega)]
      · rw [if_neg hlt, if_neg (by omega)]
  · rw [List.getElem?_eq_none (by rw [wadd_length]; omega)]
    by_cases he : k = j
    · omega
    · rw [if_neg he, List.getElem?_eq_none (by rw [wadd_length]; omega)]
theorem St.list_length (s : St) : s.list.length = 8 := rfl
theorem add2_eq (x y : W) : ((x.toNat : Int) + (y.toNat : Int)) % 4294967296 = ((x + y : W).toNat : Int) := badd x y
theorem rounds_succ' (ws : List W) (s : St) (n : Nat) : rounds ws s (n + 1) = step (rounds ws s n) (K.getD n 0) (ws.getD n 0) := rfl

theorem add5_eq (x y z t u : W) : ((x.toNat : Int) + (y.toNat : Int) + (z.toNat : Int) + (t.toNat : Int) + (u.toNat : Int)) % 4294967296 = ((x + y + z + t + u : W).toNat : Int) := by
  rw [BitVec.toNat_add, BitVec.toNat_add, BitVec.toNat_add, BitVec.toNat_add]; omega
theorem bnot' (y : W) : bits .xor .u32 IntKind.u32.max (y.toNat : Int) = ((~~~y).toNat : Int) := bnot y
theorem t1_eq (t : St) (k w : W) : ((t.h.toNat : Int) + ((rot3 t.e 6 11 25).toNat : Int) + bits .xor .u32 (bits .and .u32 (t.e.toNat : Int) (t.f.toNat : Int)) (bits .and .u32 (bits .xor .u32 IntKind.u32.max (t.e.toNat : Int)) (t.g.toNat : Int)) + (k.toNat : Int) + (w.toNat : Int)) % 4294967296 = ((t1 t k w).toNat : Int) := by
  rw [bnot', band, band, bxor, add5_eq]; rfl
theorem t2_eq (t : St) : ((rot3 t.a 2 13 22).toNat : Int) + bits .xor .u32 (bits .xor .u32 (bits .and .u32 (t.a.toNat : Int) (t.b.toNat : Int)) (bits .and .u32 (t.a.toNat : Int) (t.c.toNat : Int))) (bits .and .u32 (t.b.toNat : Int) (t.c.toNat : Int)) = ((rot3 t.a 2 13 22).toNat : Int) + ((((t.a &&& t.b) ^^^ (t.a &&& t.c)) ^^^ (t.b &&& t.c)).toNat : Int) := by
  rw [band, band, band, bxor, bxor]

theorem HC_set (ws : List W) (n : Nat) (r : Bs) (q : Nat) (x : W) (h : q < ws.length) : (HC ws n r).set q (.int .u32 (x.toNat : Int)) = HC (ws.set q x) n r := by
  unfold HC
  rw [List.set_append_left _ _ (by rw [vals_length]; exact h), vals_set]

/-- The first words. -/
def init : St := ⟨1779033703#32, 3144134277#32, 1013904242#32, 2773480762#32, 1359893119#32, 2600822924#32, 528734635#32, 1541459225#32⟩
/-- The words behind q blocks. -/
def blocks (L : Bs) : Nat → St
  | 0 => init
  | q + 1 => compress (blocks L q) ((L.drop (64 * q)).take 64)
def st (L : Bs) : St := blocks L (L.length / 64)
theorem blocks_prefix (L X : Bs) (q : Nat) (h : 64 * q ≤ L.length) : blocks (L ++ X) q = blocks L q := by
  induction q with
  | zero => rfl
  | succ q ih =>
    simp only [blocks]
    rw [ih (by omega), List.drop_append_of_le_length (by omega), List.take_append_of_le_length (by rw [List.length_drop]; omega)]
/-- What a hash's last bytes hold. -/
def Has (L r : Bs) : Prop := r.length = 64 ∧ r.take (L.length % 64) = L.drop (64 * (L.length / 64))
/-- Bytes laid over others. -/
def over (r : Bs) (m : Nat) (X : Bs) : Bs := r.take m ++ (X ++ r.drop (m + X.length))
theorem over_length (r : Bs) (m : Nat) (X : Bs) (h : m + X.length ≤ r.length) : (over r m X).length = r.length := by
  simp [over]; omega
theorem over_take (r : Bs) (m : Nat) (X : Bs) (h : m + X.length ≤ r.length) : (over r m X).take (m + X.length) = r.take m ++ X := by
  unfold over
  rw [← List.append_assoc, List.take_append_of_le_length (by simp; omega), List.take_of_length_le (by simp; omega)]
theorem has_part {L r : Bs} (h : Has L r) (X : Bs) (hx : L.length % 64 + X.length < 64) : Has (L ++ X) (over r (L.length % 64) X) ∧ st (L ++ X) = st L := by
  obtain ⟨h1, h2⟩ := h
  have e1 : (L ++ X).length / 64 = L.length / 64 := by rw [List.length_append]; omega
  have e2 : (L ++ X).length % 64 = L.length % 64 + X.length := by rw [List.length_append]; omega
  refine ⟨⟨by rw [over_length _ _ _ (by omega), h1], ?_⟩, ?_⟩
  · rw [e1, e2, over_take _ _ _ (by omega), h2, List.drop_append_of_le_length (by omega)]
  · unfold st
    rw [e1, blocks_prefix _ _ _ (by omega)]
theorem has_full {L r : Bs} (h : Has L r) (X : Bs) (hx : L.length % 64 + X.length = 64) (r' : Bs) (hr' : r'.length = 64) : Has (L ++ X) r' ∧ st (L ++ X) = compress (st L) (over r (L.length % 64) X) := by
  obtain ⟨h1, h2⟩ := h
  have e1 : (L ++ X).length / 64 = L.length / 64 + 1 := by rw [List.length_append]; omega
  have e2 : (L ++ X).length % 64 = 0 := by rw [List.length_append]; omega
  have e3 : over r (L.length % 64) X = L.drop (64 * (L.length / 64)) ++ X := by
    have := over_take r (L.length % 64) X (by omega)
    rw [List.take_of_length_le (by rw [over_length _ _ _ (by omega)]; omega), h2] at this
    exact this
  refine ⟨⟨hr', ?_⟩, ?_⟩
  · rw [e1, e2, List.take_zero, List.drop_of_length_le (by rw [List.length_append]; omega)]
  · unfold st
    rw [e1]
    simp only [blocks]
    rw [blocks_prefix _ _ _ (by omega), List.drop_append_of_le_length (by omega), e3, List.take_of_length_le (by rw [List.length_append, List.length_drop]; omega)]
theorem HC_over (ws : List W) (n : Nat) (r : Bs) (m : Nat) (X : Bs) (hw : ws.length = 8) : (HC ws n r).take (9 + m) ++ (bvals X ++ (HC ws n r).drop (9 + m + X.length)) = HC ws n (over r m X) := by
  unfold HC over
  have hl : (vals ws).length = 8 := by rw [vals_length, hw]
  rw [List.take_append, List.drop_append, hl, List.take_of_length_le (by omega), List.drop_of_length_le (by omega), show 9 + m - 8 = m + 1 by omega, show 9 + m + X.length - 8 = (m + X.length) + 1 by omega]
  simp [bvals]
theorem HC_count (ws : List W) (n n' : Nat) (r : Bs) (hw : ws.length = 8) : (HC ws n r).set 8 (.int .u64 (n' : Int)) = HC ws n' r := by
  unfold HC
  rw [List.set_append_right _ _ (by rw [vals_length]; omega), vals_length, hw]
  rfl

/-- The first k bytes of a text's length in bits. -/
def lenB (n k : Nat) : Bs := (List.range k).map fun i => UInt8.ofNat (n * 8 / 2 ^ (56 - i * 8))
theorem lenB_length (n k : Nat) : (lenB n k).length = k := by simp [lenB]
theorem lenB_succ (n k : Nat) : lenB n (k + 1) = lenB n k ++ [UInt8.ofNat (n * 8 / 2 ^ (56 - k * 8))] := by
  simp [lenB, List.range_succ]
/-- What stands behind a text of n bytes. -/
def padZ (n : Nat) : Nat := 63 - (n + 8) % 64
def pad (n : Nat) : Bs := 128 :: List.replicate (padZ n) 0
def tail (n : Nat) : Bs := pad n ++ lenB n 8
theorem pad_length (n : Nat) : (pad n).length = 1 + padZ n := by simp [pad]; omega
theorem tail_length (n : Nat) : (tail n).length = 9 + padZ n := by
  unfold tail
  rw [List.length_append, pad_length, lenB_length]; omega
theorem whole_mod (L : Bs) : (L ++ tail L.length).length % 64 = 0 := by
  rw [List.length_append, tail_length]; unfold padZ; omega

end Sh
end Go.Proofs.YtogpigfepebibaaGreatDoor
