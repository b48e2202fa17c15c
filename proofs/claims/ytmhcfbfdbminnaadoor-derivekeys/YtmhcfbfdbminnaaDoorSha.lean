/-
  SHA-256 on words of 32 bits, of no program.
-/
namespace Go.Proofs.YtmhcfbfdbminnaaDoor

abbrev W32 := BitVec 32

/-- A word, turned down. -/
def rr (n : Nat) (x : W32) : W32 := (x >>> n) ||| (x <<< (32 - n))
def s0 (x : W32) : W32 := rr 7 x ^^^ rr 18 x ^^^ (x >>> 3)
def s1 (y : W32) : W32 := rr 17 y ^^^ rr 19 y ^^^ (y >>> 10)
def big1 (e : W32) : W32 := rr 6 e ^^^ rr 11 e ^^^ rr 25 e
def big0 (a : W32) : W32 := rr 2 a ^^^ rr 13 a ^^^ rr 22 a
def ch (e f g : W32) : W32 := (e &&& f) ||| (~~~e &&& g)
def maj (a b c : W32) : W32 := (a &&& b) ^^^ (a &&& c) ^^^ (b &&& c)

def be4N (b : List UInt8) (i : Nat) : Nat := (((b.getD (4 * i) 0).toNat * 256 + (b.getD (4 * i + 1) 0).toNat) * 256 + (b.getD (4 * i + 2) 0).toNat) * 256 + (b.getD (4 * i + 3) 0).toNat
/-- Word i of a block. -/
def be4 (b : List UInt8) (i : Nat) : W32 := BitVec.ofNat 32 (be4N b i)
def firsts (b : List UInt8) (n : Nat) : List W32 := (List.range n).map (be4 b)
def nextW (l : List W32) : W32 := l.getD (l.length - 16) 0 + s0 (l.getD (l.length - 15) 0) + l.getD (l.length - 7) 0 + s1 (l.getD (l.length - 2) 0)
def more : Nat → List W32 → List W32
  | 0, l => l
  | n + 1, l => more n l ++ [nextW (more n l)]
/-- The 64 words of a block. -/
def sched (b : List UInt8) : List W32 := more 48 (firsts b 16)

def kN : List Nat := [1116352408, 1899447441, 3049323471, 3921009573, 961987163, 1508970993, 2453635748, 2870763221, 3624381080, 310598401, 607225278, 1426881987, 1925078388, 2162078206, 2614888103, 3248222580, 3835390401, 4022224774, 264347078, 604807628, 770255983, 1249150122, 1555081692, 1996064986, 2554220882, 2821834349, 2952996808, 3210313671, 3336571891, 3584528711, 113926993, 338241895, 666307205, 773529912, 1294757372, 1396182291, 1695183700, 1986661051, 2177026350, 2456956037, 2730485921, 2820302411, 3259730800, 3345764771, 3516065817, 3600352804, 4094571909, 275423344, 430227734, 506948616, 659060556, 883997877, 958139571, 1322822218, 1537002063, 1747873779, 1955562222, 2024104815, 2227730452, 2361852424, 2428436474, 2756734187, 3204031479, 3329325298]
def kAt (i : Nat) : W32 := BitVec.ofNat 32 (kN.getD i 0)
def startN : List Nat := [1779033703, 3144134277, 1013904242, 2773480762, 1359893119, 2600822924, 528734635, 1541459225]
def start : List W32 := startN.map (BitVec.ofNat 32)

structure R8 where
  a : W32
  b : W32
  c : W32
  d : W32
  e : W32
  f : W32
  g : W32
  h : W32
def R8.of (s : List W32) : R8 := ⟨s.getD 0 0, s.getD 1 0, s.getD 2 0, s.getD 3 0, s.getD 4 0, s.getD 5 0, s.getD 6 0, s.getD 7 0⟩
def R8.l (s : R8) : List W32 := [s.a, s.b, s.c, s.d, s.e, s.f, s.g, s.h]
def tt (s : R8) (k w : W32) : W32 := s.h + big1 s.e + ch s.e s.f s.g + k + w
def uu (s : R8) : W32 := big0 s.a + maj s.a s.b s.c
def rnd (s : R8) (k w : W32) : R8 := ⟨tt s k w + uu s, s.a, s.b, s.c, s.d + tt s k w, s.e, s.f, s.g⟩
def rnds : Nat → R8 → List W32 → R8
  | 0, s, _ => s
  | n + 1, s, ws => rnd (rnds n s ws) (kAt n) (ws.getD n 0)
/-- The state behind a block. -/
def blk (s : List W32) (b : List UInt8) : List W32 := List.zipWith (· + ·) s (rnds 64 (R8.of s) (sched b)).l

/-- The state behind all whole blocks of a row. -/
def runB (s : List W32) (l : List UInt8) : List W32 := if l.length < 64 then s else runB (blk s (l.take 64)) (l.drop 64)
termination_by l.length
decreasing_by rw [List.length_drop]; omega

def padZ (n : Nat) : Nat := (119 - n % 64) % 64
def be8 (x : Nat) : List UInt8 := (List.range 8).map fun k => UInt8.ofNat (x / 256 ^ (7 - k))
def pad (n : Nat) : List UInt8 := 128 :: List.replicate (padZ n) 0 ++ be8 (8 * n)
def told1 (x : W32) : List UInt8 := [UInt8.ofNat (x.toNat / 16777216), UInt8.ofNat (x.toNat / 65536), UInt8.ofNat (x.toNat / 256), UInt8.ofNat x.toNat]
def told (s : List W32) : List UInt8 := s.flatMap told1
def sha (l : List UInt8) : List UInt8 := told (runB start (l ++ pad l.length))

theorem more_len (n : Nat) (l : List W32) : (more n l).length = l.length + n := by
  induction n with
  | zero => rfl
  | succ n ih => simp [more, ih]; omega
theorem firsts_len (b : List UInt8) (n : Nat) : (firsts b n).length = n := by simp [firsts]
theorem firsts_succ (b : List UInt8) (n : Nat) : firsts b (n + 1) = firsts b n ++ [be4 b n] := by simp [firsts, List.range_succ]
theorem sched_len (b : List UInt8) : (sched b).length = 64 := by simp [sched, more_len, firsts_len]
theorem start_len : start.length = 8 := by rfl
theorem blk_len (s : List W32) (b : List UInt8) (h : s.length = 8) : (blk s b).length = 8 := by simp [blk, R8.l, h]
theorem padZ_lt (n : Nat) : padZ n < 64 := Nat.mod_lt _ (by decide)
theorem be8_len (x : Nat) : (be8 x).length = 8 := by simp [be8]
theorem pad_len (n : Nat) : (pad n).length = padZ n + 9 := by simp [pad, be8_len]
theorem pad_whole (n : Nat) : (n + (pad n).length) % 64 = 0 := by rw [pad_len]; unfold padZ; omega
theorem told_len (s : List W32) : (told s).length = 4 * s.length := by
  induction s with
  | nil => rfl
  | cons x s ih => simp only [told, List.flatMap_cons, List.length_append] at *; rw [ih]; simp [told1]; omega

theorem runB_small (s : List W32) (l : List UInt8) (h : l.length < 64) : runB s l = s := by rw [runB, if_pos h]
theorem runB_big (s : List W32) (l : List UInt8) (h : ¬ l.length < 64) : runB s l = runB (blk s (l.take 64)) (l.drop 64) := by rw [runB, if_neg h]
theorem runB_len (s : List W32) (l : List UInt8) (h : s.length = 8) : (runB s l).length = 8 := by
  by_cases hl : l.length < 64
  · rw [runB_small s l hl, h]
  · rw [runB_big s l hl]
    exact runB_len _ _ (blk_len _ _ h)
termination_by l.length
decreasing_by rw [List.length_drop]; omega
/-- Whole blocks first, then the rest. -/
theorem runB_append (s : List W32) (a b : List UInt8) (h : a.length % 64 = 0) : runB s (a ++ b) = runB (runB s a) b := by
  by_cases hl : a.length < 64
  · have : a = [] := List.eq_nil_of_length_eq_zero (by omega)
    subst this
    rw [runB_small s [] (by simp)]
    rfl
  · rw [runB_big s a hl, runB_big s (a ++ b) (by simp; omega), List.take_append_of_le_length (by omega), List.drop_append_of_le_length (by omega)]
    exact runB_append _ _ _ (by rw [List.length_drop]; omega)
termination_by a.length
decreasing_by rw [List.length_drop]; omega
theorem runB_one (s : List W32) (b : List UInt8) (h : b.length = 64) : runB s b = blk s b := by
  rw [runB_big s b (by omega), List.take_of_length_le (by omega), runB_small _ _ (by rw [List.length_drop]; omega)]

theorem sha_abc : sha [97, 98, 99] = [186, 120, 22, 191, 143, 1, 207, 234, 65, 65, 64, 222, 93, 174, 34, 35, 176, 3, 97, 163, 150, 23, 122, 156, 180, 16, 255, 97, 242, 0, 21, 173] := by decide +kernel
end Go.Proofs.YtmhcfbfdbminnaaDoor
