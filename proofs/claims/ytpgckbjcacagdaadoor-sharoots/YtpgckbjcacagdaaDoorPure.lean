/- The plain functions of SHA-256, on words and lists of words: no program in it. -/
namespace Go.Proofs.YtpgckbjcacagdaaDoor
abbrev Word := BitVec 32
abbrev Byte := BitVec 8
def rotr (x : Word) (n : Nat) : Word := x >>> n ||| x <<< (32 - n)
def ch (x y z : Word) : Word := (x &&& y) ^^^ (~~~ x &&& z)
def maj (x y z : Word) : Word := (x &&& y) ^^^ (x &&& z) ^^^ (y &&& z)
def bs0 (x : Word) : Word := rotr x 2 ^^^ rotr x 13 ^^^ rotr x 22
def bs1 (x : Word) : Word := rotr x 6 ^^^ rotr x 11 ^^^ rotr x 25
def ss0 (x : Word) : Word := rotr x 7 ^^^ rotr x 18 ^^^ x >>> 3
def ss1 (x : Word) : Word := rotr x 17 ^^^ rotr x 19 ^^^ x >>> 10
/-- Four bytes, the highest first. -/
def word4 (a b c d : Byte) : Word := a.setWidth 32 <<< 24 ||| b.setWidth 32 <<< 16 ||| c.setWidth 32 <<< 8 ||| d.setWidth 32
def wordAt (l : List Byte) (t : Nat) : Word := word4 (l.getD (4 * t) 0) (l.getD (4 * t + 1) 0) (l.getD (4 * t + 2) 0) (l.getD (4 * t + 3) 0)
def nextW (p : List Word) (n : Nat) : Word := ss1 (p.getD (n - 2) 0) + p.getD (n - 7) 0 + ss0 (p.getD (n - 15) 0) + p.getD (n - 16) 0
/-- The first n words of a block's schedule. -/
def sched (l : List Byte) : Nat → List Word
  | 0 => []
  | n + 1 => sched l n ++ [if n < 16 then wordAt l n else nextW (sched l n) n]
theorem sched_length (l : List Byte) : ∀ n, (sched l n).length = n
  | 0 => rfl
  | n + 1 => by simp [sched, sched_length l n]
/-- The array of 64 words when n are reckoned. -/
def sched0 (l : List Byte) (n : Nat) : List Word := sched l n ++ List.replicate (64 - n) 0
theorem sched0_length (l : List Byte) (n : Nat) (h : n ≤ 64) : (sched0 l n).length = 64 := by simp [sched0, sched_length]; omega
theorem sched0_getD (l : List Byte) (n j : Nat) (h : j < n) : (sched0 l n).getD j 0 = (sched l n).getD j 0 := by
  simp [sched0, List.getD, List.getElem?_append, sched_length, h]
theorem sched0_all (l : List Byte) : sched0 l 64 = sched l 64 := by simp [sched0]
theorem sched0_set (l : List Byte) (n : Nat) (h : n < 64) (v : Word) (hv : v = if n < 16 then wordAt l n else nextW (sched l n) n) : (sched0 l n).set n v = sched0 l (n + 1) := by
  subst hv
  unfold sched0
  have e : 64 - n = (64 - (n + 1)) + 1 := by omega
  rw [e, List.replicate_succ]
  conv => lhs; arg 2; rw [← sched_length l n]
  rw [List.set_append_right _ _ (Nat.le_refl _)]
  simp [sched, sched_length]
/-- The eight words. -/
structure St where
  a : Word
  b : Word
  c : Word
  d : Word
  e : Word
  f : Word
  g : Word
  h : Word
def St.list (s : St) : List Word := [s.a, s.b, s.c, s.d, s.e, s.f, s.g, s.h]
def St.add (s r : St) : St := ⟨s.a + r.a, s.b + r.b, s.c + r.c, s.d + r.d, s.e + r.e, s.f + r.f, s.g + r.g, s.h + r.h⟩
def tOne (k w : Word) (s : St) : Word := s.h + bs1 s.e + ch s.e s.f s.g + k + w
def tTwo (s : St) : Word := bs0 s.a + maj s.a s.b s.c
def round (k w : Word) (s : St) : St := ⟨tOne k w s + tTwo s, s.a, s.b, s.c, s.d + tOne k w s, s.e, s.f, s.g⟩
def rounds (K S : List Word) (s : St) : Nat → St
  | 0 => s
  | n + 1 => round (K.getD n 0) (S.getD n 0) (rounds K S s n)
/-- One block more. -/
def compress (K : List Word) (s : St) (l : List Byte) : St := s.add (rounds K (sched l 64) s 64)
/-- The numbers that the rounds add. -/
def KW : List Word := [1116352408, 1899447441, 3049323471, 3921009573, 961987163, 1508970993, 2453635748, 2870763221, 3624381080, 310598401, 607225278, 1426881987, 1925078388, 2162078206, 2614888103, 3248222580, 3835390401, 4022224774, 264347078, 604807628, 770255983, 1249150122, 1555081692, 1996064986, 2554220882, 2821834349, 2952996808, 3210313671, 3336571891, 3584528711, 113926993, 338241895, 666307205, 773529912, 1294757372, 1396182291, 1695183700, 1986661051, 2177026350, 2456956037, 2730485921, 2820302411, 3259730800, 3345764771, 3516065817, 3600352804, 4094571909, 275423344, 430227734, 506948616, 659060556, 883997877, 958139571, 1322822218, 1537002063, 1747873779, 1955562222, 2024104815, 2227730452, 2361852424, 2428436474, 2756734187, 3204031479, 3329325298]
/-- The first hash. -/
def H0 : St := ⟨1779033703, 3144134277, 1013904242, 2773480762, 1359893119, 2600822924, 528734635, 1541459225⟩
/-- A word's bytes, the highest first. -/
def bytes4 (x : Word) : List Byte := [(x >>> 24).setWidth 8, (x >>> 16).setWidth 8, (x >>> 8).setWidth 8, x.setWidth 8]
def bytesOf (ws : List Word) : List Byte := ws.flatMap bytes4
theorem bytesOf_length (ws : List Word) : (bytesOf ws).length = 4 * ws.length := by
  induction ws with
  | nil => rfl
  | cons x r ih => simp only [bytesOf, List.flatMap_cons, List.length_append, List.length_cons] at *; rw [ih]; simp [bytes4]; omega
/-- The 32 bytes when k words are written. -/
def outTo (ws : List Word) (k : Nat) : List Byte := bytesOf (ws.take k) ++ List.replicate (32 - 4 * k) 0
theorem outTo_length (ws : List Word) (k : Nat) (hl : ws.length = 8) (hk : k ≤ 8) : (outTo ws k).length = 32 := by
  simp [outTo, bytesOf_length, hl]; omega
theorem outTo_all (ws : List Word) (hl : ws.length = 8) : outTo ws 8 = bytesOf ws := by
  simp [outTo, List.take_of_length_le (Nat.le_of_eq hl)]
theorem outTo_set (ws : List Word) (k : Nat) (hl : ws.length = 8) (hk : k < 8) (x : Word) (hx : ws[k]? = some x) :
    ((((outTo ws k).set (4 * k) ((x >>> 24).setWidth 8)).set (4 * k + 1) ((x >>> 16).setWidth 8)).set (4 * k + 2) ((x >>> 8).setWidth 8)).set (4 * k + 3) (x.setWidth 8) = outTo ws (k + 1) := by
  have hP : (bytesOf (ws.take k)).length = 4 * k := by rw [bytesOf_length, List.length_take, hl, Nat.min_eq_left (by omega)]
  have e : 32 - 4 * k = (32 - 4 * (k + 1)) + 1 + 1 + 1 + 1 := by omega
  have et : ws.take (k + 1) = ws.take k ++ [x] := by
    rw [List.take_add_one, hx]; rfl
  unfold outTo
  rw [et, e]
  have eb : bytesOf (ws.take k ++ [x]) = bytesOf (ws.take k) ++ bytes4 x := by simp [bytesOf]
  rw [eb]
  generalize bytesOf (ws.take k) = P at *
  simp only [List.replicate_succ]
  rw [← hP]
  rw [List.set_append_right _ _ (Nat.le_refl _), List.set_append_right _ _ (by omega), List.set_append_right _ _ (by omega), List.set_append_right _ _ (by omega)]
  simp [bytes4]
end Go.Proofs.YtpgckbjcacagdaaDoor
