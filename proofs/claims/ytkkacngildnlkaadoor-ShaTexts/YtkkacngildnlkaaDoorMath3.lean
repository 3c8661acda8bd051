/-
  That the constants are the roots': reckoned by the kernel.
-/
import Derived.Test.YtkkacngildnlkaaDoorMath2
namespace Go.Proofs.YtkkacngildnlkaaDoor.Sh

theorem primes_are : pl 312 = [2, 3, 5, 7, 11, 13, 17, 19, 23, 29, 31, 37, 41, 43, 47, 53, 59, 61, 67, 71, 73, 79, 83, 89, 97, 101, 103, 107, 109, 113, 127, 131, 137, 139, 149, 151, 157, 163, 167, 173, 179, 181, 191, 193, 197, 199, 211, 223, 227, 229, 233, 239, 241, 251, 257, 263, 269, 271, 277, 281, 283, 293, 307, 311] := by decide +kernel
theorem c0 : root 2 3 = 1116352408 := by decide +kernel
theorem c1 : root 3 3 = 1899447441 := by decide +kernel
theorem c2 : root 5 3 = 3049323471 := by decide +kernel
theorem c3 : root 7 3 = 3921009573 := by decide +kernel
theorem c4 : root 11 3 = 961987163 := by decide +kernel
theorem c5 : root 13 3 = 1508970993 := by decide +kernel
theorem c6 : root 17 3 = 2453635748 := by decide +kernel
theorem c7 : root 19 3 = 2870763221 := by decide +kernel
theorem c8 : root 23 3 = 3624381080 := by decide +kernel
theorem c9 : root 29 3 = 310598401 := by decide +kernel
theorem c10 : root 31 3 = 607225278 := by decide +kernel
theorem c11 : root 37 3 = 1426881987 := by decide +kernel
theorem c12 : root 41 3 = 1925078388 := by decide +kernel
theorem c13 : root 43 3 = 2162078206 := by decide +kernel
theorem c14 : root 47 3 = 2614888103 := by decide +kernel
theorem c15 : root 53 3 = 3248222580 := by decide +kernel
theorem c16 : root 59 3 = 3835390401 := by decide +kernel
theorem c17 : root 61 3 = 4022224774 := by decide +kernel
theorem c18 : root 67 3 = 264347078 := by decide +kernel
theorem c19 : root 71 3 = 604807628 := by decide +kernel
theorem c20 : root 73 3 = 770255983 := by decide +kernel
theorem c21 : root 79 3 = 1249150122 := by decide +kernel
theorem c22 : root 83 3 = 1555081692 := by decide +kernel
theorem c23 : root 89 3 = 1996064986 := by decide +kernel
theorem c24 : root 97 3 = 2554220882 := by decide +kernel
theorem c25 : root 101 3 = 2821834349 := by decide +kernel
theorem c26 : root 103 3 = 2952996808 := by decide +kernel
theorem c27 : root 107 3 = 3210313671 := by decide +kernel
theorem c28 : root 109 3 = 3336571891 := by decide +kernel
theorem c29 : root 113 3 = 3584528711 := by decide +kernel
theorem c30 : root 127 3 = 113926993 := by decide +kernel
theorem c31 : root 131 3 = 338241895 := by decide +kernel
theorem c32 : root 137 3 = 666307205 := by decide +kernel
theorem c33 : root 139 3 = 773529912 := by decide +kernel
theorem c34 : root 149 3 = 1294757372 := by decide +kernel
theorem c35 : root 151 3 = 1396182291 := by decide +kernel
theorem c36 : root 157 3 = 1695183700 := by decide +kernel
theorem c37 : root 163 3 = 1986661051 := by decide +kernel
theorem c38 : root 167 3 = 2177026350 := by decide +kernel
theorem c39 : root 173 3 = 2456956037 := by decide +kernel
theorem c40 : root 179 3 = 2730485921 := by decide +kernel
theorem c41 : root 181 3 = 2820302411 := by decide +kernel
theorem c42 : root 191 3 = 3259730800 := by decide +kernel
theorem c43 : root 193 3 = 3345764771 := by decide +kernel
theorem c44 : root 197 3 = 3516065817 := by decide +kernel
theorem c45 : root 199 3 = 3600352804 := by decide +kernel
theorem c46 : root 211 3 = 4094571909 := by decide +kernel
theorem c47 : root 223 3 = 275423344 := by decide +kernel
theorem c48 : root 227 3 = 430227734 := by decide +kernel
theorem c49 : root 229 3 = 506948616 := by decide +kernel
theorem c50 : root 233 3 = 659060556 := by decide +kernel
theorem c51 : root 239 3 = 883997877 := by decide +kernel
theorem c52 : root 241 3 = 958139571 := by decide +kernel
theorem c53 : root 251 3 = 1322822218 := by decide +kernel
theorem c54 : root 257 3 = 1537002063 := by decide +kernel
theorem c55 : root 263 3 = 1747873779 := by decide +kernel
theorem c56 : root 269 3 = 1955562222 := by decide +kernel
theorem c57 : root 271 3 = 2024104815 := by decide +kernel
theorem c58 : root 277 3 = 2227730452 := by decide +kernel
theorem c59 : root 281 3 = 2361852424 := by decide +kernel
theorem c60 : root 283 3 = 2428436474 := by decide +kernel
theorem c61 : root 293 3 = 2756734187 := by decide +kernel
theorem c62 : root 307 3 = 3204031479 := by decide +kernel
theorem c63 : root 311 3 = 3329325298 := by decide +kernel
theorem s0 : root 2 2 = 1779033703 := by decide +kernel
theorem s1 : root 3 2 = 3144134277 := by decide +kernel
theorem s2 : root 5 2 = 1013904242 := by decide +kernel
theorem s3 : root 7 2 = 2773480762 := by decide +kernel
theorem s4 : root 11 2 = 1359893119 := by decide +kernel
theorem s5 : root 13 2 = 2600822924 := by decide +kernel
theorem s6 : root 17 2 = 528734635 := by decide +kernel
theorem s7 : root 19 2 = 1541459225 := by decide +kernel

theorem cubes : (pl 312).map (fun p => root p 3) = K := by
  rw [primes_are]
  simp only [List.map_cons, List.map_nil, c0, c1, c2, c3, c4, c5, c6, c7, c8, c9, c10, c11, c12, c13, c14, c15, c16, c17, c18, c19, c20, c21, c22, c23, c24, c25, c26, c27, c28, c29, c30, c31, c32, c33, c34, c35, c36, c37, c38, c39, c40, c41, c42, c43, c44, c45, c46, c47, c48, c49, c50, c51, c52, c53, c54, c55, c56, c57, c58, c59, c60, c61, c62, c63]
  rfl

theorem squares : ((pl 312).take 8).map (fun p => root p 2) = [1779033703, 3144134277, 1013904242, 2773480762, 1359893119, 2600822924, 528734635, 1541459225] := by
  rw [primes_are]
  simp only [List.take_succ_cons, List.take_zero, List.map_cons, List.map_nil, s0, s1, s2, s3, s4, s5, s6, s7]
end Go.Proofs.YtkkacngildnlkaaDoor.Sh
