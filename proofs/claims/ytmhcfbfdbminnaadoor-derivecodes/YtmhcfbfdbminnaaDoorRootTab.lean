/-
  The roots of the first primes, looked for digit by digit: the two tables (of no program).
-/
import Derived.Test.YtmhcfbfdbminnaaDoorRootN
namespace Go.Proofs.YtmhcfbfdbminnaaDoor

theorem sieve8 : sieveN 18 = [2, 3, 5, 7, 11, 13, 17, 19] := by decide +kernel
theorem sieve64 : sieveN 310 = [2, 3, 5, 7, 11, 13, 17, 19, 23, 29, 31, 37, 41, 43, 47, 53, 59, 61, 67, 71, 73, 79, 83, 89, 97, 101, 103, 107, 109, 113, 127, 131, 137, 139, 149, 151, 157, 163, 167, 173, 179, 181, 191, 193, 197, 199, 211, 223, 227, 229, 233, 239, 241, 251, 257, 263, 269, 271, 277, 281, 283, 293, 307, 311] := by decide +kernel
theorem roots2 : (sieveN 18).map (fun p => rootN p 2) = startN := by rw [sieve8]; decide +kernel
theorem roots3_0 : ([2, 3, 5, 7] : List Nat).map (fun p => rootN p 3) = [1116352408, 1899447441, 3049323471, 3921009573] := by decide +kernel
theorem roots3_1 : ([11, 13, 17, 19] : List Nat).map (fun p => rootN p 3) = [961987163, 1508970993, 2453635748, 2870763221] := by decide +kernel
theorem roots3_2 : ([23, 29, 31, 37] : List Nat).map (fun p => rootN p 3) = [3624381080, 310598401, 607225278, 1426881987] := by decide +kernel
theorem roots3_3 : ([41, 43, 47, 53] : List Nat).map (fun p => rootN p 3) = [1925078388, 2162078206, 2614888103, 3248222580] := by decide +kernel
theorem roots3_4 : ([59, 61, 67, 71] : List Nat).map (fun p => rootN p 3) = [3835390401, 4022224774, 264347078, 604807628] := by decide +kernel
theorem roots3_5 : ([73, 79, 83, 89] : List Nat).map (fun p => rootN p 3) = [770255983, 1249150122, 1555081692, 1996064986] := by decide +kernel
theorem roots3_6 : ([97, 101, 103, 107] : List Nat).map (fun p => rootN p 3) = [2554220882, 2821834349, 2952996808, 3210313671] := by decide +kernel
theorem roots3_7 : ([109, 113, 127, 131] : List Nat).map (fun p => rootN p 3) = [3336571891, 3584528711, 113926993, 338241895] := by decide +kernel
theorem roots3_8 : ([137, 139, 149, 151] : List Nat).map (fun p => rootN p 3) = [666307205, 773529912, 1294757372, 1396182291] := by decide +kernel
theorem roots3_9 : ([157, 163, 167, 173] : List Nat).map (fun p => rootN p 3) = [1695183700, 1986661051, 2177026350, 2456956037] := by decide +kernel
theorem roots3_10 : ([179, 181, 191, 193] : List Nat).map (fun p => rootN p 3) = [2730485921, 2820302411, 3259730800, 3345764771] := by decide +kernel
theorem roots3_11 : ([197, 199, 211, 223] : List Nat).map (fun p => rootN p 3) = [3516065817, 3600352804, 4094571909, 275423344] := by decide +kernel
theorem roots3_12 : ([227, 229, 233, 239] : List Nat).map (fun p => rootN p 3) = [430227734, 506948616, 659060556, 883997877] := by decide +kernel
theorem roots3_13 : ([241, 251, 257, 263] : List Nat).map (fun p => rootN p 3) = [958139571, 1322822218, 1537002063, 1747873779] := by decide +kernel
theorem roots3_14 : ([269, 271, 277, 281] : List Nat).map (fun p => rootN p 3) = [1955562222, 2024104815, 2227730452, 2361852424] := by decide +kernel
theorem roots3_15 : ([283, 293, 307, 311] : List Nat).map (fun p => rootN p 3) = [2428436474, 2756734187, 3204031479, 3329325298] := by decide +kernel
theorem roots3 : (sieveN 310).map (fun p => rootN p 3) = kN := by
  rw [sieve64]
  show ([2, 3, 5, 7] ++ ([11, 13, 17, 19] ++ ([23, 29, 31, 37] ++ ([41, 43, 47, 53] ++ ([59, 61, 67, 71] ++ ([73, 79, 83, 89] ++ ([97, 101, 103, 107] ++ ([109, 113, 127, 131] ++ ([137, 139, 149, 151] ++ ([157, 163, 167, 173] ++ ([179, 181, 191, 193] ++ ([197, 199, 211, 223] ++ ([227, 229, 233, 239] ++ ([241, 251, 257, 263] ++ ([269, 271, 277, 281] ++ ([283, 293, 307, 311]))))))))))))))) : List Nat).map (fun p => rootN p 3) = kN
  simp only [List.map_append, roots3_0, roots3_1, roots3_2, roots3_3, roots3_4, roots3_5, roots3_6, roots3_7, roots3_8, roots3_9, roots3_10, roots3_11, roots3_12, roots3_13, roots3_14, roots3_15]
  rfl
end Go.Proofs.YtmhcfbfdbminnaaDoor
