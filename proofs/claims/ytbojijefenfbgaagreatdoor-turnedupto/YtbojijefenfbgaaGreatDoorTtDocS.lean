/- Walks of the document's secret. Walks of the document's Key, Sign. Walk of the document's Sign. Walks of the package posternkeep: seed, pick. The known answers, reckoned by the kernel. Small walks of posternlaw, and what Key and Sign answer on both sides. Walks of bounds, of the document's in, of digits and High. The library's sort, found among the program's functions (numbers written by the kit's layer). Walk of posternkeep's known. -/
import Derived.Test.YtbojijefenfbgaaGreatDoorTtQApp
import Derived.Test.YtbojijefenfbgaaGreatDoorTtRefHash
import Derived.Shelf.SlSortCmp.WholeK
import Derived.Test.YtbojijefenfbgaaGreatDoorChecked
namespace Go.Proofs.YtbojijefenfbgaaGreatDoor
open Go.RowKit
namespace Dc
open Bt Ed Cw Sw Gw
end Dc
open Go.RowKit
namespace Dc
open Bt Ed Cw Sw Gw
end Dc
open Go.RowKit
namespace Dc
open Bt Ed Cw Sw Gw
end Dc
open Go.RowKit
namespace Gw
open Fw Bt Ww Sw Cw Ed
def z1h (s : List UInt8) : List UInt8 := (s ++ List.replicate 32 0).take 32
theorem z4i (s : List UInt8) : (z1h s).length = 32 := by unfold z1h; simp
theorem x9b (s : List UInt8) (j : Nat) (hj : j < (z1h s).length) : (z1h s)[j] = s.getD j 0 := by
 have h32 : j < 32 := by rw [z4i] at hj; exact hj
 have h : (z1h s)[j]? = some (s.getD j 0) := by
  unfold z1h
  rw [List.getElem?_take_of_lt h32, List.getElem?_append]
  by_cases hs : j < s.length
  ·rw [if_pos hs, List.getElem?_eq_getElem hs]; simp [hs]
  ·rw [if_neg hs, List.getElem?_replicate, if_pos (by omega), List.getD_eq_getElem?_getD, List.getElem?_eq_none (by omega)]; rfl
 rw [List.getElem?_eq_getElem hj] at h
 exact Option.some.inj h
set_option maxHeartbeats 400000 in
theorem y7p (s : List UInt8) (w : World) : Calls Tryz.prog 29 #[.string ⟨s.toArray⟩] w fun e w' => e = .returned (.string ⟨(z1h s).toArray⟩) ∧ Below w.heap.size w w' := by
 have hcp := Hs.z9l (w.alloc (.cells (Own.z4z 32 (.int .u8 0)) 5)) w.heap.size 0 32 32 32 ⟨s.toArray⟩ (fun _ => .int .u8 0) 5 3 (heap_alloc_new _ _) (by omega)
 have hmn : min (⟨s.toArray⟩ : ByteArray).size 32 = min s.length 32 := rfl
 rw [hmn] at hcp
 obtain ⟨w2, hw2⟩ : ∃ w2, w2 = (w.alloc (.cells (Own.z4z 32 (.int .u8 0)) 5)).setRow w.heap.size (Own.z0f 32 (Hs.y5t (fun _ => .int .u8 0) 0 (min s.length 32) s)) := ⟨_, rfl⟩
 have hcp' : Sem.run Tryz.prog (Builtin.copy_ #[145, 9] 3 #[.slice (some ⟨w.heap.size, 0, none⟩) 32 32, .string ⟨s.toArray⟩]) (w.alloc (.cells (Own.z4z 32 (.int .u8 0)) 5)) = .ok (.int .i64 ((min s.length 32 : Nat) : Int)) w2 := by
  rw [hw2]; exact hcp
 have HB : Hid (Below w.heap.size w w2) := by
  rw [hw2]; exact ((Below.refl _ _).alloc (Nat.le_refl _) _).trans (z0a _ _ _)
 have HC : Hid (∀ j (h : j < (z1h s).length), w2.cell? ⟨w.heap.size, 0 + j, none⟩ = some (.int .u8 ((z1h s)[j].toNat : Int))) := by
  intro j hj
  have h32 : j < 32 := by rw [z4i] at hj; exact hj
  have hrow : w2.heap[w.heap.size]? = some (.cells (Own.z0f 32 (Hs.y5t (fun _ => .int .u8 0) 0 (min s.length 32) s)) 5 (0, 0)) := by
   rw [hw2]; exact setRow_heap _ _ _ _ _ _ (heap_alloc_new _ _)
  rw [Nat.zero_add, Own.z0o hrow j h32, x9b]
  unfold Hs.y5t
  by_cases h : j < s.length
  ·rw [if_pos ⟨by omega, by omega⟩]; rfl
  ·rw [if_neg (by omega)]
   rw [List.getD_eq_getElem?_getD, List.getElem?_eq_none (by omega)]
   rfl
 clear hw2 hcp hmn
 obtain ⟨sl, hsl⟩ : ∃ l, l = z1h s := ⟨_, rfl⟩
 have hsll : sl.length = 32 := by rw [hsl]; exact z4i s
 rw [← hsl] at HC ⊢
 clear hsl
 go_enter Tryz.func29, Tryz.ntmps29
 go_wp2_with (first | refine Own.z4y _ rfl _ _ 145 rfl 5 (.int .u8 0) 1 Tryz.underlying145 (by kernel_rfl) rfl .i64 .i64 32 32 32 rfl rfl rfl rfl (by decide) (by decide) ?_ | refine Own.z2n _ rfl _ 145 9 5 rfl Tryz.underlying145 Tryz.underlying5 Tryz.underlying9 w.heap.size 0 32 sl (by rw [hsll]; rfl) HC.out ?_)
 exact bodyPost_ret (v := .string ⟨sl.toArray⟩) (by simp [results, Tryz.results29, go_sem]) rfl ⟨rfl, HB.out⟩
end Gw
open Go.RowKit
namespace Gw
open Fw Bt Ww Sw Cw Ed
theorem x8u {l t t' : List UInt8} (h : (sec l * kN (rB l t) (z6v l) t) % LL ≠ (sec l * kN (rB l t) (z6v l) t') % LL) : z0n (z6v l) t' (z6l l t) = false := by
 cases h' : z0n (z6v l) t' (z6l l t) with
 | false => rfl
 | true =>
  obtain ⟨_, _, p, hp, he, hr⟩ := (y1j _ _ _).1 (y1k z4b l t)
  obtain ⟨_, _, p', hp', he', hr'⟩ := (y1j _ _ _).1 h'
  obtain rfl : p' = p := y0c hp' hp (he'.trans he.symm)
  have hpe : p' = z1x bP (sec l) := y0c hp (z1i z7b _) he
  rw [x2i] at hr hr'
  have hb := z1i z7b (le ((z6l l t).drop 32))
  have h2 := y0c (z5o hb (z1i (z8d hp) _)) (z5o hb (z1i (z8d hp) _)) (hr.trans hr'.symm)
  rw [z6h, z6h (z1x bP _)] at h2
  have h3 := cancel (z1i (z8d hp) _) (z1i (z8d hp) _) hb h2
  rw [y4f, y4f] at h3
  have h4 := congrArg neg h3
  have hnn : ∀ q : Pt, neg (neg q) = q := fun q => by
   have : ∀ (n : Nat) [NeZero n] (a : Fin n), - -a = a := by intro n _ a; grind
   exact Prod.ext (this P q.1) rfl
  rw [hnn, hnn, hpe, z8c z7b, z8c z7b, ← y4h z7b z4b, ← y4h z7b z4b (sec l * _)] at h4
  exact absurd (k0b Nt.k0r z7b z4b k8n (Nat.mod_lt _ (by decide)) (Nat.mod_lt _ (by decide)) h4) h
def q4i : List UInt8 := [157, 97, 177, 157, 239, 253, 90, 96, 186, 132, 74, 244, 146, 236, 44, 196, 68, 73, 197, 105, 123, 50, 105, 25, 112, 59, 172, 3, 28, 174, 127, 96]
def k9e : List UInt8 := [215, 90, 152, 1, 130, 177, 10, 183, 213, 75, 254, 211, 201, 100, 7, 58, 14, 225, 114, 243, 218, 166, 35, 37, 175, 2, 26, 104, 247, 7, 81, 26]
theorem j3d : sec q4i = 36144925721603087658594284515452164870581325872720374094707712194495455132720 := by kernel_rfl
theorem k9g : z6v q4i = k9e := by
 rw [y2u, j3d, x1m z7b (z5y bX bY) 36144925721603087658594284515452164870581325872720374094707712194495455132720 255 (by decide) ⟨38815646466658113194383306759739515082307681141926459231621296960732224964046, by decide⟩ ⟨11903303657706407974989296177215005343713679411332034699907763981919547054807, by decide⟩ (by kernel_rfl)]
 kernel_rfl
def z9x : List UInt8 := [107, 110, 111, 119, 110, 0, 0, 0, 0, 0, 0, 0, 0, 0, 0, 0, 0, 0, 0, 0, 0, 0, 0, 0, 0, 0, 0, 0, 0, 0, 0, 0]
def k9f : List UInt8 := [72, 255, 132, 147, 233, 63, 233, 16, 127, 146, 214, 23, 146, 124, 127, 30, 120, 74, 13, 0, 59, 233, 18, 182, 109, 18, 57, 209, 168, 54, 47, 24]
def rK : List UInt8 := [57, 202, 179, 192, 162, 49, 85, 118, 28, 149, 49, 9, 94, 155, 103, 101, 58, 72, 197, 251, 226, 160, 133, 99, 218, 246, 69, 189, 75, 236, 99, 219]
def x0a : List UInt8 := [116, 101, 120, 116]
def x8e : List UInt8 := [111, 116, 104, 101, 114]
theorem j0w : sec z9x = 30037598882120129009155201257974979392490464250629725771931268206217393640296 := by kernel_rfl
theorem k9h : z6v z9x = k9f := by
 rw [y2u, j0w, x1m z7b (z5y bX bY) 30037598882120129009155201257974979392490464250629725771931268206217393640296 255 (by decide) ⟨15436435100791405191934914090167307024995744258656122004116845650669388481800, by decide⟩ ⟨10938927423650491168425805167276744213914469744306601235128761887934720048968, by decide⟩ (by kernel_rfl)]
 kernel_rfl
theorem j3b : rN z9x x0a = 1514285187564685494526331829676399496877738154236941491437673840624201838859 := by kernel_rfl
theorem r_K : rB z9x x0a = rK := by
 unfold rB
 rw [j3b, x1m z7b (z5y bX bY) 1514285187564685494526331829676399496877738154236941491437673840624201838859 253 (by decide) ⟨49354552925157036369324901240101365993863430751400130997122547626773495814355, by decide⟩ ⟨41337017934556948756531501349086884857331664136162868595427688982862825245241, by decide⟩ (by kernel_rfl)]
 kernel_rfl
theorem j2v : kN rK k9f x0a = 7199715639369767300615814932088150053470669721669099300904680001051694353476 := by kernel_rfl
theorem j2w : kN rK k9f x8e = 817529664804467818413897480775547799226121357197254612520672516295864182727 := by kernel_rfl
theorem x7c : z0n (z6v z9x) x8e (z6l z9x x0a) = false := x8u (by
 rw [r_K, k9h, j2v, j2w, j0w]
 decide)
end Gw
open Go.RowKit
namespace Gw
open Fw Bt Ww Sw Cw Ed
end Gw
open Go.RowKit
namespace Tk
open Bt
def hiB (v : Nat) : Nat → List UInt8
 | 0 => []
 | n + 1 => hiB (v / 256) n ++ [UInt8.ofNat (v % 256)]
theorem z4g (v n : Nat) : (hiB v n).length = n := by
 induction n generalizing v with
 | zero => rfl
 | succ n ih => simp [hiB, ih]
theorem q8x (v n j : Nat) (h : j < (hiB v n).length) : ((hiB v n)[j]).toNat = v / 256 ^ (n - 1 - j) % 256 := by
 induction n generalizing v j with
 | zero => simp [hiB] at h
 | succ n ih =>
  have hl := z4g (v / 256) n
  have hj : j < n + 1 := by rw [z4g] at h; exact h
  simp only [hiB]
  by_cases e : j < n
  ·rw [List.getElem_append_left (by omega), ih, Nat.div_div_eq_div_mul, show n + 1 - 1 - j = (n - 1 - j) + 1 by omega, Nat.pow_succ, Nat.mul_comm]
  ·rw [List.getElem_append_right (by omega)]
   obtain rfl : j = n := by omega
   simp [hl]
def bet (lo n hi : Int) : Bool := decide (lo ≤ n) && decide (n ≤ hi)
theorem z5d (lo n hi : Int) (w : World) : Calls Tryz.prog 123 #[.int .i64 lo, .int .i64 n, .int .i64 hi] w fun e w' => e = .returned (.bool (bet lo n hi)) ∧ w' = w := by
 go_enter Tryz.func123, Tryz.ntmps123
 by_cases h : lo ≤ n
 ·go_wp2_with fail
  exact bodyPost_ret (v := .bool (bet lo n hi)) (by simp [results, Tryz.results123, go_sem, bet, h]) rfl ⟨rfl, rfl⟩
 ·go_wp2_with fail
  exact bodyPost_ret (v := .bool (bet lo n hi)) (by simp [results, Tryz.results123, go_sem, bet]; omega) rfl ⟨rfl, rfl⟩
theorem y3w (n : Int) (w : World) : Calls Tryz.prog 56 #[.int .i64 n] w fun e w' => e = .returned (.bool (bet 0 n 65535)) ∧ w' = w := by
 have H : Hid _ := z5d 0 n 65535
 go_enter Tryz.func56, Tryz.ntmps56
 go_wp2_with fail
 refine (H.out _).mono ?_
 rintro _ w1 ⟨rfl, rfl⟩
 go_wp2_with fail
 exact bodyPost_ret (v := .bool (bet 0 n 65535)) (by simp [results, Tryz.results56, go_sem]) rfl ⟨rfl, rfl⟩
theorem x2g (n : Int) (w : World) : Calls Tryz.prog 57 #[.int .i64 n] w fun e w' => e = .returned (.bool (bet 0 n 4294967295)) ∧ w' = w := by
 have H : Hid _ := z5d 0 n 4294967295
 go_enter Tryz.func57, Tryz.ntmps57
 go_wp2_with fail
 refine (H.out _).mono ?_
 rintro _ w1 ⟨rfl, rfl⟩
 go_wp2_with fail
 exact bodyPost_ret (v := .bool (bet 0 n 4294967295)) (by simp [results, Tryz.results57, go_sem]) rfl ⟨rfl, rfl⟩
theorem q7o (n : Int) (w : World) : Calls Tryz.prog 58 #[.int .i64 n] w fun e w' => e = .returned (.bool (bet 0 n 255)) ∧ w' = w := by
 have H : Hid _ := z5d 0 n 255
 go_enter Tryz.func58, Tryz.ntmps58
 go_wp2_with fail
 refine (H.out _).mono ?_
 rintro _ w1 ⟨rfl, rfl⟩
 go_wp2_with fail
 exact bodyPost_ret (v := .bool (bet 0 n 255)) (by simp [results, Tryz.results58, go_sem]) rfl ⟨rfl, rfl⟩
end Tk
end Go.Proofs.YtbojijefenfbgaaGreatDoor
namespace Go.Proofs.YtbojijefenfbgaaGreatDoor
open Go.Shelf
def y9t : Go.Shelf.Ren := ⟨fun | 6 => 231 | 15 => 220 | 14 => 270 | 28 => 265 | 29 => 266 | 20 => 280 | 21 => 281 | 22 => 282 | 23 => 283 | 24 => 284 | 25 => 285 | 26 => 286 | 27 => 287 | 46 => 293 | 47 => 276 | 48 => 277 | 49 => 294 | 50 => 295 | 57 => 297 | n => n, fun | 22 => 167 | 24 => 154 | 25 => 258 | 3 => 3 | 39 => 175 | 0 => 0 | 53 => 200 | 55 => 159 | 4 => 4 | 46 => 339 | 45 => 338 | 50 => 230 | 5 => 5 | 9 => 9 | 66 => 351 | 70 => 354 | 76 => 362 | 77 => 363 | n => n, fun | n => n⟩
theorem x9e : Go.Proofs.SlLaysF0.n6 Tryz.prog y9t := {
 mixed := by kernel_rfl
 f6 := ⟨Tryz.f231.name, by decide, Tryz.func231.trans (congrArg some (by kernel_rfl))⟩
 f14 := ⟨Tryz.f270.name, by decide, Tryz.func270.trans (congrArg some (by kernel_rfl))⟩
 f15 := Tryz.func220.trans (congrArg some (by kernel_rfl))
 f20 := ⟨Tryz.f280.name, by decide, Tryz.func280.trans (congrArg some (by kernel_rfl))⟩
 f21 := ⟨Tryz.f281.name, by decide, Tryz.func281.trans (congrArg some (by kernel_rfl))⟩
 f22 := ⟨Tryz.f282.name, by decide, Tryz.func282.trans (congrArg some (by kernel_rfl))⟩
 f23 := ⟨Tryz.f283.name, by decide, Tryz.func283.trans (congrArg some (by kernel_rfl))⟩
 f24 := ⟨Tryz.f284.name, by decide, Tryz.func284.trans (congrArg some (by kernel_rfl))⟩
 f25 := ⟨Tryz.f285.name, by decide, Tryz.func285.trans (congrArg some (by kernel_rfl))⟩
 f26 := ⟨Tryz.f286.name, by decide, Tryz.func286.trans (congrArg some (by kernel_rfl))⟩
 f27 := ⟨Tryz.f287.name, by decide, Tryz.func287.trans (congrArg some (by kernel_rfl))⟩
 f28 := Tryz.func265.trans (congrArg some (by kernel_rfl))
 f29 := Tryz.func266.trans (congrArg some (by kernel_rfl))
 f46 := ⟨Tryz.f293.name, by decide, Tryz.func293.trans (congrArg some (by kernel_rfl))⟩
 f47 := Tryz.func276.trans (congrArg some (by kernel_rfl))
 f48 := Tryz.func277.trans (congrArg some (by kernel_rfl))
 f49 := ⟨Tryz.f294.name, by decide, Tryz.func294.trans (congrArg some (by kernel_rfl))⟩
 f50 := ⟨Tryz.f295.name, by decide, Tryz.func295.trans (congrArg some (by kernel_rfl))⟩
 f57 := ⟨Tryz.f297.name, by decide, Tryz.func297.trans (congrArg some (by kernel_rfl))⟩
 t0 := Tryz.underlying0
 a0 := Tryz.isAgg0
 z0 := Tryz.sizeOf0
 v0 := Tryz.zeroValue0
 t3 := Tryz.underlying3
 a3 := Tryz.isAgg3
 z3 := Tryz.sizeOf3
 v3 := Tryz.zeroValue3
 t4 := Tryz.underlying4
 a4 := Tryz.isAgg4
 z4 := Tryz.sizeOf4
 v4 := Tryz.zeroValue4
 t5 := Tryz.underlying5
 a5 := Tryz.isAgg5
 z5 := Tryz.sizeOf5
 v5 := Tryz.zeroValue5
 t9 := Tryz.underlying9
 a9 := Tryz.isAgg9
 z9 := Tryz.sizeOf9
 v9 := Tryz.zeroValue9
 t22 := Tryz.underlying167
 a22 := Tryz.isAgg167
 z22 := Tryz.sizeOf167
 v22 := Tryz.zeroValue167
 t25 := Tryz.underlying258
 a25 := Tryz.isAgg258
 z25 := Tryz.sizeOf258
 v25 := Tryz.zeroValue258
 t39 := Tryz.underlying175
 a39 := Tryz.isAgg175
 z39 := Tryz.sizeOf175
 v39 := Tryz.zeroValue175
 t45 := Tryz.underlying338
 a45 := Tryz.isAgg338
 z45 := Tryz.sizeOf338
 v45 := Tryz.zeroValue338
 t46 := Tryz.underlying339
 a46 := Tryz.isAgg339
 z46 := Tryz.sizeOf339
 v46 := Tryz.zeroValue339
 t50 := Tryz.underlying230
 a50 := Tryz.isAgg230
 z50 := Tryz.sizeOf230
 v50 := Tryz.zeroValue230
 t53 := Tryz.underlying200
 a53 := Tryz.isAgg200
 z53 := Tryz.sizeOf200
 v53 := Tryz.zeroValue200
 t55 := Tryz.underlying159
 a55 := Tryz.isAgg159
 z55 := Tryz.sizeOf159
 v55 := Tryz.zeroValue159
 t66 := Tryz.underlying351
 a66 := Tryz.isAgg351
 z66 := Tryz.sizeOf351
 v66 := Tryz.zeroValue351
 t70 := Tryz.underlying354
 a70 := Tryz.isAgg354
 z70 := Tryz.sizeOf354
 v70 := Tryz.zeroValue354
 t76 := Tryz.underlying362
 a76 := Tryz.isAgg362
 z76 := Tryz.sizeOf362
 v76 := Tryz.zeroValue362
 t77 := Tryz.underlying363
 a77 := Tryz.isAgg363
 z77 := Tryz.sizeOf363
 v77 := Tryz.zeroValue363 }
def y9u : Go.Shelf.Ren := ⟨fun | 6 => 152 | 15 => 220 | 14 => 219 | 28 => 265 | 29 => 266 | 20 => 257 | 21 => 258 | 22 => 259 | 23 => 260 | 24 => 261 | 25 => 262 | 26 => 263 | 27 => 264 | 46 => 275 | 47 => 276 | 48 => 277 | 49 => 278 | 50 => 279 | 57 => 292 | n => n, fun | 22 => 155 | 24 => 245 | 25 => 247 | 3 => 3 | 39 => 175 | 0 => 0 | 53 => 200 | 55 => 159 | 4 => 4 | 46 => 339 | 45 => 338 | 50 => 230 | 5 => 5 | 9 => 9 | 66 => 351 | 70 => 354 | 76 => 362 | 77 => 363 | n => n, fun | n => n⟩
theorem x9g : Go.Proofs.SlLaysF0.n6 Tryz.prog y9u := {
 mixed := by kernel_rfl
 f6 := ⟨Tryz.f152.name, by decide, Tryz.func152.trans (congrArg some (by kernel_rfl))⟩
 f14 := ⟨Tryz.f219.name, by decide, Tryz.func219.trans (congrArg some (by kernel_rfl))⟩
 f15 := Tryz.func220.trans (congrArg some (by kernel_rfl))
 f20 := ⟨Tryz.f257.name, by decide, Tryz.func257.trans (congrArg some (by kernel_rfl))⟩
 f21 := ⟨Tryz.f258.name, by decide, Tryz.func258.trans (congrArg some (by kernel_rfl))⟩
 f22 := ⟨Tryz.f259.name, by decide, Tryz.func259.trans (congrArg some (by kernel_rfl))⟩
 f23 := ⟨Tryz.f260.name, by decide, Tryz.func260.trans (congrArg some (by kernel_rfl))⟩
 f24 := ⟨Tryz.f261.name, by decide, Tryz.func261.trans (congrArg some (by kernel_rfl))⟩
 f25 := ⟨Tryz.f262.name, by decide, Tryz.func262.trans (congrArg some (by kernel_rfl))⟩
 f26 := ⟨Tryz.f263.name, by decide, Tryz.func263.trans (congrArg some (by kernel_rfl))⟩
 f27 := ⟨Tryz.f264.name, by decide, Tryz.func264.trans (congrArg some (by kernel_rfl))⟩
 f28 := Tryz.func265.trans (congrArg some (by kernel_rfl))
 f29 := Tryz.func266.trans (congrArg some (by kernel_rfl))
 f46 := ⟨Tryz.f275.name, by decide, Tryz.func275.trans (congrArg some (by kernel_rfl))⟩
 f47 := Tryz.func276.trans (congrArg some (by kernel_rfl))
 f48 := Tryz.func277.trans (congrArg some (by kernel_rfl))
 f49 := ⟨Tryz.f278.name, by decide, Tryz.func278.trans (congrArg some (by kernel_rfl))⟩
 f50 := ⟨Tryz.f279.name, by decide, Tryz.func279.trans (congrArg some (by kernel_rfl))⟩
 f57 := ⟨Tryz.f292.name, by decide, Tryz.func292.trans (congrArg some (by kernel_rfl))⟩
 t0 := Tryz.underlying0
 a0 := Tryz.isAgg0
 z0 := Tryz.sizeOf0
 v0 := Tryz.zeroValue0
 t3 := Tryz.underlying3
 a3 := Tryz.isAgg3
 z3 := Tryz.sizeOf3
 v3 := Tryz.zeroValue3
 t4 := Tryz.underlying4
 a4 := Tryz.isAgg4
 z4 := Tryz.sizeOf4
 v4 := Tryz.zeroValue4
 t5 := Tryz.underlying5
 a5 := Tryz.isAgg5
 z5 := Tryz.sizeOf5
 v5 := Tryz.zeroValue5
 t9 := Tryz.underlying9
 a9 := Tryz.isAgg9
 z9 := Tryz.sizeOf9
 v9 := Tryz.zeroValue9
 t22 := Tryz.underlying155
 a22 := Tryz.isAgg155
 z22 := Tryz.sizeOf155
 v22 := Tryz.zeroValue155
 t25 := Tryz.underlying247
 a25 := Tryz.isAgg247
 z25 := Tryz.sizeOf247
 v25 := Tryz.zeroValue247
 t39 := Tryz.underlying175
 a39 := Tryz.isAgg175
 z39 := Tryz.sizeOf175
 v39 := Tryz.zeroValue175
 t45 := Tryz.underlying338
 a45 := Tryz.isAgg338
 z45 := Tryz.sizeOf338
 v45 := Tryz.zeroValue338
 t46 := Tryz.underlying339
 a46 := Tryz.isAgg339
 z46 := Tryz.sizeOf339
 v46 := Tryz.zeroValue339
 t50 := Tryz.underlying230
 a50 := Tryz.isAgg230
 z50 := Tryz.sizeOf230
 v50 := Tryz.zeroValue230
 t53 := Tryz.underlying200
 a53 := Tryz.isAgg200
 z53 := Tryz.sizeOf200
 v53 := Tryz.zeroValue200
 t55 := Tryz.underlying159
 a55 := Tryz.isAgg159
 z55 := Tryz.sizeOf159
 v55 := Tryz.zeroValue159
 t66 := Tryz.underlying351
 a66 := Tryz.isAgg351
 z66 := Tryz.sizeOf351
 v66 := Tryz.zeroValue351
 t70 := Tryz.underlying354
 a70 := Tryz.isAgg354
 z70 := Tryz.sizeOf354
 v70 := Tryz.zeroValue354
 t76 := Tryz.underlying362
 a76 := Tryz.isAgg362
 z76 := Tryz.sizeOf362
 v76 := Tryz.zeroValue362
 t77 := Tryz.underlying363
 a77 := Tryz.isAgg363
 z77 := Tryz.sizeOf363
 v77 := Tryz.zeroValue363 }
end Go.Proofs.YtbojijefenfbgaaGreatDoor
namespace Go.Proofs.YtbojijefenfbgaaGreatDoor
open Go.RowKit
namespace Gw
open Fw Bt Ww Sw Cw Ed
theorem y9o : z1h [107, 110, 111, 119, 110] = z9x := by decide
set_option maxRecDepth 100000 in
set_option maxHeartbeats 1000000 in
theorem q9c (w : World) (ht : Hs.z0j w) : Calls Tryz.prog 70 #[] w fun e w' => e = .returned (.bool true) ∧ Below w.heap.size w w' := by
 have HkA : Hid (∀ w, Hs.z0j w → Calls Tryz.prog 34 #[.string ⟨q4i.toArray⟩] w fun e w' => e = .returned (.tuple #[.string ⟨k9e.toArray⟩, .int .i64 0]) ∧ Below w.heap.size w w') := by
  intro w ht
  have h := x1v q4i rfl w ht
  rw [k9g] at h
  exact h
 obtain ⟨sk, hsk⟩ : ∃ s, s = z9x := ⟨_, rfl⟩
 have Hsd : Hid (∀ w, Calls Tryz.prog 29 #[.string ⟨[107, 110, 111, 119, 110].toArray⟩] w fun e w' => e = .returned (.string ⟨sk.toArray⟩) ∧ Below w.heap.size w w') := by
  intro w
  have h := y7p [107, 110, 111, 119, 110] w
  rw [y9o, ← hsk] at h
  exact h
 obtain ⟨ky, hky⟩ : ∃ s, s = z6v z9x := ⟨_, rfl⟩
 obtain ⟨sg, hsg⟩ : ∃ s, s = z6l z9x x0a := ⟨_, rfl⟩
 have HkK : Hid (∀ w, Hs.z0j w → Calls Tryz.prog 34 #[.string ⟨sk.toArray⟩] w fun e w' => e = .returned (.tuple #[.string ⟨ky.toArray⟩, .int .i64 0]) ∧ Below w.heap.size w w') := by
  intro w ht
  rw [hsk, hky]
  exact x1v z9x rfl w ht
 have HsK : Hid (∀ w, Hs.z0j w → Calls Tryz.prog 14 #[.string ⟨sk.toArray⟩, .string ⟨[116, 101, 120, 116].toArray⟩] w fun e w' => e = .returned (.tuple #[.string ⟨sg.toArray⟩, .int .i64 0]) ∧ Below w.heap.size w w') := by
  intro w ht
  rw [hsk, hsg]
  exact k0u z9x x0a rfl (by decide) w ht
 have HrY : Hid (∀ w, Hs.z0j w → Calls Tryz.prog 11 #[.string ⟨ky.toArray⟩, .string ⟨[116, 101, 120, 116].toArray⟩, .string ⟨sg.toArray⟩] w fun e w' => e = .returned (.bool true) ∧ Below w.heap.size w w') := by
  intro w ht
  have h := x1w ky x0a sg (by decide) w ht
  rw [hky, hsg, y1k z4b, ← hky, ← hsg] at h
  exact h
 have HrN : Hid (∀ w, Hs.z0j w → Calls Tryz.prog 11 #[.string ⟨ky.toArray⟩, .string ⟨[111, 116, 104, 101, 114].toArray⟩, .string ⟨sg.toArray⟩] w fun e w' => e = .returned (.bool false) ∧ Below w.heap.size w w') := by
  intro w ht
  have h := x1w ky x8e sg (by decide) w ht
  rw [hky, hsg, x7c, ← hky, ← hsg] at h
  exact h
 clear hsk hky hsg
 have Ht : Hid (Hs.z0j w) := ht
 clear ht
 go_enter Tryz.func70, Tryz.ntmps70
 go_wp2_with fail
 refine (HkA.out w Ht.out).mono ?_
 rintro e w1 ⟨rfl, hb1⟩
 have HB1 : Hid (Below w.heap.size w w1) := hb1
 clear hb1
 go_wp2_with fail
 refine (Hsd.out _).mono ?_
 rintro e w2 ⟨rfl, hb2⟩
 have HB2 : Hid (Below w.heap.size w w2) := HB1.out.trans (hb2.mono HB1.out.size)
 clear hb2 HB1
 go_wp2_with fail
 refine (HsK.out _ (Ht.out.below HB2.out Ht.out.lt)).mono ?_
 rintro e w3 ⟨rfl, hb3⟩
 have HB3 : Hid (Below w.heap.size w w3) := HB2.out.trans (hb3.mono HB2.out.size)
 clear hb3 HB2
 go_wp2_with fail
 refine (Hsd.out _).mono ?_
 rintro e w4 ⟨rfl, hb4⟩
 have HB4 : Hid (Below w.heap.size w w4) := HB3.out.trans (hb4.mono HB3.out.size)
 clear hb4 HB3
 go_wp2_with fail
 refine (HkK.out _ (Ht.out.below HB4.out Ht.out.lt)).mono ?_
 rintro e w5 ⟨rfl, hb5⟩
 have HB5 : Hid (Below w.heap.size w w5) := HB4.out.trans (hb5.mono HB4.out.size)
 clear hb5 HB4
 go_wp2_with fail
 refine (HrY.out _ (Ht.out.below HB5.out Ht.out.lt)).mono ?_
 rintro e w6 ⟨rfl, hb6⟩
 have HB6 : Hid (Below w.heap.size w w6) := HB5.out.trans (hb6.mono HB5.out.size)
 clear hb6 HB5
 go_wp2_with fail
 refine (HrN.out _ (Ht.out.below HB6.out Ht.out.lt)).mono ?_
 rintro e w7 ⟨rfl, hb7⟩
 have HB7 : Hid (Below w.heap.size w w7) := HB6.out.trans (hb7.mono HB6.out.size)
 clear hb7 HB6
 rw [show k9e.toArray = #[215, 90, 152, 1, 130, 177, 10, 183, 213, 75, 254, 211, 201, 100, 7, 58, 14, 225, 114, 243, 218, 166, 35, 37, 175, 2, 26, 104, 247, 7, 81, 26] from rfl]
 go_wp2_with fail
 exact bodyPost_ret (v := .bool true) (by simp [results, Tryz.results70, go_sem]) rfl ⟨rfl, HB7.out⟩
end Gw
end Go.Proofs.YtbojijefenfbgaaGreatDoor
