/- Walks of the document's 'first' (a rune at the beginning of a text), a case each. -/
import Derived.Test.YteoaelmlcihafaaDoorProg
import Derived.Test.YteoaelmlcihafaaDoorKit
import Derived.Handy
namespace Go.Proofs.YteoaelmlcihafaaDoor.refShow
open Go.ChangeShapes Go.WideShapes Go.ChangeAt Go.RowKit

set_option maxRecDepth 100000 in
set_option maxHeartbeats 2000000 in
theorem first_low (s : ByteArray) (w : World) (hs : s.size ≤ 140737488351232) (h : 0 < s.size) (hc : (s[0].toNat : Int) < 128) :
    Calls Tryd.prog 27 #[.string s] w fun e w' => e = .returned (.tuple #[.int .i64 (s[0].toNat : Int), .int .i64 1]) ∧ w = w' := by
  go_enter Tryd.func27, Tryd.ntmps27
  go_wp2
  go_ret2
  exact ⟨rfl, rfl⟩

set_option maxRecDepth 100000 in
set_option maxHeartbeats 2000000 in
theorem first_none1 (s : ByteArray) (w : World) (hs : s.size ≤ 140737488351232) (h : 0 < s.size) (hc : 128 ≤ (s[0].toNat : Int)) (hd : (s[0].toNat : Int) < 192) :
    Calls Tryd.prog 27 #[.string s] w fun e w' => e = .returned (.tuple #[.int .i64 0, .int .i64 0]) ∧ w = w' := by
  go_enter Tryd.func27, Tryd.ntmps27
  go_wp2
  go_ret2
  exact ⟨rfl, rfl⟩

set_option maxRecDepth 100000 in
set_option maxHeartbeats 2000000 in
theorem first_none2 (s : ByteArray) (w : World) (hs : s.size ≤ 140737488351232) (h : 0 < s.size) (hc : 248 ≤ (s[0].toNat : Int)) (hy : (s[0].toNat : Int) < 256) :
    Calls Tryd.prog 27 #[.string s] w fun e w' => e = .returned (.tuple #[.int .i64 0, .int .i64 0]) ∧ w = w' := by
  go_enter Tryd.func27, Tryd.ntmps27
  go_wp2
  go_ret2
  exact ⟨rfl, rfl⟩

set_option maxRecDepth 100000 in
set_option maxHeartbeats 2000000 in
theorem first_short2 (s : ByteArray) (w : World) (hs : s.size ≤ 140737488351232) (h : 0 < s.size) (hc : 192 ≤ (s[0].toNat : Int)) (hd : (s[0].toNat : Int) < 224) (hn : s.size < 2) :
    Calls Tryd.prog 27 #[.string s] w fun e w' => e = .returned (.tuple #[.int .i64 0, .int .i64 0]) ∧ w = w' := by
  go_enter Tryd.func27, Tryd.ntmps27
  go_wp2
  go_ret2
  exact ⟨rfl, rfl⟩

set_option maxRecDepth 100000 in
set_option maxHeartbeats 2000000 in
theorem first_lo21 (s : ByteArray) (w : World) (hs : s.size ≤ 140737488351232) (h : 1 < s.size) (hc : 192 ≤ (s[0].toNat : Int)) (hd : (s[0].toNat : Int) < 224)  (hx : (s[1].toNat : Int) < 128) :
    Calls Tryd.prog 27 #[.string s] w fun e w' => e = .returned (.tuple #[.int .i64 0, .int .i64 0]) ∧ w = w' := by
  go_enter Tryd.func27, Tryd.ntmps27
  go_wp2
  go_rounds 1
  go_ret2
  exact ⟨rfl, rfl⟩

set_option maxRecDepth 100000 in
set_option maxHeartbeats 2000000 in
theorem first_hi21 (s : ByteArray) (w : World) (hs : s.size ≤ 140737488351232) (h : 1 < s.size) (hc : 192 ≤ (s[0].toNat : Int)) (hd : (s[0].toNat : Int) < 224)  (hx : 192 ≤ (s[1].toNat : Int)) (hy : (s[1].toNat : Int) < 256) :
    Calls Tryd.prog 27 #[.string s] w fun e w' => e = .returned (.tuple #[.int .i64 0, .int .i64 0]) ∧ w = w' := by
  go_enter Tryd.func27, Tryd.ntmps27
  go_wp2
  go_rounds 1
  go_ret2
  exact ⟨rfl, rfl⟩

set_option maxRecDepth 100000 in
set_option maxHeartbeats 2000000 in
theorem first_least2 (s : ByteArray) (w : World) (hs : s.size ≤ 140737488351232) (h : 1 < s.size) (hc : 192 ≤ (s[0].toNat : Int)) (hd : (s[0].toNat : Int) < 224) (a1 : 128 ≤ (s[1].toNat : Int)) (b1 : (s[1].toNat : Int) < 192) (hv : (((s[0].toNat : Int) - 192) * 64 + (s[1].toNat : Int) - 128) < 128) :
    Calls Tryd.prog 27 #[.string s] w fun e w' => e = .returned (.tuple #[.int .i64 0, .int .i64 0]) ∧ w = w' := by
  go_enter Tryd.func27, Tryd.ntmps27
  go_wp2
  go_rounds 2
  go_ret2
  exact ⟨rfl, rfl⟩

set_option maxRecDepth 100000 in
set_option maxHeartbeats 2000000 in
theorem first_ok2 (s : ByteArray) (w : World) (hs : s.size ≤ 140737488351232) (h : 1 < s.size) (hc : 192 ≤ (s[0].toNat : Int)) (hd : (s[0].toNat : Int) < 224) (a1 : 128 ≤ (s[1].toNat : Int)) (b1 : (s[1].toNat : Int) < 192) (hv : 128 ≤ (((s[0].toNat : Int) - 192) * 64 + (s[1].toNat : Int) - 128)) :
    Calls Tryd.prog 27 #[.string s] w fun e w' => e = .returned (.tuple #[.int .i64 (((s[0].toNat : Int) - 192) * 64 + (s[1].toNat : Int) - 128), .int .i64 2]) ∧ w = w' := by
  go_enter Tryd.func27, Tryd.ntmps27
  go_wp2
  go_rounds 2
  go_ret2
  exact ⟨rfl, rfl⟩

set_option maxRecDepth 100000 in
set_option maxHeartbeats 2000000 in
theorem first_short3 (s : ByteArray) (w : World) (hs : s.size ≤ 140737488351232) (h : 0 < s.size) (hc : 224 ≤ (s[0].toNat : Int)) (hd : (s[0].toNat : Int) < 240) (hn : s.size < 3) :
    Calls Tryd.prog 27 #[.string s] w fun e w' => e = .returned (.tuple #[.int .i64 0, .int .i64 0]) ∧ w = w' := by
  go_enter Tryd.func27, Tryd.ntmps27
  go_wp2
  go_ret2
  exact ⟨rfl, rfl⟩

set_option maxRecDepth 100000 in
set_option maxHeartbeats 2000000 in
theorem first_lo31 (s : ByteArray) (w : World) (hs : s.size ≤ 140737488351232) (h : 2 < s.size) (hc : 224 ≤ (s[0].toNat : Int)) (hd : (s[0].toNat : Int) < 240)  (hx : (s[1].toNat : Int) < 128) :
    Calls Tryd.prog 27 #[.string s] w fun e w' => e = .returned (.tuple #[.int .i64 0, .int .i64 0]) ∧ w = w' := by
  go_enter Tryd.func27, Tryd.ntmps27
  go_wp2
  go_rounds 1
  go_ret2
  exact ⟨rfl, rfl⟩

set_option maxRecDepth 100000 in
set_option maxHeartbeats 2000000 in
theorem first_hi31 (s : ByteArray) (w : World) (hs : s.size ≤ 140737488351232) (h : 2 < s.size) (hc : 224 ≤ (s[0].toNat : Int)) (hd : (s[0].toNat : Int) < 240)  (hx : 192 ≤ (s[1].toNat : Int)) (hy : (s[1].toNat : Int) < 256) :
    Calls Tryd.prog 27 #[.string s] w fun e w' => e = .returned (.tuple #[.int .i64 0, .int .i64 0]) ∧ w = w' := by
  go_enter Tryd.func27, Tryd.ntmps27
  go_wp2
  go_rounds 1
  go_ret2
  exact ⟨rfl, rfl⟩

set_option maxRecDepth 100000 in
set_option maxHeartbeats 2000000 in
theorem first_lo32 (s : ByteArray) (w : World) (hs : s.size ≤ 140737488351232) (h : 2 < s.size) (hc : 224 ≤ (s[0].toNat : Int)) (hd : (s[0].toNat : Int) < 240) (a1 : 128 ≤ (s[1].toNat : Int)) (b1 : (s[1].toNat : Int) < 192) (hx : (s[2].toNat : Int) < 128) :
    Calls Tryd.prog 27 #[.string s] w fun e w' => e = .returned (.tuple #[.int .i64 0, .int .i64 0]) ∧ w = w' := by
  go_enter Tryd.func27, Tryd.ntmps27
  go_wp2
  go_rounds 2
  go_ret2
  exact ⟨rfl, rfl⟩

set_option maxRecDepth 100000 in
set_option maxHeartbeats 2000000 in
theorem first_hi32 (s : ByteArray) (w : World) (hs : s.size ≤ 140737488351232) (h : 2 < s.size) (hc : 224 ≤ (s[0].toNat : Int)) (hd : (s[0].toNat : Int) < 240) (a1 : 128 ≤ (s[1].toNat : Int)) (b1 : (s[1].toNat : Int) < 192) (hx : 192 ≤ (s[2].toNat : Int)) (hy : (s[2].toNat : Int) < 256) :
    Calls Tryd.prog 27 #[.string s] w fun e w' => e = .returned (.tuple #[.int .i64 0, .int .i64 0]) ∧ w = w' := by
  go_enter Tryd.func27, Tryd.ntmps27
  go_wp2
  go_rounds 2
  go_ret2
  exact ⟨rfl, rfl⟩

set_option maxRecDepth 100000 in
set_option maxHeartbeats 2000000 in
theorem first_least3 (s : ByteArray) (w : World) (hs : s.size ≤ 140737488351232) (h : 2 < s.size) (hc : 224 ≤ (s[0].toNat : Int)) (hd : (s[0].toNat : Int) < 240) (a1 : 128 ≤ (s[1].toNat : Int)) (b1 : (s[1].toNat : Int) < 192) (a2 : 128 ≤ (s[2].toNat : Int)) (b2 : (s[2].toNat : Int) < 192) (hv : ((((s[0].toNat : Int) - 224) * 64 + (s[1].toNat : Int) - 128) * 64 + (s[2].toNat : Int) - 128) < 2048) :
    Calls Tryd.prog 27 #[.string s] w fun e w' => e = .returned (.tuple #[.int .i64 0, .int .i64 0]) ∧ w = w' := by
  go_enter Tryd.func27, Tryd.ntmps27
  go_wp2
  go_rounds 3
  go_ret2
  exact ⟨rfl, rfl⟩

set_option maxRecDepth 100000 in
set_option maxHeartbeats 2000000 in
theorem first_sur3 (s : ByteArray) (w : World) (hs : s.size ≤ 140737488351232) (h : 2 < s.size) (hc : 224 ≤ (s[0].toNat : Int)) (hd : (s[0].toNat : Int) < 240) (a1 : 128 ≤ (s[1].toNat : Int)) (b1 : (s[1].toNat : Int) < 192) (a2 : 128 ≤ (s[2].toNat : Int)) (b2 : (s[2].toNat : Int) < 192) (hv : 2048 ≤ ((((s[0].toNat : Int) - 224) * 64 + (s[1].toNat : Int) - 128) * 64 + (s[2].toNat : Int) - 128)) (hu : 55296 ≤ ((((s[0].toNat : Int) - 224) * 64 + (s[1].toNat : Int) - 128) * 64 + (s[2].toNat : Int) - 128)) (hu2 : ((((s[0].toNat : Int) - 224) * 64 + (s[1].toNat : Int) - 128) * 64 + (s[2].toNat : Int) - 128) < 57344) :
    Calls Tryd.prog 27 #[.string s] w fun e w' => e = .returned (.tuple #[.int .i64 0, .int .i64 0]) ∧ w = w' := by
  go_enter Tryd.func27, Tryd.ntmps27
  go_wp2
  go_rounds 3
  go_ret2
  exact ⟨rfl, rfl⟩

set_option maxRecDepth 100000 in
set_option maxHeartbeats 2000000 in
theorem first_ok3a (s : ByteArray) (w : World) (hs : s.size ≤ 140737488351232) (h : 2 < s.size) (hc : 224 ≤ (s[0].toNat : Int)) (hd : (s[0].toNat : Int) < 240) (a1 : 128 ≤ (s[1].toNat : Int)) (b1 : (s[1].toNat : Int) < 192) (a2 : 128 ≤ (s[2].toNat : Int)) (b2 : (s[2].toNat : Int) < 192) (hv : 2048 ≤ ((((s[0].toNat : Int) - 224) * 64 + (s[1].toNat : Int) - 128) * 64 + (s[2].toNat : Int) - 128)) (hu : ((((s[0].toNat : Int) - 224) * 64 + (s[1].toNat : Int) - 128) * 64 + (s[2].toNat : Int) - 128) < 55296) :
    Calls Tryd.prog 27 #[.string s] w fun e w' => e = .returned (.tuple #[.int .i64 ((((s[0].toNat : Int) - 224) * 64 + (s[1].toNat : Int) - 128) * 64 + (s[2].toNat : Int) - 128), .int .i64 3]) ∧ w = w' := by
  go_enter Tryd.func27, Tryd.ntmps27
  go_wp2
  go_rounds 3
  go_ret2
  exact ⟨rfl, rfl⟩

set_option maxRecDepth 100000 in
set_option maxHeartbeats 2000000 in
theorem first_ok3b (s : ByteArray) (w : World) (hs : s.size ≤ 140737488351232) (h : 2 < s.size) (hc : 224 ≤ (s[0].toNat : Int)) (hd : (s[0].toNat : Int) < 240) (a1 : 128 ≤ (s[1].toNat : Int)) (b1 : (s[1].toNat : Int) < 192) (a2 : 128 ≤ (s[2].toNat : Int)) (b2 : (s[2].toNat : Int) < 192) (hv : 2048 ≤ ((((s[0].toNat : Int) - 224) * 64 + (s[1].toNat : Int) - 128) * 64 + (s[2].toNat : Int) - 128)) (hu : 57344 ≤ ((((s[0].toNat : Int) - 224) * 64 + (s[1].toNat : Int) - 128) * 64 + (s[2].toNat : Int) - 128)) :
    Calls Tryd.prog 27 #[.string s] w fun e w' => e = .returned (.tuple #[.int .i64 ((((s[0].toNat : Int) - 224) * 64 + (s[1].toNat : Int) - 128) * 64 + (s[2].toNat : Int) - 128), .int .i64 3]) ∧ w = w' := by
  go_enter Tryd.func27, Tryd.ntmps27
  go_wp2
  go_rounds 3
  go_ret2
  exact ⟨rfl, rfl⟩

set_option maxRecDepth 100000 in
set_option maxHeartbeats 2000000 in
theorem first_short4 (s : ByteArray) (w : World) (hs : s.size ≤ 140737488351232) (h : 0 < s.size) (hc : 240 ≤ (s[0].toNat : Int)) (hd : (s[0].toNat : Int) < 248) (hn : s.size < 4) :
    Calls Tryd.prog 27 #[.string s] w fun e w' => e = .returned (.tuple #[.int .i64 0, .int .i64 0]) ∧ w = w' := by
  go_enter Tryd.func27, Tryd.ntmps27
  go_wp2
  go_ret2
  exact ⟨rfl, rfl⟩

set_option maxRecDepth 100000 in
set_option maxHeartbeats 2000000 in
theorem first_lo41 (s : ByteArray) (w : World) (hs : s.size ≤ 140737488351232) (h : 3 < s.size) (hc : 240 ≤ (s[0].toNat : Int)) (hd : (s[0].toNat : Int) < 248)  (hx : (s[1].toNat : Int) < 128) :
    Calls Tryd.prog 27 #[.string s] w fun e w' => e = .returned (.tuple #[.int .i64 0, .int .i64 0]) ∧ w = w' := by
  go_enter Tryd.func27, Tryd.ntmps27
  go_wp2
  go_rounds 1
  go_ret2
  exact ⟨rfl, rfl⟩

set_option maxRecDepth 100000 in
set_option maxHeartbeats 2000000 in
theorem first_hi41 (s : ByteArray) (w : World) (hs : s.size ≤ 140737488351232) (h : 3 < s.size) (hc : 240 ≤ (s[0].toNat : Int)) (hd : (s[0].toNat : Int) < 248)  (hx : 192 ≤ (s[1].toNat : Int)) (hy : (s[1].toNat : Int) < 256) :
    Calls Tryd.prog 27 #[.string s] w fun e w' => e = .returned (.tuple #[.int .i64 0, .int .i64 0]) ∧ w = w' := by
  go_enter Tryd.func27, Tryd.ntmps27
  go_wp2
  go_rounds 1
  go_ret2
  exact ⟨rfl, rfl⟩

set_option maxRecDepth 100000 in
set_option maxHeartbeats 2000000 in
theorem first_lo42 (s : ByteArray) (w : World) (hs : s.size ≤ 140737488351232) (h : 3 < s.size) (hc : 240 ≤ (s[0].toNat : Int)) (hd : (s[0].toNat : Int) < 248) (a1 : 128 ≤ (s[1].toNat : Int)) (b1 : (s[1].toNat : Int) < 192) (hx : (s[2].toNat : Int) < 128) :
    Calls Tryd.prog 27 #[.string s] w fun e w' => e = .returned (.tuple #[.int .i64 0, .int .i64 0]) ∧ w = w' := by
  go_enter Tryd.func27, Tryd.ntmps27
  go_wp2
  go_rounds 2
  go_ret2
  exact ⟨rfl, rfl⟩

set_option maxRecDepth 100000 in
set_option maxHeartbeats 2000000 in
theorem first_hi42 (s : ByteArray) (w : World) (hs : s.size ≤ 140737488351232) (h : 3 < s.size) (hc : 240 ≤ (s[0].toNat : Int)) (hd : (s[0].toNat : Int) < 248) (a1 : 128 ≤ (s[1].toNat : Int)) (b1 : (s[1].toNat : Int) < 192) (hx : 192 ≤ (s[2].toNat : Int)) (hy : (s[2].toNat : Int) < 256) :
    Calls Tryd.prog 27 #[.string s] w fun e w' => e = .returned (.tuple #[.int .i64 0, .int .i64 0]) ∧ w = w' := by
  go_enter Tryd.func27, Tryd.ntmps27
  go_wp2
  go_rounds 2
  go_ret2
  exact ⟨rfl, rfl⟩

set_option maxRecDepth 100000 in
set_option maxHeartbeats 2000000 in
theorem first_lo43 (s : ByteArray) (w : World) (hs : s.size ≤ 140737488351232) (h : 3 < s.size) (hc : 240 ≤ (s[0].toNat : Int)) (hd : (s[0].toNat : Int) < 248) (a1 : 128 ≤ (s[1].toNat : Int)) (b1 : (s[1].toNat : Int) < 192) (a2 : 128 ≤ (s[2].toNat : Int)) (b2 : (s[2].toNat : Int) < 192) (hx : (s[3].toNat : Int) < 128) :
    Calls Tryd.prog 27 #[.string s] w fun e w' => e = .returned (.tuple #[.int .i64 0, .int .i64 0]) ∧ w = w' := by
  go_enter Tryd.func27, Tryd.ntmps27
  go_wp2
  go_rounds 3
  go_ret2
  exact ⟨rfl, rfl⟩

set_option maxRecDepth 100000 in
set_option maxHeartbeats 2000000 in
theorem first_hi43 (s : ByteArray) (w : World) (hs : s.size ≤ 140737488351232) (h : 3 < s.size) (hc : 240 ≤ (s[0].toNat : Int)) (hd : (s[0].toNat : Int) < 248) (a1 : 128 ≤ (s[1].toNat : Int)) (b1 : (s[1].toNat : Int) < 192) (a2 : 128 ≤ (s[2].toNat : Int)) (b2 : (s[2].toNat : Int) < 192) (hx : 192 ≤ (s[3].toNat : Int)) (hy : (s[3].toNat : Int) < 256) :
    Calls Tryd.prog 27 #[.string s] w fun e w' => e = .returned (.tuple #[.int .i64 0, .int .i64 0]) ∧ w = w' := by
  go_enter Tryd.func27, Tryd.ntmps27
  go_wp2
  go_rounds 3
  go_ret2
  exact ⟨rfl, rfl⟩

set_option maxRecDepth 100000 in
set_option maxHeartbeats 2000000 in
theorem first_least4 (s : ByteArray) (w : World) (hs : s.size ≤ 140737488351232) (h : 3 < s.size) (hc : 240 ≤ (s[0].toNat : Int)) (hd : (s[0].toNat : Int) < 248) (a1 : 128 ≤ (s[1].toNat : Int)) (b1 : (s[1].toNat : Int) < 192) (a2 : 128 ≤ (s[2].toNat : Int)) (b2 : (s[2].toNat : Int) < 192) (a3 : 128 ≤ (s[3].toNat : Int)) (b3 : (s[3].toNat : Int) < 192) (hv : (((((s[0].toNat : Int) - 240) * 64 + (s[1].toNat : Int) - 128) * 64 + (s[2].toNat : Int) - 128) * 64 + (s[3].toNat : Int) - 128) < 65536) :
    Calls Tryd.prog 27 #[.string s] w fun e w' => e = .returned (.tuple #[.int .i64 0, .int .i64 0]) ∧ w = w' := by
  go_enter Tryd.func27, Tryd.ntmps27
  go_wp2
  go_rounds 4
  go_ret2
  exact ⟨rfl, rfl⟩

set_option maxRecDepth 100000 in
set_option maxHeartbeats 2000000 in
theorem first_ok4b (s : ByteArray) (w : World) (hs : s.size ≤ 140737488351232) (h : 3 < s.size) (hc : 240 ≤ (s[0].toNat : Int)) (hd : (s[0].toNat : Int) < 248) (a1 : 128 ≤ (s[1].toNat : Int)) (b1 : (s[1].toNat : Int) < 192) (a2 : 128 ≤ (s[2].toNat : Int)) (b2 : (s[2].toNat : Int) < 192) (a3 : 128 ≤ (s[3].toNat : Int)) (b3 : (s[3].toNat : Int) < 192) (hv : 65536 ≤ (((((s[0].toNat : Int) - 240) * 64 + (s[1].toNat : Int) - 128) * 64 + (s[2].toNat : Int) - 128) * 64 + (s[3].toNat : Int) - 128)) (hu : 57344 ≤ (((((s[0].toNat : Int) - 240) * 64 + (s[1].toNat : Int) - 128) * 64 + (s[2].toNat : Int) - 128) * 64 + (s[3].toNat : Int) - 128)) (hm : (((((s[0].toNat : Int) - 240) * 64 + (s[1].toNat : Int) - 128) * 64 + (s[2].toNat : Int) - 128) * 64 + (s[3].toNat : Int) - 128) ≤ 1114111) :
    Calls Tryd.prog 27 #[.string s] w fun e w' => e = .returned (.tuple #[.int .i64 (((((s[0].toNat : Int) - 240) * 64 + (s[1].toNat : Int) - 128) * 64 + (s[2].toNat : Int) - 128) * 64 + (s[3].toNat : Int) - 128), .int .i64 4]) ∧ w = w' := by
  go_enter Tryd.func27, Tryd.ntmps27
  go_wp2
  go_rounds 4
  go_ret2
  exact ⟨rfl, rfl⟩

set_option maxRecDepth 100000 in
set_option maxHeartbeats 2000000 in
theorem first_big4 (s : ByteArray) (w : World) (hs : s.size ≤ 140737488351232) (h : 3 < s.size) (hc : 240 ≤ (s[0].toNat : Int)) (hd : (s[0].toNat : Int) < 248) (a1 : 128 ≤ (s[1].toNat : Int)) (b1 : (s[1].toNat : Int) < 192) (a2 : 128 ≤ (s[2].toNat : Int)) (b2 : (s[2].toNat : Int) < 192) (a3 : 128 ≤ (s[3].toNat : Int)) (b3 : (s[3].toNat : Int) < 192) (hv : 1114111 < (((((s[0].toNat : Int) - 240) * 64 + (s[1].toNat : Int) - 128) * 64 + (s[2].toNat : Int) - 128) * 64 + (s[3].toNat : Int) - 128)) :
    Calls Tryd.prog 27 #[.string s] w fun e w' => e = .returned (.tuple #[.int .i64 0, .int .i64 0]) ∧ w = w' := by
  go_enter Tryd.func27, Tryd.ntmps27
  go_wp2
  go_rounds 4
  go_ret2
  exact ⟨rfl, rfl⟩
end Go.Proofs.YteoaelmlcihafaaDoor.refShow
