/- bits.Len32: the number of binary digits of a word. -/
import Derived.Test.YteblinkehldghaaGreatDoorProg
import Derived.Lib.Strings
import Derived.Lib.Slices
import Derived.Lib.Small
import Derived.Lib.Walk
import Derived.Lib.BitFns
namespace Go.Proofs.YteblinkehldghaaGreatDoor
theorem len8_byte(y:Int)(h0:0≤y)(h1:y < 256):Lib.len8 (y % 256)=(Lib.bitLen y.toNat:Int)∧Lib.bitLen y.toNat≤8:=by
 rw[show y % 256=y by omega];exact⟨Lib.len8_of y h0 (by omega),Lib.bitLen_le8' y h0 (by omega)⟩
theorem ret_i64{n m:Int}(h:n=m):Ending.returned (.int .i64 n)=Ending.returned (.int .i64 m):=by rw[h]
set_option maxHeartbeats 1000000 in
set_option maxRecDepth 100000 in
theorem Len32_int(x:Int)(w:World)(h0:0≤x)(h1:x≤4294967295):
  Calls Tryz.prog 182 #[.int .u32 x] w fun e w'=>e=.returned (.int .i64 (Lib.bitLen x.toNat))∧w=w':=by
 go_enter Tryz.func182,Tryz.ntmps182
 go_wp2
 all_goals (go_ret;refine⟨ret_i64 ?_,rfl⟩)
 ·have h:=len8_byte (x / 65536 / 256) (by omega) (by omega);have s:=Lib.bitLen_shift24 x.toNat (by omega) (by omega);rw[show(x / 65536 / 256).toNat=x.toNat / 16777216 by omega] at h;rw[h.1];omega
 ·have h:=len8_byte (x / 65536) (by omega) (by omega);have s:=Lib.bitLen_shift16 x.toNat (by omega) (by omega);rw[show(x / 65536).toNat=x.toNat / 65536 by omega] at h;rw[h.1];omega
 ·have h:=len8_byte (x / 256) (by omega) (by omega);have s:=Lib.bitLen_shift8 x.toNat (by omega) (by omega);rw[show(x / 256).toNat=x.toNat / 256 by omega] at h;rw[h.1];omega
 ·have h:=len8_byte x (by omega) (by omega);rw[h.1];omega
end Go.Proofs.YteblinkehldghaaGreatDoor
