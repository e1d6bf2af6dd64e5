/- The first rune of a text, as the reference takes it, for every text that isn't empty. No conditions. -/
import Derived.Test.YtijffkklhgnknaaGreatDoorAz
import Derived.Test.YtijffkklhgnknaaGreatDoorMgNames
import Derived.Test.YtijffkklhgnknaaGreatDoorMgChg
set_option maxHeartbeats 20000000
set_option linter.unusedVariables false
namespace Go.Proofs.YtijffkklhgnknaaGreatDoor
open Go.RowKit
set_option maxRecDepth 100000 in
theorem first_low (s:ByteArray) (w:World) (h0:0<s.size) (hs:s.size≤9223372036854775807) (c0:UInt8) (hc0:s[0]'(by omega)=c0) (k0:c0.toNat<128):
    Calls Tryz.prog 116 #[.string s] w fun e w'=>e=.returned (.tuple #[.int .i64 (c0.toNat),.int .i64 1])∧w=w':=by
  have hz0:(0:Int)<(s.size:Int):=by omega
  have hu0:(c0.toNat:Int)<256:=by have:=c0.toNat_lt;omega
  have j0:(c0.toNat:Int)<128:=by omega
  go_enter Tryz.func116,Tryz.ntmps116;go_wp2
  all_goals go_ret2
  all_goals exact ⟨rfl,rfl⟩
set_option maxRecDepth 100000 in
theorem first_none1 (s:ByteArray) (w:World) (h0:0<s.size) (hs:s.size≤9223372036854775807) (c0:UInt8) (hc0:s[0]'(by omega)=c0) (k0:128≤c0.toNat) (k1:c0.toNat<192):
    Calls Tryz.prog 116 #[.string s] w fun e w'=>e=.returned (.tuple #[.int .i64 (-1),.int .i64 1])∧w=w':=by
  have hz0:(0:Int)<(s.size:Int):=by omega
  have hu0:(c0.toNat:Int)<256:=by have:=c0.toNat_lt;omega
  have j0:¬ (c0.toNat:Int)<128:=by omega
  have j1:decide (192≤(c0.toNat:Int))=false:=by simp;omega
  have j2:decide (224≤(c0.toNat:Int))=false:=by simp;omega
  have j3:decide (240≤(c0.toNat:Int))=false:=by simp;omega
  go_enter Tryz.func116,Tryz.ntmps116;go_wp2
  all_goals go_ret2
  all_goals exact ⟨rfl,rfl⟩
set_option maxRecDepth 100000 in
theorem first_none2 (s:ByteArray) (w:World) (h0:0<s.size) (hs:s.size≤9223372036854775807) (c0:UInt8) (hc0:s[0]'(by omega)=c0) (k0:248≤c0.toNat):
    Calls Tryz.prog 116 #[.string s] w fun e w'=>e=.returned (.tuple #[.int .i64 (-1),.int .i64 1])∧w=w':=by
  have hz0:(0:Int)<(s.size:Int):=by omega
  have hu0:(c0.toNat:Int)<256:=by have:=c0.toNat_lt;omega
  have j0:248≤(c0.toNat:Int):=by omega
  go_enter Tryz.func116,Tryz.ntmps116;go_wp2
  all_goals go_ret2
  all_goals exact ⟨rfl,rfl⟩
set_option maxRecDepth 100000 in
theorem first_short2 (s:ByteArray) (w:World) (h0:0<s.size) (hs:s.size≤9223372036854775807) (c0:UInt8) (hc0:s[0]'(by omega)=c0) (k0:192≤c0.toNat) (k1:c0.toNat<224) (k2:s.size<2):
    Calls Tryz.prog 116 #[.string s] w fun e w'=>e=.returned (.tuple #[.int .i64 (-1),.int .i64 1])∧w=w':=by
  have hz0:(0:Int)<(s.size:Int):=by omega
  have hu0:(c0.toNat:Int)<256:=by have:=c0.toNat_lt;omega
  have j0:192≤(c0.toNat:Int):=by omega
  have j1:(c0.toNat:Int)<224:=by omega
  have j2:(s.size:Int)<2:=by omega
  go_enter Tryz.func116,Tryz.ntmps116;go_wp2
  all_goals go_ret2
  all_goals exact ⟨rfl,rfl⟩
set_option maxRecDepth 100000 in
theorem first_low21 (s:ByteArray) (w:World) (h0:1<s.size) (hs:s.size≤9223372036854775807) (c0 c1:UInt8) (hc0:s[0]'(by omega)=c0) (hc1:s[1]'(by omega)=c1) (k0:192≤c0.toNat) (k1:c0.toNat<224) (n:2≤s.size) (q:c1.toNat<128):
    Calls Tryz.prog 116 #[.string s] w fun e w'=>e=.returned (.tuple #[.int .i64 (-1),.int .i64 1])∧w=w':=by
  have hz0:(0:Int)<(s.size:Int):=by omega
  have hu0:(c0.toNat:Int)<256:=by have:=c0.toNat_lt;omega
  have hz1:(1:Int)<(s.size:Int):=by omega
  have hu1:(c1.toNat:Int)<256:=by have:=c1.toNat_lt;omega
  have j0:192≤(c0.toNat:Int):=by omega
  have j1:(c0.toNat:Int)<224:=by omega
  have nz:(2:Int)≤(s.size:Int):=by omega
  have qz:(c1.toNat:Int)<128:=by omega
  go_enter Tryz.func116,Tryz.ntmps116;go_wp2;go_rounds 2
  all_goals go_ret2
  all_goals exact ⟨rfl,rfl⟩
set_option maxRecDepth 100000 in
theorem first_high21 (s:ByteArray) (w:World) (h0:1<s.size) (hs:s.size≤9223372036854775807) (c0 c1:UInt8) (hc0:s[0]'(by omega)=c0) (hc1:s[1]'(by omega)=c1) (k0:192≤c0.toNat) (k1:c0.toNat<224) (n:2≤s.size) (q:191<c1.toNat):
    Calls Tryz.prog 116 #[.string s] w fun e w'=>e=.returned (.tuple #[.int .i64 (-1),.int .i64 1])∧w=w':=by
  have hz0:(0:Int)<(s.size:Int):=by omega
  have hu0:(c0.toNat:Int)<256:=by have:=c0.toNat_lt;omega
  have hz1:(1:Int)<(s.size:Int):=by omega
  have hu1:(c1.toNat:Int)<256:=by have:=c1.toNat_lt;omega
  have j0:192≤(c0.toNat:Int):=by omega
  have j1:(c0.toNat:Int)<224:=by omega
  have nz:(2:Int)≤(s.size:Int):=by omega
  have qz:(191:Int)<(c1.toNat:Int):=by omega
  have qd:decide ((c1.toNat:Int)<128)=false:=by simp;omega
  go_enter Tryz.func116,Tryz.ntmps116;go_wp2;go_rounds 2
  all_goals go_ret2
  all_goals exact ⟨rfl,rfl⟩
set_option maxRecDepth 100000 in
theorem first_less2 (s:ByteArray) (w:World) (h0:1<s.size) (hs:s.size≤9223372036854775807) (c0 c1:UInt8) (hc0:s[0]'(by omega)=c0) (hc1:s[1]'(by omega)=c1) (k0:192≤c0.toNat) (k1:c0.toNat<224) (p1:128≤c1.toNat) (r1:c1.toNat≤191) (v0:(((c0.toNat:Int) - 192)*64+(c1.toNat:Int) - 128)<128):
    Calls Tryz.prog 116 #[.string s] w fun e w'=>e=.returned (.tuple #[.int .i64 (-1),.int .i64 1])∧w=w':=by
  have hz0:(0:Int)<(s.size:Int):=by omega
  have hu0:(c0.toNat:Int)<256:=by have:=c0.toNat_lt;omega
  have hz1:(1:Int)<(s.size:Int):=by omega
  have hu1:(c1.toNat:Int)<256:=by have:=c1.toNat_lt;omega
  have j0:192≤(c0.toNat:Int):=by omega
  have j1:(c0.toNat:Int)<224:=by omega
  have nz:(2:Int)≤(s.size:Int):=by omega
  have pz1:(128:Int)≤(c1.toNat:Int):=by omega
  have rz1:(c1.toNat:Int)≤191:=by omega
  go_enter Tryz.func116,Tryz.ntmps116;go_wp2;go_rounds 2
  all_goals go_ret2
  all_goals exact ⟨rfl,rfl⟩
set_option maxRecDepth 100000 in
theorem first_is2 (s:ByteArray) (w:World) (h0:1<s.size) (hs:s.size≤9223372036854775807) (c0 c1:UInt8) (hc0:s[0]'(by omega)=c0) (hc1:s[1]'(by omega)=c1) (k0:192≤c0.toNat) (k1:c0.toNat<224) (p1:128≤c1.toNat) (r1:c1.toNat≤191) (v0:128≤(((c0.toNat:Int) - 192)*64+(c1.toNat:Int) - 128)):
    Calls Tryz.prog 116 #[.string s] w fun e w'=>e=.returned (.tuple #[.int .i64 ((((c0.toNat:Int) - 192)*64+(c1.toNat:Int) - 128)),.int .i64 2])∧w=w':=by
  have hz0:(0:Int)<(s.size:Int):=by omega
  have hu0:(c0.toNat:Int)<256:=by have:=c0.toNat_lt;omega
  have hz1:(1:Int)<(s.size:Int):=by omega
  have hu1:(c1.toNat:Int)<256:=by have:=c1.toNat_lt;omega
  have j0:192≤(c0.toNat:Int):=by omega
  have j1:(c0.toNat:Int)<224:=by omega
  have nz:(2:Int)≤(s.size:Int):=by omega
  have pz1:(128:Int)≤(c1.toNat:Int):=by omega
  have rz1:(c1.toNat:Int)≤191:=by omega
  go_enter Tryz.func116,Tryz.ntmps116;go_wp2;go_rounds 2
  all_goals go_ret2
  all_goals exact ⟨rfl,rfl⟩
set_option maxRecDepth 100000 in
theorem first_short3 (s:ByteArray) (w:World) (h0:0<s.size) (hs:s.size≤9223372036854775807) (c0:UInt8) (hc0:s[0]'(by omega)=c0) (k0:224≤c0.toNat) (k1:c0.toNat<240) (k2:s.size<3):
    Calls Tryz.prog 116 #[.string s] w fun e w'=>e=.returned (.tuple #[.int .i64 (-1),.int .i64 1])∧w=w':=by
  have hz0:(0:Int)<(s.size:Int):=by omega
  have hu0:(c0.toNat:Int)<256:=by have:=c0.toNat_lt;omega
  have j0:224≤(c0.toNat:Int):=by omega
  have j1:(c0.toNat:Int)<240:=by omega
  have j2:(s.size:Int)<3:=by omega
  go_enter Tryz.func116,Tryz.ntmps116;go_wp2
  all_goals go_ret2
  all_goals exact ⟨rfl,rfl⟩
set_option maxRecDepth 100000 in
theorem first_low31 (s:ByteArray) (w:World) (h0:1<s.size) (hs:s.size≤9223372036854775807) (c0 c1:UInt8) (hc0:s[0]'(by omega)=c0) (hc1:s[1]'(by omega)=c1) (k0:224≤c0.toNat) (k1:c0.toNat<240) (n:3≤s.size) (q:c1.toNat<128):
    Calls Tryz.prog 116 #[.string s] w fun e w'=>e=.returned (.tuple #[.int .i64 (-1),.int .i64 1])∧w=w':=by
  have hz0:(0:Int)<(s.size:Int):=by omega
  have hu0:(c0.toNat:Int)<256:=by have:=c0.toNat_lt;omega
  have hz1:(1:Int)<(s.size:Int):=by omega
  have hu1:(c1.toNat:Int)<256:=by have:=c1.toNat_lt;omega
  have j0:224≤(c0.toNat:Int):=by omega
  have j1:(c0.toNat:Int)<240:=by omega
  have nz:(3:Int)≤(s.size:Int):=by omega
  have qz:(c1.toNat:Int)<128:=by omega
  go_enter Tryz.func116,Tryz.ntmps116;go_wp2;go_rounds 3
  all_goals go_ret2
  all_goals exact ⟨rfl,rfl⟩
set_option maxRecDepth 100000 in
theorem first_high31 (s:ByteArray) (w:World) (h0:1<s.size) (hs:s.size≤9223372036854775807) (c0 c1:UInt8) (hc0:s[0]'(by omega)=c0) (hc1:s[1]'(by omega)=c1) (k0:224≤c0.toNat) (k1:c0.toNat<240) (n:3≤s.size) (q:191<c1.toNat):
    Calls Tryz.prog 116 #[.string s] w fun e w'=>e=.returned (.tuple #[.int .i64 (-1),.int .i64 1])∧w=w':=by
  have hz0:(0:Int)<(s.size:Int):=by omega
  have hu0:(c0.toNat:Int)<256:=by have:=c0.toNat_lt;omega
  have hz1:(1:Int)<(s.size:Int):=by omega
  have hu1:(c1.toNat:Int)<256:=by have:=c1.toNat_lt;omega
  have j0:224≤(c0.toNat:Int):=by omega
  have j1:(c0.toNat:Int)<240:=by omega
  have nz:(3:Int)≤(s.size:Int):=by omega
  have qz:(191:Int)<(c1.toNat:Int):=by omega
  have qd:decide ((c1.toNat:Int)<128)=false:=by simp;omega
  go_enter Tryz.func116,Tryz.ntmps116;go_wp2;go_rounds 3
  all_goals go_ret2
  all_goals exact ⟨rfl,rfl⟩
set_option maxRecDepth 100000 in
theorem first_low32 (s:ByteArray) (w:World) (h0:2<s.size) (hs:s.size≤9223372036854775807) (c0 c1 c2:UInt8) (hc0:s[0]'(by omega)=c0) (hc1:s[1]'(by omega)=c1) (hc2:s[2]'(by omega)=c2) (k0:224≤c0.toNat) (k1:c0.toNat<240) (n:3≤s.size) (p1:128≤c1.toNat) (r1:c1.toNat≤191) (q:c2.toNat<128):
    Calls Tryz.prog 116 #[.string s] w fun e w'=>e=.returned (.tuple #[.int .i64 (-1),.int .i64 1])∧w=w':=by
  have hz0:(0:Int)<(s.size:Int):=by omega
  have hu0:(c0.toNat:Int)<256:=by have:=c0.toNat_lt;omega
  have hz1:(1:Int)<(s.size:Int):=by omega
  have hu1:(c1.toNat:Int)<256:=by have:=c1.toNat_lt;omega
  have hz2:(2:Int)<(s.size:Int):=by omega
  have hu2:(c2.toNat:Int)<256:=by have:=c2.toNat_lt;omega
  have j0:224≤(c0.toNat:Int):=by omega
  have j1:(c0.toNat:Int)<240:=by omega
  have nz:(3:Int)≤(s.size:Int):=by omega
  have pz1:(128:Int)≤(c1.toNat:Int):=by omega
  have rz1:(c1.toNat:Int)≤191:=by omega
  have qz:(c2.toNat:Int)<128:=by omega
  go_enter Tryz.func116,Tryz.ntmps116;go_wp2;go_rounds 3
  all_goals go_ret2
  all_goals exact ⟨rfl,rfl⟩
set_option maxRecDepth 100000 in
theorem first_high32 (s:ByteArray) (w:World) (h0:2<s.size) (hs:s.size≤9223372036854775807) (c0 c1 c2:UInt8) (hc0:s[0]'(by omega)=c0) (hc1:s[1]'(by omega)=c1) (hc2:s[2]'(by omega)=c2) (k0:224≤c0.toNat) (k1:c0.toNat<240) (n:3≤s.size) (p1:128≤c1.toNat) (r1:c1.toNat≤191) (q:191<c2.toNat):
    Calls Tryz.prog 116 #[.string s] w fun e w'=>e=.returned (.tuple #[.int .i64 (-1),.int .i64 1])∧w=w':=by
  have hz0:(0:Int)<(s.size:Int):=by omega
  have hu0:(c0.toNat:Int)<256:=by have:=c0.toNat_lt;omega
  have hz1:(1:Int)<(s.size:Int):=by omega
  have hu1:(c1.toNat:Int)<256:=by have:=c1.toNat_lt;omega
  have hz2:(2:Int)<(s.size:Int):=by omega
  have hu2:(c2.toNat:Int)<256:=by have:=c2.toNat_lt;omega
  have j0:224≤(c0.toNat:Int):=by omega
  have j1:(c0.toNat:Int)<240:=by omega
  have nz:(3:Int)≤(s.size:Int):=by omega
  have pz1:(128:Int)≤(c1.toNat:Int):=by omega
  have rz1:(c1.toNat:Int)≤191:=by omega
  have qz:(191:Int)<(c2.toNat:Int):=by omega
  have qd:decide ((c2.toNat:Int)<128)=false:=by simp;omega
  go_enter Tryz.func116,Tryz.ntmps116;go_wp2;go_rounds 3
  all_goals go_ret2
  all_goals exact ⟨rfl,rfl⟩
set_option maxRecDepth 100000 in
theorem first_less3 (s:ByteArray) (w:World) (h0:2<s.size) (hs:s.size≤9223372036854775807) (c0 c1 c2:UInt8) (hc0:s[0]'(by omega)=c0) (hc1:s[1]'(by omega)=c1) (hc2:s[2]'(by omega)=c2) (k0:224≤c0.toNat) (k1:c0.toNat<240) (p1:128≤c1.toNat) (r1:c1.toNat≤191) (p2:128≤c2.toNat) (r2:c2.toNat≤191) (v0:((((c0.toNat:Int) - 224)*64+(c1.toNat:Int) - 128)*64+(c2.toNat:Int) - 128)<2048):
    Calls Tryz.prog 116 #[.string s] w fun e w'=>e=.returned (.tuple #[.int .i64 (-1),.int .i64 1])∧w=w':=by
  have hz0:(0:Int)<(s.size:Int):=by omega
  have hu0:(c0.toNat:Int)<256:=by have:=c0.toNat_lt;omega
  have hz1:(1:Int)<(s.size:Int):=by omega
  have hu1:(c1.toNat:Int)<256:=by have:=c1.toNat_lt;omega
  have hz2:(2:Int)<(s.size:Int):=by omega
  have hu2:(c2.toNat:Int)<256:=by have:=c2.toNat_lt;omega
  have j0:224≤(c0.toNat:Int):=by omega
  have j1:(c0.toNat:Int)<240:=by omega
  have nz:(3:Int)≤(s.size:Int):=by omega
  have pz1:(128:Int)≤(c1.toNat:Int):=by omega
  have rz1:(c1.toNat:Int)≤191:=by omega
  have pz2:(128:Int)≤(c2.toNat:Int):=by omega
  have rz2:(c2.toNat:Int)≤191:=by omega
  go_enter Tryz.func116,Tryz.ntmps116;go_wp2;go_rounds 3
  all_goals go_ret2
  all_goals exact ⟨rfl,rfl⟩
set_option maxRecDepth 100000 in
theorem first_sur3 (s:ByteArray) (w:World) (h0:2<s.size) (hs:s.size≤9223372036854775807) (c0 c1 c2:UInt8) (hc0:s[0]'(by omega)=c0) (hc1:s[1]'(by omega)=c1) (hc2:s[2]'(by omega)=c2) (k0:224≤c0.toNat) (k1:c0.toNat<240) (p1:128≤c1.toNat) (r1:c1.toNat≤191) (p2:128≤c2.toNat) (r2:c2.toNat≤191) (v0:55296≤((((c0.toNat:Int) - 224)*64+(c1.toNat:Int) - 128)*64+(c2.toNat:Int) - 128)) (v1:((((c0.toNat:Int) - 224)*64+(c1.toNat:Int) - 128)*64+(c2.toNat:Int) - 128)<57344):
    Calls Tryz.prog 116 #[.string s] w fun e w'=>e=.returned (.tuple #[.int .i64 (-1),.int .i64 1])∧w=w':=by
  have hz0:(0:Int)<(s.size:Int):=by omega
  have hu0:(c0.toNat:Int)<256:=by have:=c0.toNat_lt;omega
  have hz1:(1:Int)<(s.size:Int):=by omega
  have hu1:(c1.toNat:Int)<256:=by have:=c1.toNat_lt;omega
  have hz2:(2:Int)<(s.size:Int):=by omega
  have hu2:(c2.toNat:Int)<256:=by have:=c2.toNat_lt;omega
  have j0:224≤(c0.toNat:Int):=by omega
  have j1:(c0.toNat:Int)<240:=by omega
  have nz:(3:Int)≤(s.size:Int):=by omega
  have pz1:(128:Int)≤(c1.toNat:Int):=by omega
  have rz1:(c1.toNat:Int)≤191:=by omega
  have pz2:(128:Int)≤(c2.toNat:Int):=by omega
  have rz2:(c2.toNat:Int)≤191:=by omega
  go_enter Tryz.func116,Tryz.ntmps116;go_wp2;go_rounds 3
  all_goals go_ret2
  all_goals exact ⟨rfl,rfl⟩
set_option maxRecDepth 100000 in
theorem first_is3a (s:ByteArray) (w:World) (h0:2<s.size) (hs:s.size≤9223372036854775807) (c0 c1 c2:UInt8) (hc0:s[0]'(by omega)=c0) (hc1:s[1]'(by omega)=c1) (hc2:s[2]'(by omega)=c2) (k0:224≤c0.toNat) (k1:c0.toNat<240) (p1:128≤c1.toNat) (r1:c1.toNat≤191) (p2:128≤c2.toNat) (r2:c2.toNat≤191) (v0:2048≤((((c0.toNat:Int) - 224)*64+(c1.toNat:Int) - 128)*64+(c2.toNat:Int) - 128)) (v1:((((c0.toNat:Int) - 224)*64+(c1.toNat:Int) - 128)*64+(c2.toNat:Int) - 128)<55296):
    Calls Tryz.prog 116 #[.string s] w fun e w'=>e=.returned (.tuple #[.int .i64 (((((c0.toNat:Int) - 224)*64+(c1.toNat:Int) - 128)*64+(c2.toNat:Int) - 128)),.int .i64 3])∧w=w':=by
  have hz0:(0:Int)<(s.size:Int):=by omega
  have hu0:(c0.toNat:Int)<256:=by have:=c0.toNat_lt;omega
  have hz1:(1:Int)<(s.size:Int):=by omega
  have hu1:(c1.toNat:Int)<256:=by have:=c1.toNat_lt;omega
  have hz2:(2:Int)<(s.size:Int):=by omega
  have hu2:(c2.toNat:Int)<256:=by have:=c2.toNat_lt;omega
  have j0:224≤(c0.toNat:Int):=by omega
  have j1:(c0.toNat:Int)<240:=by omega
  have nz:(3:Int)≤(s.size:Int):=by omega
  have pz1:(128:Int)≤(c1.toNat:Int):=by omega
  have rz1:(c1.toNat:Int)≤191:=by omega
  have pz2:(128:Int)≤(c2.toNat:Int):=by omega
  have rz2:(c2.toNat:Int)≤191:=by omega
  go_enter Tryz.func116,Tryz.ntmps116;go_wp2;go_rounds 3
  all_goals go_ret2
  all_goals exact ⟨rfl,rfl⟩
set_option maxRecDepth 100000 in
theorem first_is3b (s:ByteArray) (w:World) (h0:2<s.size) (hs:s.size≤9223372036854775807) (c0 c1 c2:UInt8) (hc0:s[0]'(by omega)=c0) (hc1:s[1]'(by omega)=c1) (hc2:s[2]'(by omega)=c2) (k0:224≤c0.toNat) (k1:c0.toNat<240) (p1:128≤c1.toNat) (r1:c1.toNat≤191) (p2:128≤c2.toNat) (r2:c2.toNat≤191) (v0:57344≤((((c0.toNat:Int) - 224)*64+(c1.toNat:Int) - 128)*64+(c2.toNat:Int) - 128)):
    Calls Tryz.prog 116 #[.string s] w fun e w'=>e=.returned (.tuple #[.int .i64 (((((c0.toNat:Int) - 224)*64+(c1.toNat:Int) - 128)*64+(c2.toNat:Int) - 128)),.int .i64 3])∧w=w':=by
  have hz0:(0:Int)<(s.size:Int):=by omega
  have hu0:(c0.toNat:Int)<256:=by have:=c0.toNat_lt;omega
  have hz1:(1:Int)<(s.size:Int):=by omega
  have hu1:(c1.toNat:Int)<256:=by have:=c1.toNat_lt;omega
  have hz2:(2:Int)<(s.size:Int):=by omega
  have hu2:(c2.toNat:Int)<256:=by have:=c2.toNat_lt;omega
  have j0:224≤(c0.toNat:Int):=by omega
  have j1:(c0.toNat:Int)<240:=by omega
  have nz:(3:Int)≤(s.size:Int):=by omega
  have pz1:(128:Int)≤(c1.toNat:Int):=by omega
  have rz1:(c1.toNat:Int)≤191:=by omega
  have pz2:(128:Int)≤(c2.toNat:Int):=by omega
  have rz2:(c2.toNat:Int)≤191:=by omega
  go_enter Tryz.func116,Tryz.ntmps116;go_wp2;go_rounds 3
  all_goals go_ret2
  all_goals exact ⟨rfl,rfl⟩
set_option maxRecDepth 100000 in
theorem first_short4 (s:ByteArray) (w:World) (h0:0<s.size) (hs:s.size≤9223372036854775807) (c0:UInt8) (hc0:s[0]'(by omega)=c0) (k0:240≤c0.toNat) (k1:c0.toNat<248) (k2:s.size<4):
    Calls Tryz.prog 116 #[.string s] w fun e w'=>e=.returned (.tuple #[.int .i64 (-1),.int .i64 1])∧w=w':=by
  have hz0:(0:Int)<(s.size:Int):=by omega
  have hu0:(c0.toNat:Int)<256:=by have:=c0.toNat_lt;omega
  have j0:240≤(c0.toNat:Int):=by omega
  have j1:(c0.toNat:Int)<248:=by omega
  have j2:(s.size:Int)<4:=by omega
  go_enter Tryz.func116,Tryz.ntmps116;go_wp2
  all_goals go_ret2
  all_goals exact ⟨rfl,rfl⟩
set_option maxRecDepth 100000 in
theorem first_low41 (s:ByteArray) (w:World) (h0:1<s.size) (hs:s.size≤9223372036854775807) (c0 c1:UInt8) (hc0:s[0]'(by omega)=c0) (hc1:s[1]'(by omega)=c1) (k0:240≤c0.toNat) (k1:c0.toNat<248) (n:4≤s.size) (q:c1.toNat<128):
    Calls Tryz.prog 116 #[.string s] w fun e w'=>e=.returned (.tuple #[.int .i64 (-1),.int .i64 1])∧w=w':=by
  have hz0:(0:Int)<(s.size:Int):=by omega
  have hu0:(c0.toNat:Int)<256:=by have:=c0.toNat_lt;omega
  have hz1:(1:Int)<(s.size:Int):=by omega
  have hu1:(c1.toNat:Int)<256:=by have:=c1.toNat_lt;omega
  have j0:240≤(c0.toNat:Int):=by omega
  have j1:(c0.toNat:Int)<248:=by omega
  have nz:(4:Int)≤(s.size:Int):=by omega
  have qz:(c1.toNat:Int)<128:=by omega
  go_enter Tryz.func116,Tryz.ntmps116;go_wp2;go_rounds 4
  all_goals go_ret2
  all_goals exact ⟨rfl,rfl⟩
set_option maxRecDepth 100000 in
theorem first_high41 (s:ByteArray) (w:World) (h0:1<s.size) (hs:s.size≤9223372036854775807) (c0 c1:UInt8) (hc0:s[0]'(by omega)=c0) (hc1:s[1]'(by omega)=c1) (k0:240≤c0.toNat) (k1:c0.toNat<248) (n:4≤s.size) (q:191<c1.toNat):
    Calls Tryz.prog 116 #[.string s] w fun e w'=>e=.returned (.tuple #[.int .i64 (-1),.int .i64 1])∧w=w':=by
  have hz0:(0:Int)<(s.size:Int):=by omega
  have hu0:(c0.toNat:Int)<256:=by have:=c0.toNat_lt;omega
  have hz1:(1:Int)<(s.size:Int):=by omega
  have hu1:(c1.toNat:Int)<256:=by have:=c1.toNat_lt;omega
  have j0:240≤(c0.toNat:Int):=by omega
  have j1:(c0.toNat:Int)<248:=by omega
  have nz:(4:Int)≤(s.size:Int):=by omega
  have qz:(191:Int)<(c1.toNat:Int):=by omega
  have qd:decide ((c1.toNat:Int)<128)=false:=by simp;omega
  go_enter Tryz.func116,Tryz.ntmps116;go_wp2;go_rounds 4
  all_goals go_ret2
  all_goals exact ⟨rfl,rfl⟩
set_option maxRecDepth 100000 in
theorem first_low42 (s:ByteArray) (w:World) (h0:2<s.size) (hs:s.size≤9223372036854775807) (c0 c1 c2:UInt8) (hc0:s[0]'(by omega)=c0) (hc1:s[1]'(by omega)=c1) (hc2:s[2]'(by omega)=c2) (k0:240≤c0.toNat) (k1:c0.toNat<248) (n:4≤s.size) (p1:128≤c1.toNat) (r1:c1.toNat≤191) (q:c2.toNat<128):
    Calls Tryz.prog 116 #[.string s] w fun e w'=>e=.returned (.tuple #[.int .i64 (-1),.int .i64 1])∧w=w':=by
  have hz0:(0:Int)<(s.size:Int):=by omega
  have hu0:(c0.toNat:Int)<256:=by have:=c0.toNat_lt;omega
  have hz1:(1:Int)<(s.size:Int):=by omega
  have hu1:(c1.toNat:Int)<256:=by have:=c1.toNat_lt;omega
  have hz2:(2:Int)<(s.size:Int):=by omega
  have hu2:(c2.toNat:Int)<256:=by have:=c2.toNat_lt;omega
  have j0:240≤(c0.toNat:Int):=by omega
  have j1:(c0.toNat:Int)<248:=by omega
  have nz:(4:Int)≤(s.size:Int):=by omega
  have pz1:(128:Int)≤(c1.toNat:Int):=by omega
  have rz1:(c1.toNat:Int)≤191:=by omega
  have qz:(c2.toNat:Int)<128:=by omega
  go_enter Tryz.func116,Tryz.ntmps116;go_wp2;go_rounds 4
  all_goals go_ret2
  all_goals exact ⟨rfl,rfl⟩
set_option maxRecDepth 100000 in
theorem first_high42 (s:ByteArray) (w:World) (h0:2<s.size) (hs:s.size≤9223372036854775807) (c0 c1 c2:UInt8) (hc0:s[0]'(by omega)=c0) (hc1:s[1]'(by omega)=c1) (hc2:s[2]'(by omega)=c2) (k0:240≤c0.toNat) (k1:c0.toNat<248) (n:4≤s.size) (p1:128≤c1.toNat) (r1:c1.toNat≤191) (q:191<c2.toNat):
    Calls Tryz.prog 116 #[.string s] w fun e w'=>e=.returned (.tuple #[.int .i64 (-1),.int .i64 1])∧w=w':=by
  have hz0:(0:Int)<(s.size:Int):=by omega
  have hu0:(c0.toNat:Int)<256:=by have:=c0.toNat_lt;omega
  have hz1:(1:Int)<(s.size:Int):=by omega
  have hu1:(c1.toNat:Int)<256:=by have:=c1.toNat_lt;omega
  have hz2:(2:Int)<(s.size:Int):=by omega
  have hu2:(c2.toNat:Int)<256:=by have:=c2.toNat_lt;omega
  have j0:240≤(c0.toNat:Int):=by omega
  have j1:(c0.toNat:Int)<248:=by omega
  have nz:(4:Int)≤(s.size:Int):=by omega
  have pz1:(128:Int)≤(c1.toNat:Int):=by omega
  have rz1:(c1.toNat:Int)≤191:=by omega
  have qz:(191:Int)<(c2.toNat:Int):=by omega
  have qd:decide ((c2.toNat:Int)<128)=false:=by simp;omega
  go_enter Tryz.func116,Tryz.ntmps116;go_wp2;go_rounds 4
  all_goals go_ret2
  all_goals exact ⟨rfl,rfl⟩
set_option maxRecDepth 100000 in
theorem first_low43 (s:ByteArray) (w:World) (h0:3<s.size) (hs:s.size≤9223372036854775807) (c0 c1 c2 c3:UInt8) (hc0:s[0]'(by omega)=c0) (hc1:s[1]'(by omega)=c1) (hc2:s[2]'(by omega)=c2) (hc3:s[3]'(by omega)=c3) (k0:240≤c0.toNat) (k1:c0.toNat<248) (n:4≤s.size) (p1:128≤c1.toNat) (r1:c1.toNat≤191) (p2:128≤c2.toNat) (r2:c2.toNat≤191) (q:c3.toNat<128):
    Calls Tryz.prog 116 #[.string s] w fun e w'=>e=.returned (.tuple #[.int .i64 (-1),.int .i64 1])∧w=w':=by
  have hz0:(0:Int)<(s.size:Int):=by omega
  have hu0:(c0.toNat:Int)<256:=by have:=c0.toNat_lt;omega
  have hz1:(1:Int)<(s.size:Int):=by omega
  have hu1:(c1.toNat:Int)<256:=by have:=c1.toNat_lt;omega
  have hz2:(2:Int)<(s.size:Int):=by omega
  have hu2:(c2.toNat:Int)<256:=by have:=c2.toNat_lt;omega
  have hz3:(3:Int)<(s.size:Int):=by omega
  have hu3:(c3.toNat:Int)<256:=by have:=c3.toNat_lt;omega
  have j0:240≤(c0.toNat:Int):=by omega
  have j1:(c0.toNat:Int)<248:=by omega
  have nz:(4:Int)≤(s.size:Int):=by omega
  have pz1:(128:Int)≤(c1.toNat:Int):=by omega
  have rz1:(c1.toNat:Int)≤191:=by omega
  have pz2:(128:Int)≤(c2.toNat:Int):=by omega
  have rz2:(c2.toNat:Int)≤191:=by omega
  have qz:(c3.toNat:Int)<128:=by omega
  go_enter Tryz.func116,Tryz.ntmps116;go_wp2;go_rounds 4
  all_goals go_ret2
  all_goals exact ⟨rfl,rfl⟩
set_option maxRecDepth 100000 in
theorem first_high43 (s:ByteArray) (w:World) (h0:3<s.size) (hs:s.size≤9223372036854775807) (c0 c1 c2 c3:UInt8) (hc0:s[0]'(by omega)=c0) (hc1:s[1]'(by omega)=c1) (hc2:s[2]'(by omega)=c2) (hc3:s[3]'(by omega)=c3) (k0:240≤c0.toNat) (k1:c0.toNat<248) (n:4≤s.size) (p1:128≤c1.toNat) (r1:c1.toNat≤191) (p2:128≤c2.toNat) (r2:c2.toNat≤191) (q:191<c3.toNat):
    Calls Tryz.prog 116 #[.string s] w fun e w'=>e=.returned (.tuple #[.int .i64 (-1),.int .i64 1])∧w=w':=by
  have hz0:(0:Int)<(s.size:Int):=by omega
  have hu0:(c0.toNat:Int)<256:=by have:=c0.toNat_lt;omega
  have hz1:(1:Int)<(s.size:Int):=by omega
  have hu1:(c1.toNat:Int)<256:=by have:=c1.toNat_lt;omega
  have hz2:(2:Int)<(s.size:Int):=by omega
  have hu2:(c2.toNat:Int)<256:=by have:=c2.toNat_lt;omega
  have hz3:(3:Int)<(s.size:Int):=by omega
  have hu3:(c3.toNat:Int)<256:=by have:=c3.toNat_lt;omega
  have j0:240≤(c0.toNat:Int):=by omega
  have j1:(c0.toNat:Int)<248:=by omega
  have nz:(4:Int)≤(s.size:Int):=by omega
  have pz1:(128:Int)≤(c1.toNat:Int):=by omega
  have rz1:(c1.toNat:Int)≤191:=by omega
  have pz2:(128:Int)≤(c2.toNat:Int):=by omega
  have rz2:(c2.toNat:Int)≤191:=by omega
  have qz:(191:Int)<(c3.toNat:Int):=by omega
  have qd:decide ((c3.toNat:Int)<128)=false:=by simp;omega
  go_enter Tryz.func116,Tryz.ntmps116;go_wp2;go_rounds 4
  all_goals go_ret2
  all_goals exact ⟨rfl,rfl⟩
set_option maxRecDepth 100000 in
theorem first_less4 (s:ByteArray) (w:World) (h0:3<s.size) (hs:s.size≤9223372036854775807) (c0 c1 c2 c3:UInt8) (hc0:s[0]'(by omega)=c0) (hc1:s[1]'(by omega)=c1) (hc2:s[2]'(by omega)=c2) (hc3:s[3]'(by omega)=c3) (k0:240≤c0.toNat) (k1:c0.toNat<248) (p1:128≤c1.toNat) (r1:c1.toNat≤191) (p2:128≤c2.toNat) (r2:c2.toNat≤191) (p3:128≤c3.toNat) (r3:c3.toNat≤191) (v0:(((((c0.toNat:Int) - 240)*64+(c1.toNat:Int) - 128)*64+(c2.toNat:Int) - 128)*64+(c3.toNat:Int) - 128)<65536):
    Calls Tryz.prog 116 #[.string s] w fun e w'=>e=.returned (.tuple #[.int .i64 (-1),.int .i64 1])∧w=w':=by
  have hz0:(0:Int)<(s.size:Int):=by omega
  have hu0:(c0.toNat:Int)<256:=by have:=c0.toNat_lt;omega
  have hz1:(1:Int)<(s.size:Int):=by omega
  have hu1:(c1.toNat:Int)<256:=by have:=c1.toNat_lt;omega
  have hz2:(2:Int)<(s.size:Int):=by omega
  have hu2:(c2.toNat:Int)<256:=by have:=c2.toNat_lt;omega
  have hz3:(3:Int)<(s.size:Int):=by omega
  have hu3:(c3.toNat:Int)<256:=by have:=c3.toNat_lt;omega
  have j0:240≤(c0.toNat:Int):=by omega
  have j1:(c0.toNat:Int)<248:=by omega
  have nz:(4:Int)≤(s.size:Int):=by omega
  have pz1:(128:Int)≤(c1.toNat:Int):=by omega
  have rz1:(c1.toNat:Int)≤191:=by omega
  have pz2:(128:Int)≤(c2.toNat:Int):=by omega
  have rz2:(c2.toNat:Int)≤191:=by omega
  have pz3:(128:Int)≤(c3.toNat:Int):=by omega
  have rz3:(c3.toNat:Int)≤191:=by omega
  go_enter Tryz.func116,Tryz.ntmps116;go_wp2;go_rounds 4
  all_goals go_ret2
  all_goals exact ⟨rfl,rfl⟩
set_option maxRecDepth 100000 in
theorem first_more4 (s:ByteArray) (w:World) (h0:3<s.size) (hs:s.size≤9223372036854775807) (c0 c1 c2 c3:UInt8) (hc0:s[0]'(by omega)=c0) (hc1:s[1]'(by omega)=c1) (hc2:s[2]'(by omega)=c2) (hc3:s[3]'(by omega)=c3) (k0:240≤c0.toNat) (k1:c0.toNat<248) (p1:128≤c1.toNat) (r1:c1.toNat≤191) (p2:128≤c2.toNat) (r2:c2.toNat≤191) (p3:128≤c3.toNat) (r3:c3.toNat≤191) (v0:1114111<(((((c0.toNat:Int) - 240)*64+(c1.toNat:Int) - 128)*64+(c2.toNat:Int) - 128)*64+(c3.toNat:Int) - 128)):
    Calls Tryz.prog 116 #[.string s] w fun e w'=>e=.returned (.tuple #[.int .i64 (-1),.int .i64 1])∧w=w':=by
  have hz0:(0:Int)<(s.size:Int):=by omega
  have hu0:(c0.toNat:Int)<256:=by have:=c0.toNat_lt;omega
  have hz1:(1:Int)<(s.size:Int):=by omega
  have hu1:(c1.toNat:Int)<256:=by have:=c1.toNat_lt;omega
  have hz2:(2:Int)<(s.size:Int):=by omega
  have hu2:(c2.toNat:Int)<256:=by have:=c2.toNat_lt;omega
  have hz3:(3:Int)<(s.size:Int):=by omega
  have hu3:(c3.toNat:Int)<256:=by have:=c3.toNat_lt;omega
  have j0:240≤(c0.toNat:Int):=by omega
  have j1:(c0.toNat:Int)<248:=by omega
  have nz:(4:Int)≤(s.size:Int):=by omega
  have pz1:(128:Int)≤(c1.toNat:Int):=by omega
  have rz1:(c1.toNat:Int)≤191:=by omega
  have pz2:(128:Int)≤(c2.toNat:Int):=by omega
  have rz2:(c2.toNat:Int)≤191:=by omega
  have pz3:(128:Int)≤(c3.toNat:Int):=by omega
  have rz3:(c3.toNat:Int)≤191:=by omega
  go_enter Tryz.func116,Tryz.ntmps116;go_wp2;go_rounds 4
  all_goals go_ret2
  all_goals exact ⟨rfl,rfl⟩
set_option maxRecDepth 100000 in
theorem first_is4 (s:ByteArray) (w:World) (h0:3<s.size) (hs:s.size≤9223372036854775807) (c0 c1 c2 c3:UInt8) (hc0:s[0]'(by omega)=c0) (hc1:s[1]'(by omega)=c1) (hc2:s[2]'(by omega)=c2) (hc3:s[3]'(by omega)=c3) (k0:240≤c0.toNat) (k1:c0.toNat<248) (p1:128≤c1.toNat) (r1:c1.toNat≤191) (p2:128≤c2.toNat) (r2:c2.toNat≤191) (p3:128≤c3.toNat) (r3:c3.toNat≤191) (v0:65536≤(((((c0.toNat:Int) - 240)*64+(c1.toNat:Int) - 128)*64+(c2.toNat:Int) - 128)*64+(c3.toNat:Int) - 128)) (v1:(((((c0.toNat:Int) - 240)*64+(c1.toNat:Int) - 128)*64+(c2.toNat:Int) - 128)*64+(c3.toNat:Int) - 128)≤1114111):
    Calls Tryz.prog 116 #[.string s] w fun e w'=>e=.returned (.tuple #[.int .i64 ((((((c0.toNat:Int) - 240)*64+(c1.toNat:Int) - 128)*64+(c2.toNat:Int) - 128)*64+(c3.toNat:Int) - 128)),.int .i64 4])∧w=w':=by
  have hz0:(0:Int)<(s.size:Int):=by omega
  have hu0:(c0.toNat:Int)<256:=by have:=c0.toNat_lt;omega
  have hz1:(1:Int)<(s.size:Int):=by omega
  have hu1:(c1.toNat:Int)<256:=by have:=c1.toNat_lt;omega
  have hz2:(2:Int)<(s.size:Int):=by omega
  have hu2:(c2.toNat:Int)<256:=by have:=c2.toNat_lt;omega
  have hz3:(3:Int)<(s.size:Int):=by omega
  have hu3:(c3.toNat:Int)<256:=by have:=c3.toNat_lt;omega
  have j0:240≤(c0.toNat:Int):=by omega
  have j1:(c0.toNat:Int)<248:=by omega
  have nz:(4:Int)≤(s.size:Int):=by omega
  have pz1:(128:Int)≤(c1.toNat:Int):=by omega
  have rz1:(c1.toNat:Int)≤191:=by omega
  have pz2:(128:Int)≤(c2.toNat:Int):=by omega
  have rz2:(c2.toNat:Int)≤191:=by omega
  have pz3:(128:Int)≤(c3.toNat:Int):=by omega
  have rz3:(c3.toNat:Int)≤191:=by omega
  go_enter Tryz.func116,Tryz.ntmps116;go_wp2;go_rounds 4
  all_goals go_ret2
  all_goals exact ⟨rfl,rfl⟩
end Go.Proofs.YtijffkklhgnknaaGreatDoor
/- The first rune by its bytes:the ranges that the reference goes by are those of the decoder. Plain,no conditions. -/
namespace Go.Proofs.YtijffkklhgnknaaGreatDoor
def goF (n b0 b1 b2 b3:Nat):Int × Nat:=
  if b0<128 then (b0,1)
  else if b0<192∨248≤b0 then (-1,1)
  else if b0<224 then (if n<2∨b1<128∨191<b1∨(b0 - 192)*64+b1 - 128<128 then (-1,1) else (((b0 - 192)*64+b1 - 128:Nat),2))
  else if b0<240 then (if n<3∨b1<128∨191<b1∨b2<128∨191<b2∨((b0 - 224)*64+b1 - 128)*64+b2 - 128<2048∨(55296≤((b0 - 224)*64+b1 - 128)*64+b2 - 128∧((b0 - 224)*64+b1 - 128)*64+b2 - 128<57344) then (-1,1) else ((((b0 - 224)*64+b1 - 128)*64+b2 - 128:Nat),3))
  else (if n<4∨b1<128∨191<b1∨b2<128∨191<b2∨b3<128∨191<b3∨(((b0 - 240)*64+b1 - 128)*64+b2 - 128)*64+b3 - 128<65536∨1114111<(((b0 - 240)*64+b1 - 128)*64+b2 - 128)*64+b3 - 128 then (-1,1) else (((((b0 - 240)*64+b1 - 128)*64+b2 - 128)*64+b3 - 128:Nat),4))
set_option maxRecDepth 100000 in
theorem goF_eq (n b0 b1 b2 b3:Nat) (h0:b0<256) (h1:b1<256) (h2:b2<256) (h3:b3<256):
    goF n b0 b1 b2 b3=if Lib.decodeN n b0 b1 b2 b3=(65533,1) then ((-1:Int),1) else (((Lib.decodeN n b0 b1 b2 b3).1:Int),(Lib.decodeN n b0 b1 b2 b3).2):=by
  by_cases k0:b0<128
  · have e:Lib.decodeN n b0 b1 b2 b3=(b0,1):=Lib.decodeN_ascii n b0 b1 b2 b3 k0;rw [e];unfold goF;rw [if_pos k0,if_neg (by intro e;injection e;omega)]
  by_cases k1:b0<192∨248≤b0
  · have e:Lib.decodeN n b0 b1 b2 b3=(65533,1):=by
      unfold Lib.decodeN;rw [if_neg k0,if_neg (by omega),if_neg (by omega),if_neg (by omega)]
    rw [if_pos e];unfold goF;rw [if_neg k0,if_pos k1]
  by_cases k2:b0<224
  · unfold goF;rw [if_neg k0,if_neg k1,if_pos k2];by_cases q:n<2∨b1<128∨191<b1∨(b0 - 192)*64+b1 - 128<128
    · have e:Lib.decodeN n b0 b1 b2 b3=(65533,1):=by
        unfold Lib.decodeN;rw [if_neg k0];by_cases p:b0 / 32=6∧(1<n∧b1 / 64=2)
        · rw [if_pos p,if_neg (by omega)]
        · rw [if_neg p,if_neg (by omega),if_neg (by omega)]
      rw [if_pos q,if_pos e]
    · have e:Lib.decodeN n b0 b1 b2 b3=(b0 % 32*64+b1 % 64,2):=by
        unfold Lib.decodeN;rw [if_neg k0,if_pos (by omega),if_pos (by omega)]
      rw [if_neg q,e,if_neg (by intro e;injection e;omega)];apply Prod.ext
      · show ((_:Nat):Int)=((_:Nat):Int);omega
      · rfl
  by_cases k3:b0<240
  · unfold goF;rw [if_neg k0,if_neg k1,if_neg k2,if_pos k3];by_cases q:n<3∨b1<128∨191<b1∨b2<128∨191<b2∨((b0 - 224)*64+b1 - 128)*64+b2 - 128<2048∨(55296≤((b0 - 224)*64+b1 - 128)*64+b2 - 128∧((b0 - 224)*64+b1 - 128)*64+b2 - 128<57344)
    · have e:Lib.decodeN n b0 b1 b2 b3=(65533,1):=by
        unfold Lib.decodeN;rw [if_neg k0,if_neg (by omega)];by_cases p:b0 / 16=14∧(1<n∧b1 / 64=2)∧(2<n∧b2 / 64=2)
        · rw [if_pos p,if_neg (by omega)]
        · rw [if_neg p,if_neg (by omega)]
      rw [if_pos q,if_pos e]
    · have e:Lib.decodeN n b0 b1 b2 b3=(b0 % 16*4096+b1 % 64*64+b2 % 64,3):=by
        unfold Lib.decodeN;rw [if_neg k0,if_neg (by omega),if_pos (by omega),if_pos (by omega)]
      rw [if_neg q,e,if_neg (by intro e;injection e;omega)];apply Prod.ext
      · show ((_:Nat):Int)=((_:Nat):Int);omega
      · rfl
  · unfold goF;rw [if_neg k0,if_neg k1,if_neg k2,if_neg k3];by_cases q:n<4∨b1<128∨191<b1∨b2<128∨191<b2∨b3<128∨191<b3∨(((b0 - 240)*64+b1 - 128)*64+b2 - 128)*64+b3 - 128<65536∨1114111<(((b0 - 240)*64+b1 - 128)*64+b2 - 128)*64+b3 - 128
    · have e:Lib.decodeN n b0 b1 b2 b3=(65533,1):=by
        unfold Lib.decodeN;rw [if_neg k0,if_neg (by omega),if_neg (by omega)];by_cases p:b0 / 8=30∧(1<n∧b1 / 64=2)∧(2<n∧b2 / 64=2)∧(3<n∧b3 / 64=2)
        · rw [if_pos p,if_neg (by omega)]
        · rw [if_neg p]
      rw [if_pos q,if_pos e]
    · have e:Lib.decodeN n b0 b1 b2 b3=(b0 % 8*262144+b1 % 64*4096+b2 % 64*64+b3 % 64,4):=by
        unfold Lib.decodeN;rw [if_neg k0,if_neg (by omega),if_neg (by omega),if_pos (by omega),if_pos (by omega)]
      rw [if_neg q,e,if_neg (by intro e;injection e;omega)];apply Prod.ext
      · show ((_:Nat):Int)=((_:Nat):Int);omega
      · rfl
theorem fst_goF (l:List UInt8):fst l=goF l.length (l.getD 0 0).toNat (l.getD 1 0).toNat (l.getD 2 0).toNat (l.getD 3 0).toNat:=by
  unfold fst;rw [Lib.decodeL_N,goF_eq _ _ _ _ _ (UInt8.toNat_lt _) (UInt8.toNat_lt _) (UInt8.toNat_lt _) (UInt8.toNat_lt _)]
end Go.Proofs.YtijffkklhgnknaaGreatDoor
/- Runes,names and order by the reference's functions,for every text of at most 2^40 bytes. No other conditions. -/
namespace Go.Proofs.YtijffkklhgnknaaGreatDoor
open Go.RowKit
theorem gd (s:ByteArray) (k:Nat) (h:k<s.size):s.data.toList.getD k 0=s[k]:=by
  have hl:k<s.data.toList.length:=by rw [← Lib.size_eq];exact h
  rw [List.getD,Zh hl,Option.getD_some,Array.getElem_toList];rfl
theorem first_res {s:ByteArray} {w:World} {r:Int × Nat} (x y:Int) (hx:r.1=x) (hy:(r.2:Int)=y)
    (h:Calls Tryz.prog 116 #[.string s] w fun e w'=>e=.returned (.tuple #[.int .i64 x,.int .i64 y])∧w=w'):
    Calls Tryz.prog 116 #[.string s] w fun e w'=>e=.returned (.tuple #[.int .i64 r.1,.int .i64 r.2])∧w=w':=by
  rw [hx,hy];exact h
theorem first_any (s:ByteArray) (w:World) (h0:0<s.size) (hs:s.size≤9223372036854775807):
    Calls Tryz.prog 116 #[.string s] w fun e w'=>e=.returned (.tuple #[.int .i64 (fst s.data.toList).1,.int .i64 (fst s.data.toList).2])∧w=w':=by
  have g0:=gd s 0 h0;rw [fst_goF, ← Lib.size_eq,g0];generalize hr:goF s.size s[0].toNat (s.data.toList.getD 1 0).toNat (s.data.toList.getD 2 0).toNat (s.data.toList.getD 3 0).toNat=r;obtain ⟨c0,hc0⟩:∃ c,s[0]=c:=⟨_,rfl⟩;rw [hc0] at hr;have hu0:=c0.toNat_lt;by_cases k0:c0.toNat<128
  · unfold goF at hr;rw [if_pos k0] at hr;exact first_res _ _ (by rw [← hr]) (by rw [← hr];rfl) (first_low s w h0 hs c0 hc0 k0)
  by_cases k1:c0.toNat<192
  · unfold goF at hr;rw [if_neg k0,if_pos (.inl k1)] at hr;exact first_res _ _ (by rw [← hr]) (by rw [← hr];rfl) (first_none1 s w h0 hs c0 hc0 (by omega) k1)
  by_cases k2:248≤c0.toNat
  · unfold goF at hr;rw [if_neg k0,if_pos (.inr k2)] at hr;exact first_res _ _ (by rw [← hr]) (by rw [← hr];rfl) (first_none2 s w h0 hs c0 hc0 k2)
  by_cases k3:c0.toNat<224
  · by_cases n:s.size<2
    · unfold goF at hr;rw [if_neg k0,if_neg (by omega),if_pos k3,if_pos (.inl n)] at hr;exact first_res _ _ (by rw [← hr]) (by rw [← hr];rfl) (first_short2 s w h0 hs c0 hc0 (by omega) k3 n)
    rw [gd s 1 (by omega)] at hr;obtain ⟨c1,hc1⟩:∃ c,s[1]=c:=⟨_,rfl⟩;rw [hc1] at hr;unfold goF at hr;rw [if_neg k0,if_neg (by omega),if_pos k3] at hr;by_cases p1:c1.toNat<128
    · rw [if_pos (by omega)] at hr;exact first_res _ _ (by rw [← hr]) (by rw [← hr];rfl) (first_low21 s w (by omega) hs c0 c1 hc0 hc1 (by omega) k3 (by omega) p1)
    by_cases p2:191<c1.toNat
    · rw [if_pos (by omega)] at hr;exact first_res _ _ (by rw [← hr]) (by rw [← hr];rfl) (first_high21 s w (by omega) hs c0 c1 hc0 hc1 (by omega) k3 (by omega) p2)
    by_cases v:(c0.toNat - 192)*64+c1.toNat - 128<128
    · rw [if_pos (by omega)] at hr;exact first_res _ _ (by rw [← hr]) (by rw [← hr];rfl) (first_less2 s w (by omega) hs c0 c1 hc0 hc1 (by omega) k3 (by omega) (by omega) (by omega))
    · rw [if_neg (by omega)] at hr;exact first_res _ _ (by rw [← hr];simp only;omega) (by rw [← hr];rfl) (first_is2 s w (by omega) hs c0 c1 hc0 hc1 (by omega) k3 (by omega) (by omega) (by omega))
  by_cases k4:c0.toNat<240
  · by_cases n:s.size<3
    · unfold goF at hr;rw [if_neg k0,if_neg (by omega),if_neg k3,if_pos k4,if_pos (.inl n)] at hr;exact first_res _ _ (by rw [← hr]) (by rw [← hr];rfl) (first_short3 s w h0 hs c0 hc0 (by omega) k4 n)
    rw [gd s 1 (by omega),gd s 2 (by omega)] at hr;obtain ⟨c1,hc1⟩:∃ c,s[1]=c:=⟨_,rfl⟩;obtain ⟨c2,hc2⟩:∃ c,s[2]=c:=⟨_,rfl⟩;rw [hc1,hc2] at hr;unfold goF at hr;rw [if_neg k0,if_neg (by omega),if_neg k3,if_pos k4] at hr;by_cases p1:c1.toNat<128
    · rw [if_pos (by omega)] at hr;exact first_res _ _ (by rw [← hr]) (by rw [← hr];rfl) (first_low31 s w (by omega) hs c0 c1 hc0 hc1 (by omega) k4 (by omega) p1)
    by_cases p2:191<c1.toNat
    · rw [if_pos (by omega)] at hr;exact first_res _ _ (by rw [← hr]) (by rw [← hr];rfl) (first_high31 s w (by omega) hs c0 c1 hc0 hc1 (by omega) k4 (by omega) p2)
    by_cases q1:c2.toNat<128
    · rw [if_pos (by omega)] at hr;exact first_res _ _ (by rw [← hr]) (by rw [← hr];rfl) (first_low32 s w (by omega) hs c0 c1 c2 hc0 hc1 hc2 (by omega) k4 (by omega) (by omega) (by omega) q1)
    by_cases q2:191<c2.toNat
    · rw [if_pos (by omega)] at hr;exact first_res _ _ (by rw [← hr]) (by rw [← hr];rfl) (first_high32 s w (by omega) hs c0 c1 c2 hc0 hc1 hc2 (by omega) k4 (by omega) (by omega) (by omega) q2)
    by_cases v:((c0.toNat - 224)*64+c1.toNat - 128)*64+c2.toNat - 128<2048
    · rw [if_pos (by omega)] at hr;exact first_res _ _ (by rw [← hr]) (by rw [← hr];rfl) (first_less3 s w (by omega) hs c0 c1 c2 hc0 hc1 hc2 (by omega) k4 (by omega) (by omega) (by omega) (by omega) (by omega))
    by_cases v2:((c0.toNat - 224)*64+c1.toNat - 128)*64+c2.toNat - 128<55296
    · rw [if_neg (by omega)] at hr;exact first_res _ _ (by rw [← hr];simp only;omega) (by rw [← hr];rfl) (first_is3a s w (by omega) hs c0 c1 c2 hc0 hc1 hc2 (by omega) k4 (by omega) (by omega) (by omega) (by omega) (by omega) (by omega))
    by_cases v3:((c0.toNat - 224)*64+c1.toNat - 128)*64+c2.toNat - 128<57344
    · rw [if_pos (by omega)] at hr;exact first_res _ _ (by rw [← hr]) (by rw [← hr];rfl) (first_sur3 s w (by omega) hs c0 c1 c2 hc0 hc1 hc2 (by omega) k4 (by omega) (by omega) (by omega) (by omega) (by omega) (by omega))
    · rw [if_neg (by omega)] at hr;exact first_res _ _ (by rw [← hr];simp only;omega) (by rw [← hr];rfl) (first_is3b s w (by omega) hs c0 c1 c2 hc0 hc1 hc2 (by omega) k4 (by omega) (by omega) (by omega) (by omega) (by omega))
  · by_cases n:s.size<4
    · unfold goF at hr;rw [if_neg k0,if_neg (by omega),if_neg k3,if_neg k4,if_pos (.inl n)] at hr;exact first_res _ _ (by rw [← hr]) (by rw [← hr];rfl) (first_short4 s w h0 hs c0 hc0 (by omega) (by omega) n)
    rw [gd s 1 (by omega),gd s 2 (by omega),gd s 3 (by omega)] at hr;obtain ⟨c1,hc1⟩:∃ c,s[1]=c:=⟨_,rfl⟩;obtain ⟨c2,hc2⟩:∃ c,s[2]=c:=⟨_,rfl⟩;obtain ⟨c3,hc3⟩:∃ c,s[3]=c:=⟨_,rfl⟩;rw [hc1,hc2,hc3] at hr;unfold goF at hr;rw [if_neg k0,if_neg (by omega),if_neg k3,if_neg k4] at hr;by_cases p1:c1.toNat<128
    · rw [if_pos (by omega)] at hr;exact first_res _ _ (by rw [← hr]) (by rw [← hr];rfl) (first_low41 s w (by omega) hs c0 c1 hc0 hc1 (by omega) (by omega) (by omega) p1)
    by_cases p2:191<c1.toNat
    · rw [if_pos (by omega)] at hr;exact first_res _ _ (by rw [← hr]) (by rw [← hr];rfl) (first_high41 s w (by omega) hs c0 c1 hc0 hc1 (by omega) (by omega) (by omega) p2)
    by_cases q1:c2.toNat<128
    · rw [if_pos (by omega)] at hr;exact first_res _ _ (by rw [← hr]) (by rw [← hr];rfl) (first_low42 s w (by omega) hs c0 c1 c2 hc0 hc1 hc2 (by omega) (by omega) (by omega) (by omega) (by omega) q1)
    by_cases q2:191<c2.toNat
    · rw [if_pos (by omega)] at hr;exact first_res _ _ (by rw [← hr]) (by rw [← hr];rfl) (first_high42 s w (by omega) hs c0 c1 c2 hc0 hc1 hc2 (by omega) (by omega) (by omega) (by omega) (by omega) q2)
    by_cases t1:c3.toNat<128
    · rw [if_pos (by omega)] at hr;exact first_res _ _ (by rw [← hr]) (by rw [← hr];rfl) (first_low43 s w (by omega) hs c0 c1 c2 c3 hc0 hc1 hc2 hc3 (by omega) (by omega) (by omega) (by omega) (by omega) (by omega) (by omega) t1)
    by_cases t2:191<c3.toNat
    · rw [if_pos (by omega)] at hr;exact first_res _ _ (by rw [← hr]) (by rw [← hr];rfl) (first_high43 s w (by omega) hs c0 c1 c2 c3 hc0 hc1 hc2 hc3 (by omega) (by omega) (by omega) (by omega) (by omega) (by omega) (by omega) t2)
    by_cases v:(((c0.toNat - 240)*64+c1.toNat - 128)*64+c2.toNat - 128)*64+c3.toNat - 128<65536
    · rw [if_pos (by omega)] at hr;exact first_res _ _ (by rw [← hr]) (by rw [← hr];rfl) (first_less4 s w (by omega) hs c0 c1 c2 c3 hc0 hc1 hc2 hc3 (by omega) (by omega) (by omega) (by omega) (by omega) (by omega) (by omega) (by omega) (by omega))
    by_cases v2:1114111<(((c0.toNat - 240)*64+c1.toNat - 128)*64+c2.toNat - 128)*64+c3.toNat - 128
    · rw [if_pos (by omega)] at hr;exact first_res _ _ (by rw [← hr]) (by rw [← hr];rfl) (first_more4 s w (by omega) hs c0 c1 c2 c3 hc0 hc1 hc2 hc3 (by omega) (by omega) (by omega) (by omega) (by omega) (by omega) (by omega) (by omega) (by omega))
    · rw [if_neg (by omega)] at hr;exact first_res _ _ (by rw [← hr];simp only;omega) (by rw [← hr];rfl) (first_is4 s w (by omega) hs c0 c1 c2 c3 hc0 hc1 hc2 hc3 (by omega) (by omega) (by omega) (by omega) (by omega) (by omega) (by omega) (by omega) (by omega) (by omega))
end Go.Proofs.YtijffkklhgnknaaGreatDoor
