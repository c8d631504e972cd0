import Derived.Test.YtpffifpbpmlhdaaGreatDoorProg
import Derived.WalkKit
import Derived.WalkSpells
import Derived.Deep.QuietTactic
import Derived.BigQuiet
import Derived.ArgAppend
set_option maxHeartbeats 32000000
set_option maxRecDepth 100000
namespace Go.Proofs.YtpffifpbpmlhdaaGreatDoor
open Go.RowKit
variable {w w1 w':World}{a:Addr}{v lv bn td:Value}{s nm:ByteArray}{n b c k pb most:Nat}{X Y:Nat->Prop}{f:Nat×Nat}{rows:List (ByteArray×Addr)}
def Hi(p:Prop):Prop:=p
theorem Hi.o{p:Prop}(h:Hi p):p:=h
theorem ab{p:Prop}(h:p):Hi p:=h
theorem tu{b:Addr}{x y:Value}(hw:∃ k,w1=w.drewN k)(ha:w.cell? a=some x)(hb:w.cell? b=some y):w1.cell? a=some x/\w1.cell? b=some y:=by
 obtain⟨k,rfl⟩:=hw;exact⟨ha,hb⟩
theorem uH{x:Bool}(hw:∃ k,w1=w.drewN k)(ha:w.frozen? a=x):w1.frozen? a=x:=by
 obtain⟨k,rfl⟩:=hw;exact ha
theorem zw(hw:Hi (∃ k,w1=w.drewN k))(m:Nat):∃ k,w1.drewN m=w.drewN k:=by
 obtain⟨k,rfl⟩:=hw;exact⟨k+m,by simp⟩
theorem AX{w2:World}{u:Value}(hw:Hi (∃ k,w1=w.drewN k))(h2:Hi (w2=w1.setCell a v))(e:v=u:=by rfl):∃ k,w2=(w.drewN k).setCell a u:=by
 obtain⟨k,rfl⟩:=hw;exact⟨k,e ▸ h2⟩
theorem gw(b:Nat)(n:Int)(w:World)(iX:w.cell? ⟨b,0,none⟩=some (.int .i64 n)):
  Calls Tryz.prog 84 #[.pointer (some ⟨b,0,none⟩)] w fun e w'=>e=.returned (.int .i64 n)/\w'=w:=by
 go_enter Tryz.func84,Tryz.ntmps84
 go_wp2
 go_ret;exact⟨rfl,rfl⟩
theorem ja(b:Nat)(n k:Int)(w:World)(iX:w.cell? ⟨b,0,none⟩=some (.int .i64 n))(FU:w.frozen? ⟨b,0,none⟩=false)
  (h0:0<=n+k) (h1:n+k<=9223372036854775807) :
  Calls Tryz.prog 168 #[.pointer (some ⟨b,0,none⟩),.int .i64 k] w fun e w'=>e=.returned (.tuple #[])/\w'=w.setCell ⟨b,0,none⟩ (.int .i64 (n+k)):=by
 go_enter Tryz.func168,Tryz.ntmps168
 go_wp2
 go_end0
 exact⟨rfl,rfl⟩
theorem qJ(b n:Nat)(s:ByteArray)(w:World)(_hs:s.size<=maxLen)(iX:w.cell? ⟨b,0,none⟩=some (.int .i64 n))(qG:w.cell? ⟨b,1,none⟩=some (.string s))(hn:n<s.size):
  Calls Tryz.prog 83 #[.pointer (some ⟨b,0,none⟩)] w fun e w'=>e=.returned (.bool false)/\∃ k,w'=w.drewN k:=by
 unfold maxLen at _hs;have a:(((n:Nat):Int)==((s.size:Nat):Int))=false:=beq_eq_false_iff_ne.2 (by omega);go_enter Tryz.func83,Tryz.ntmps83;go_wp2_with fail
 go_quiet ((go_at_call 84;exact Calls.quiet_of_same (gw _ _ _ iX)))
 go_wp2_with fail;go_ret;exact⟨rfl,_,rfl⟩
theorem oE(b n:Nat)(s:ByteArray)(w:World)(_hs:s.size<=maxLen)(iX:w.cell? ⟨b,0,none⟩=some (.int .i64 n))(qG:w.cell? ⟨b,1,none⟩=some (.string s))(hn:n=s.size):
  Calls Tryz.prog 83 #[.pointer (some ⟨b,0,none⟩)] w fun e w'=>e=.returned (.bool true)/\∃ k,w'=w.drewN k:=by
 unfold maxLen at _hs;subst hn;go_enter Tryz.func83,Tryz.ntmps83;go_wp2_with fail
 go_quiet ((go_at_call 84;exact Calls.quiet_of_same (gw _ _ _ iX)))
 go_wp2_with fail;go_ret;exact⟨rfl,_,rfl⟩
theorem zX(b n:Nat)(s:ByteArray)(w:World)(hs:s.size<=maxLen)(iX:w.cell? ⟨b,0,none⟩=some (.int .i64 n))(qG:w.cell? ⟨b,1,none⟩=some (.string s))(hn:n=s.size):
  Calls Tryz.prog 164 #[.pointer (some ⟨b,0,none⟩)] w fun e w'=>e=.returned (.tuple #[.int .u8 0,.bool false])/\∃ k,w'=w.drewN k:=by
 go_enter Tryz.func164,Tryz.ntmps164;go_wp2_with fail;refine(oE b n s _ hs iX qG hn).mono ?_;rintro e a ⟨rfl,k,rfl⟩;go_wp2_with fail;go_ret2;exact⟨rfl,_,rfl⟩
theorem nC(b n:Nat)(s:ByteArray)(w:World)(hs:s.size<=maxLen)(iX:w.cell? ⟨b,0,none⟩=some (.int .i64 n))(qG:w.cell? ⟨b,1,none⟩=some (.string s))(hn:n<s.size):
  Calls Tryz.prog 164 #[.pointer (some ⟨b,0,none⟩)] w fun e w'=>e=.returned (.tuple #[.int .u8 (s[n].toNat),.bool true])/\∃ k,w'=w.drewN k:=by
 have c:=hs;unfold maxLen at c;have g:((n:Nat):Int)<((s.size:Nat):Int):=by omega
 go_enter Tryz.func164,Tryz.ntmps164;go_wp2_with fail;refine(qJ b n s _ hs iX qG hn).mono ?_;rintro e i ⟨rfl,d⟩;obtain⟨a,f⟩:=tu d iX qG;go_wp2_with fail
 go_quiet ((go_at_call 84;exact Calls.quiet_of_same (gw _ _ _ a)))
 go_wp2_with fail;go_ret2;exact⟨rfl,zw d _⟩
theorem lK(b n:Nat)(s:ByteArray)(lo hi:Int)(w:World)(hs:s.size<=maxLen)(iX:w.cell? ⟨b,0,none⟩=some (.int .i64 n))(qG:w.cell? ⟨b,1,none⟩=some (.string s))(bZ:n<=s.size)
  (dH:∀ h:n<s.size,(s[n].toNat:Int)<lo\/hi<(s[n].toNat:Int)) :
  Calls Tryz.prog 173 #[.pointer (some ⟨b,0,none⟩),.int .u8 lo,.int .u8 hi] w fun e w'=>e=.returned (.tuple #[.int .u8 0,.bool false])/\∃ k,w'=w.drewN k:=by
 by_cases d:n<s.size
 ·have g:=dH d
  by_cases i:(s[n].toNat:Int)<lo
  ·go_enter Tryz.func173,Tryz.ntmps173;go_wp2_with fail;refine(nC b n s _ hs iX qG d).mono ?_;rintro e f ⟨rfl,a⟩;go_wp2_with fail;go_ret2;exact⟨rfl,a⟩
  ·have j:hi<(s[n].toNat:Int):=by omega
   go_enter Tryz.func173,Tryz.ntmps173;go_wp2_with fail;refine(nC b n s _ hs iX qG d).mono ?_;rintro e f ⟨rfl,a⟩;go_wp2_with fail;go_ret2;exact⟨rfl,a⟩
 ·go_enter Tryz.func173,Tryz.ntmps173;go_wp2_with fail;refine(zX b n s _ hs iX qG (by omega)).mono ?_;rintro e f ⟨rfl,a⟩;go_wp2_with fail;go_ret2;exact⟨rfl,a⟩
theorem kR(b n:Nat)(s:ByteArray)(lo hi:Int)(w:World)(hs:s.size<=maxLen)(iX:w.cell? ⟨b,0,none⟩=some (.int .i64 n))(FU:w.frozen? ⟨b,0,none⟩=false)(qG:w.cell? ⟨b,1,none⟩=some (.string s))(hn:n<s.size)
  (h1:lo<=(s[n].toNat:Int)) (h2:(s[n].toNat:Int)<=hi) :
  Calls Tryz.prog 173 #[.pointer (some ⟨b,0,none⟩),.int .u8 lo,.int .u8 hi] w fun e w'=>e=.returned (.tuple #[.int .u8 (s[n].toNat),.bool true])/\∃ k,w'=(w.drewN k).setCell ⟨b,0,none⟩ (.int .i64 ((n+1:Nat):Int)):=by
 have g:=hs;unfold maxLen at g;go_enter Tryz.func173,Tryz.ntmps173;go_wp2_with fail;refine(nC b n s _ hs iX qG hn).mono ?_;rintro e l ⟨rfl,f⟩;obtain⟨c,i⟩:=tu f iX qG;have a:=uH f FU;have j:=ab f;clear f iX qG FU;go_wp2_with fail;refine(ja b n 1 _ c a (by omega) (by omega)).mono ?_;rintro e m ⟨rfl,d⟩;have h:=ab d;clear d;go_wp2_with fail;go_ret2;exact⟨rfl,AX j h⟩
theorem tI(b n:Nat)(s:ByteArray)(c:Int)(w:World)(hs:s.size<=maxLen)(iX:w.cell? ⟨b,0,none⟩=some (.int .i64 n))(qG:w.cell? ⟨b,1,none⟩=some (.string s))(bZ:n<=s.size)
  (dH:∀ h:n<s.size,(s[n].toNat:Int)≠c) :
  Calls Tryz.prog 153 #[.pointer (some ⟨b,0,none⟩),.int .u8 c] w fun e w'=>e=.returned (.bool false)/\∃ k,w'=w.drewN k:=by
 have a:Hi (∀ h:n<s.size,(s[n].toNat:Int)<c\/c<(s[n].toNat:Int)):=fun h=>by have:=dH h;omega
 go_enter Tryz.func153,Tryz.ntmps153;go_wp2_with fail;refine(lK b n s c c _ hs iX qG bZ a).mono ?_;rintro e g ⟨rfl,d⟩;go_wp2_with fail;go_ret;exact⟨rfl,d⟩
theorem qP(b n:Nat)(s:ByteArray)(c:Int)(w:World)(hs:s.size<=maxLen)(iX:w.cell? ⟨b,0,none⟩=some (.int .i64 n))(FU:w.frozen? ⟨b,0,none⟩=false)(qG:w.cell? ⟨b,1,none⟩=some (.string s))(hn:n<s.size)
  (h1:(s[n].toNat:Int)=c) :
  Calls Tryz.prog 153 #[.pointer (some ⟨b,0,none⟩),.int .u8 c] w fun e w'=>e=.returned (.bool true)/\∃ k,w'=(w.drewN k).setCell ⟨b,0,none⟩ (.int .i64 ((n+1:Nat):Int)):=by
 have d:c<=(s[n].toNat:Int):=by omega
 have f:(s[n].toNat:Int)<=c:=by omega
 go_enter Tryz.func153,Tryz.ntmps153;go_wp2_with fail;refine(kR b n s c c _ hs iX FU qG hn d f).mono ?_;rintro e h ⟨rfl,a⟩;go_wp2_with fail;go_ret;exact⟨rfl,a⟩
theorem sD(b f n:Nat)(s:ByteArray)(w:World)(_hs:s.size<=maxLen)(iX:w.cell? ⟨b,0,none⟩=some (.int .i64 n))(qG:w.cell? ⟨b,1,none⟩=some (.string s))(hf:f<=n)(hn:n<=s.size):
  Calls Tryz.prog 166 #[.pointer (some ⟨b,0,none⟩),.int .i64 f] w fun e w'=>e=.returned (.string (s.extract f n))/\∃ k,w'=w.drewN k:=by
 unfold maxLen at _hs;have a:((n:Nat):Int)<=((s.size:Nat):Int):=by omega
 have c:((f:Nat):Int)<=((n:Nat):Int):=by omega
 go_enter Tryz.func166,Tryz.ntmps166;go_wp2_with fail
 go_quiet ((go_at_call 84;exact Calls.quiet_of_same (gw _ _ _ iX)))
 go_wp2_with fail;go_ret;exact⟨rfl,_,rfl⟩
def aq(s:ByteArray)(n:Nat):Nat:=if h:n<s.size then s[n].toNat else 256
theorem f9(h:n<s.size):aq s n=s[n].toNat:=by simp[aq,h]
theorem kP(h:¬n<s.size):aq s n=256:=by simp[aq,h]
theorem bt(h:aq s n<256):n<s.size:=by
 by_cases a:n<s.size
 ·exact a
 ·rw[kP a] at h;omega
structure Fr(X:Nat->Prop)(w w':World):Prop where
 os:w'.os=w.os
 tape:w'.tape=w.tape
 output:w'.output=w.output
 size:w.heap.size<=w'.heap.size
 block:∀ k,k<w.heap.size->¬X k->w'.heap[k]?=w.heap[k]?
def One(b:Nat):Nat->Prop:=fun k=>k=b
def Zero:Nat->Prop:=fun _=>False
theorem Fr.refl(X:Nat->Prop)(w:World):Fr X w w:=⟨rfl,rfl,rfl,Nat.le_refl _,fun _ _ _=>rfl⟩
theorem Fr.trans{a b c:World}(h:Fr X a b)(k:Fr X b c):Fr X a c :=
 ⟨k.os.trans h.os,k.tape.trans h.tape,k.output.trans h.output,Nat.le_trans h.size k.size,fun i hi hx=>(k.block i (Nat.lt_of_lt_of_le hi h.size) hx).trans (h.block i hi hx)⟩
theorem Fr.mono{a b:World}(h:Fr X a b)(hx:∀ k,k<a.heap.size->X k->Y k):Fr Y a b :=
 ⟨h.os,h.tape,h.output,h.size,fun i hi hy=>h.block i hi (fun e=>hy (hx i hi e))⟩
theorem Fr.dV{a b:World}(h:Fr Zero a b):Fr X a b:=h.mono (fun _ _ e=>e.elim)
theorem Fr.below{a b:World}(h:Fr X a b){B:Nat}(hB:B<=a.heap.size)(hx:∀ k,X k->B<=k):Below B a b :=
 ⟨h.os,h.tape,h.output,h.size,fun i hi=>h.block i (by omega) (fun e=>by have:=hx i e;omega)⟩
theorem Fr.drewN(X:Nat->Prop)(w:World)(k:Nat):Fr X w (w.drewN k):=⟨rfl,rfl,rfl,Nat.le_refl _,fun _ _ _=>rfl⟩
theorem Fr.alloc(X:Nat->Prop)(w:World)(o:Obj):Fr X w (w.alloc o):=⟨rfl,rfl,rfl,by simp,fun i hi _=>Below.heap_alloc _ _ _ hi⟩
theorem Fr.setCell(X:Nat->Prop)(w:World)(a:Addr)(v:Value)(hx:X a.block):Fr X w (w.setCell a v) :=
 ⟨rfl,rfl,rfl,by simp[World.setCell],fun i _ hi=>Below.heap_setCell _ _ _ _ (fun e=>hi (e ▸ hx))⟩
theorem Fr.grown{row:Option Nat}(hg:w.grownBy w' row)(hr:∀ k,row=some k->k<w.heap.size->X k):Fr X w w' :=
 ⟨hg.os,hg.tape,hg.output,hg.size,fun i hi hx=>hg.block i hi (fun e=>hx (hr i e.symm hi))⟩
theorem lt_of_heap{o:Obj}(h:w.heap[b]?=some o):b<w.heap.size:=by
 rcases Nat.lt_or_ge b w.heap.size with a|a
 ·exact a
 ·rw[Array.getElem?_eq_none a] at h;cases h
theorem Fr.ae(h:Fr X w w'){o:Obj}(hb:w.heap[b]?=some o)(hx:¬X b):w'.heap[b]?=some o :=
 (h.block b (lt_of_heap hb) hx).trans hb
theorem Fr.cell(h:Fr X w w')(hb:a.block<w.heap.size)(hx:¬X a.block):w'.cell? a=w.cell? a :=
 World.cell?_of_block (h.block _ hb hx)
theorem heap_setCell_same{o:Nat}{c:Array Value}{t:TypeId}(h:w.heap[b]?=some (.cells c t f)):
  (w.setCell ⟨b,o,none⟩ v).heap[b]?=some (.cells (c.setIfInBounds o v) t f):=by
 simp[World.setCell,Array.getElem?_modify,h]
theorem cell_of_heap{o:Nat}{c:Array Value}{t:TypeId}(h:w.heap[b]?=some (.cells c t f)):w.cell? ⟨b,o,none⟩=c[o]?:=by
 simp[World.cell?,h]
theorem ak{o:Nat}{c:Array Value}{t:TypeId}(h:w.heap[b]?=some (.cells c t (0,0))):w.frozen? ⟨b,o,none⟩=false:=by
 simp[World.frozen?,h]
theorem af(h:w.heap.size=k)(o:Obj):(w.alloc o).heap[k]?=some o:=by
 subst h;exact heap_alloc_new w o
def PB(w:World)(pb:Nat)(s:ByteArray)(n:Nat)(lv bn td:Value):Prop :=
 w.heap[pb]?=some (.cells #[.int .i64 n,.string s,lv,bn,td] 196 (0,0))
section
variable {w w':World} {pb:Nat} {s:ByteArray} {n:Nat} {lv bn td:Value}
theorem PB.dM(h:PB w pb s n lv bn td):w.cell? ⟨pb,0,none⟩=some (.int .i64 n):=by rw[cell_of_heap h];rfl
theorem PB.cE(h:PB w pb s n lv bn td):w.cell? ⟨pb,1,none⟩=some (.string s):=by rw[cell_of_heap h];rfl
theorem PB.fM(h:PB w pb s n lv bn td):w.cell? ⟨pb,2,none⟩=some lv:=by rw[cell_of_heap h];rfl
theorem PB.dw(h:PB w pb s n lv bn td):w.cell? ⟨pb,3,none⟩=some bn:=by rw[cell_of_heap h];rfl
theorem PB.gS(h:PB w pb s n lv bn td):w.cell? ⟨pb,4,none⟩=some td:=by rw[cell_of_heap h];rfl
theorem PB.free(h:PB w pb s n lv bn td)(o:Nat):w.frozen? ⟨pb,o,none⟩=false:=ak h
theorem PB.drewN(h:PB w pb s n lv bn td)(k:Nat):PB (w.drewN k) pb s n lv bn td:=h
theorem PB.It(h:PB w pb s n lv bn td)(m:Nat):PB (w.setCell ⟨pb,0,none⟩ (.int .i64 m)) pb s m lv bn td:=by
 unfold PB;rw[heap_setCell_same h];rfl
theorem PB.Hx(h:PB w pb s n lv bn td)(v:Value):PB (w.setCell ⟨pb,2,none⟩ v) pb s n v bn td:=by
 unfold PB;rw[heap_setCell_same h];rfl
theorem PB.Hw(h:PB w pb s n lv bn td)(v:Value):PB (w.setCell ⟨pb,3,none⟩ v) pb s n lv v td:=by
 unfold PB;rw[heap_setCell_same h];rfl
theorem PB.set4(h:PB w pb s n lv bn td)(v:Value):PB (w.setCell ⟨pb,4,none⟩ v) pb s n lv bn v:=by
 unfold PB;rw[heap_setCell_same h];rfl
theorem PB.alloc(h:PB w pb s n lv bn td)(o:Obj):PB (w.alloc o) pb s n lv bn td:=by
 unfold PB;rw[Below.heap_alloc _ _ _ (lt_of_heap h)];exact h
theorem PB.ae(h:PB w pb s n lv bn td)(hf:Fr X w w')(hx:¬X pb):PB w' pb s n lv bn td:=hf.ae h hx
theorem PB.ne(h:PB w pb s n lv bn td){c:Array Value}{t:TypeId}(hb:w.heap[b]?=some (.cells c t f))(ht:t≠196):¬One pb b:=by
 intro e;have a:b=pb:=e;subst a;unfold PB at h;rw[h] at hb;simp at hb;exact ht hb.2.1.symm
end
theorem yQ(hP:PB w pb s n lv bn td)(hs:s.size<=maxLen)(bZ:n<=s.size)(c:Int)(hc:(aq s n:Int)≠c):
  Calls Tryz.prog 153 #[.pointer (some ⟨pb,0,none⟩),.int .u8 c] w fun e w'=>e=.returned (.bool false)/\PB w' pb s n lv bn td/\Fr (One pb) w w':=by
 refine(tI pb n s c w hs hP.dM hP.cE bZ (fun h=>by rw[f9 h] at hc;exact hc)).mono ?_;rintro e w' ⟨rfl,k,rfl⟩;exact⟨rfl,hP,Fr.drewN _ _ _⟩
theorem wJ(hP:PB w pb s n lv bn td)(hs:s.size<=maxLen)(c:Int)(hc:(aq s n:Int)=c)(BU:c<256):
  Calls Tryz.prog 153 #[.pointer (some ⟨pb,0,none⟩),.int .u8 c] w fun e w'=>e=.returned (.bool true)/\PB w' pb s (n+1) lv bn td/\Fr (One pb) w w':=by
 have a:n<s.size:=bt (by omega);refine(qP pb n s c w hs hP.dM (hP.free 0) hP.cE a (by rw[f9 a] at hc;exact hc)).mono ?_;rintro e w' ⟨rfl,k,rfl⟩;exact⟨rfl,(hP.drewN k).It (n+1),(Fr.drewN _ _ k).trans (Fr.setCell _ _ _ _ rfl)⟩
theorem ug(hP:PB w pb s n lv bn td)(hs:s.size<=maxLen)(bZ:n<=s.size)(lo hi:Int)(hc:(aq s n:Int)<lo\/hi<(aq s n:Int)):
  Calls Tryz.prog 173 #[.pointer (some ⟨pb,0,none⟩),.int .u8 lo,.int .u8 hi] w fun e w'=>e=.returned (.tuple #[.int .u8 0,.bool false])/\PB w' pb s n lv bn td/\Fr (One pb) w w':=by
 refine(lK pb n s lo hi w hs hP.dM hP.cE bZ (fun h=>by rw[f9 h] at hc;exact hc)).mono ?_;rintro e w' ⟨rfl,k,rfl⟩;exact⟨rfl,hP,Fr.drewN _ _ _⟩
theorem rK(hP:PB w pb s n lv bn td)(hs:s.size<=maxLen)(lo hi:Int)(h1:lo<=(aq s n:Int))(h2:(aq s n:Int)<=hi)(BU:hi<256):
  Calls Tryz.prog 173 #[.pointer (some ⟨pb,0,none⟩),.int .u8 lo,.int .u8 hi] w fun e w'=>e=.returned (.tuple #[.int .u8 (aq s n),.bool true])/\PB w' pb s (n+1) lv bn td/\Fr (One pb) w w':=by
 have a:n<s.size:=bt (by omega);refine(kR pb n s lo hi w hs hP.dM (hP.free 0) hP.cE a (by rw[f9 a] at h1;exact h1) (by rw[f9 a] at h2;exact h2)).mono ?_;rintro e w' ⟨rfl,k,rfl⟩;exact⟨by rw[f9 a],(hP.drewN k).It (n+1),(Fr.drewN _ _ k).trans (Fr.setCell _ _ _ _ rfl)⟩
theorem GX(hP:PB w pb s n lv bn td)(hs:s.size<=maxLen)(bZ:n<=s.size):
  Calls Tryz.prog 83 #[.pointer (some ⟨pb,0,none⟩)] w fun e w'=>e=.returned (.bool (decide (n=s.size)))/\PB w' pb s n lv bn td/\Fr (One pb) w w':=by
 by_cases a:n=s.size
 ·refine(oE pb n s w hs hP.dM hP.cE a).mono ?_;rintro e w' ⟨rfl,k,rfl⟩;exact⟨by simp[a],hP,Fr.drewN _ _ _⟩
 ·refine(qJ pb n s w hs hP.dM hP.cE (by omega)).mono ?_;rintro e w' ⟨rfl,k,rfl⟩;exact⟨by simp[a],hP,Fr.drewN _ _ _⟩
theorem Du(hP:PB w pb s n lv bn td)(hs:s.size<=maxLen)(f:Nat)(hf:f<=n)(bZ:n<=s.size):
  Calls Tryz.prog 166 #[.pointer (some ⟨pb,0,none⟩),.int .i64 f] w fun e w'=>e=.returned (.string (s.extract f n))/\PB w' pb s n lv bn td/\Fr (One pb) w w':=by
 refine(sD pb f n s w hs hP.dM hP.cE hf bZ).mono ?_;rintro e w' ⟨rfl,k,rfl⟩;exact⟨rfl,hP,Fr.drewN _ _ _⟩
def ah(s:ByteArray)(n:Nat):Nat->Nat
 | 0=>n
 | k+1=>if 97<=aq s n/\aq s n<=122 then ah s (n+1) k else n
theorem d6(s:ByteArray)(k:Nat):∀ n,n<=ah s n k:=by
 induction k with
 | zero=>intro n;exact Nat.le_refl _
 | succ k ih =>
  intro n;unfold ah
  split
  ·exact Nat.le_trans (Nat.le_succ n) (ih (n+1))
  ·exact Nat.le_refl _
theorem gV(s:ByteArray)(k:Nat):∀ n,n<=s.size->ah s n k<=s.size:=by
 induction k with
 | zero=>intro n h;exact h
 | succ k ih =>
  intro n h;unfold ah
  split
  ·rename_i a
   have:n<s.size:=bt (by omega)
   exact ih (n+1) (by omega)
  ·exact h
theorem lB(s:ByteArray)(n k:Nat)(h:97<=aq s n/\aq s n<=122):ah s n (k+1)=ah s (n+1) k:=by
 rw[ah,if_pos h]
theorem gU(s:ByteArray)(n k:Nat)(h:¬(97<=aq s n/\aq s n<=122)):ah s n k=n:=by
 cases k with
 | zero=>rfl
 | succ k=>rw[ah,if_neg h]
theorem xg(hP:PB w pb s n lv bn td)(hs:s.size<=maxLen)(bZ:n<=s.size):
  Calls Tryz.prog 203 #[.pointer (some ⟨pb,0,none⟩)] w fun e w'=>e=.returned (.string (s.extract n (ah s n 6)))/\PB w' pb s (ah s n 6) lv bn td/\Fr (One pb) w w':=by
 have z:=hP.dM;go_enter Tryz.func203,Tryz.ntmps203;go_wp2_with fail;refine(gw pb n _ z).mono ?_;rintro e G ⟨rfl,D⟩;obtain rfl:=D.symm;go_wp2_with fail
 go_loopw [11] (fun i wr=>∃ k m:Nat,k<=6/\i=.int .i64 k/\n<=m/\m<=s.size/\Hi (ah s n 6=ah s m (6-k))/\Hi (PB wr pb s m lv bn td)/\Hi (Fr (One pb) w wr)) (fun i _=>6-(intOf i).toNat)
 case atStart=>exact⟨0,n,by omega,rfl,Nat.le_refl _,bZ,rfl,hP,Fr.refl _ _⟩
 case round =>
  obtain⟨k,m,H,rfl,p,v,x,l,y⟩:=hrel
  by_cases B:k<6
  ·by_cases q:97<=aq s m/\aq s m<=122
   ·go_wp2_with fail;refine(rK l hs 97 122 (by have:=q;omega) (by have:=q;omega) (by omega)).mono ?_;rintro e E ⟨rfl,a,ao⟩;have g:=ab (Fr.trans y ao);go_wp2_with fail
    go_roundw
    case rel =>
     have C:m<s.size:=bt (by have:=q;omega);have r:ah s m (6-k)=ah s (m+1) (6-(k+1)):=by rw[show 6-k=(6-(k+1))+1 by omega];exact lB s m _ q
     exact⟨k+1,m+1,by omega,by go_num,by omega,by omega,x.o.trans r,a,g⟩
    case measure=>simp[intOf];omega
   ·go_wp2_with fail;refine(ug l hs v 97 122 (by have:=q;omega)).mono ?_;rintro e E ⟨rfl,a,ao⟩;have g:=ab (Fr.trans y ao);have t:Hi (ah s n 6=m):=x.o.trans (gU s m _ q);go_wp2_with fail;refine(Du a hs n p v).mono ?_;rintro e F ⟨rfl,b,c⟩;have j:=ab (Fr.trans g c);go_wp2_with fail;go_ret;rw[t.o];exact⟨rfl,b,j⟩
  ·have u:k=6:=by omega
   subst u;have t:Hi (ah s n 6=m):=x.o.trans rfl;go_wp2_with fail;refine(Du l hs n p v).mono ?_;rintro e F ⟨rfl,b,c⟩;have j:=ab (Fr.trans y c);go_wp2_with fail;go_ret;rw[t.o];exact⟨rfl,b,j⟩
def wd:Nat->ByteArray
 | 0=>⟨#[98,121,116,101]⟩
 | 1=>⟨#[115,104,111,114,116]⟩
 | 2=>⟨#[119,111,114,100]⟩
 | 3=>⟨#[105,110,116]⟩
 | 4=>⟨#[98,111,111,108]⟩
 | 5=>⟨#[116,101,120,116]⟩
 | 6=>⟨#[98,121,116,101,115]⟩
 | _=>⟨#[]⟩
theorem gd:∀ i,i<7->∀ j,j<7->i≠j->wd i≠wd j:=by decide +kernel
def Words(w:World):Prop:=∀ i,i<7->w.cell? ⟨5,i,none⟩=some (.string (wd i))
theorem Words.ae(h:Words w)(hf:Fr X w w')(hx:¬X 5):Words w':=fun i hi =>
 (hf.cell (a:=⟨5,i,none⟩) (World.block_lt_of_cell? w _ (h 0 (by omega)):5<w.heap.size) hx).trans (h i hi)
theorem xl(a0 a1 a2 a3 a4 a5 a6:ByteArray)(w:World):(Instr.index 312 (.agg #[.string a0,.string a1,.string a2,.string a3,.string a4,.string a5,.string a6]) (.int .i64 0)).run Tryz.prog w=.ok (.string a0) w:=by kernel_rfl
theorem zn(a0 a1 a2 a3 a4 a5 a6:ByteArray)(w:World):(Instr.index 312 (.agg #[.string a0,.string a1,.string a2,.string a3,.string a4,.string a5,.string a6]) (.int .i64 1)).run Tryz.prog w=.ok (.string a1) w:=by kernel_rfl
theorem BQ(a0 a1 a2 a3 a4 a5 a6:ByteArray)(w:World):(Instr.index 312 (.agg #[.string a0,.string a1,.string a2,.string a3,.string a4,.string a5,.string a6]) (.int .i64 2)).run Tryz.prog w=.ok (.string a2) w:=by kernel_rfl
theorem D5(a0 a1 a2 a3 a4 a5 a6:ByteArray)(w:World):(Instr.index 312 (.agg #[.string a0,.string a1,.string a2,.string a3,.string a4,.string a5,.string a6]) (.int .i64 3)).run Tryz.prog w=.ok (.string a3) w:=by kernel_rfl
theorem FT(a0 a1 a2 a3 a4 a5 a6:ByteArray)(w:World):(Instr.index 312 (.agg #[.string a0,.string a1,.string a2,.string a3,.string a4,.string a5,.string a6]) (.int .i64 4)).run Tryz.prog w=.ok (.string a4) w:=by kernel_rfl
theorem G8(a0 a1 a2 a3 a4 a5 a6:ByteArray)(w:World):(Instr.index 312 (.agg #[.string a0,.string a1,.string a2,.string a3,.string a4,.string a5,.string a6]) (.int .i64 5)).run Tryz.prog w=.ok (.string a5) w:=by kernel_rfl
theorem Ig(a0 a1 a2 a3 a4 a5 a6:ByteArray)(w:World):(Instr.index 312 (.agg #[.string a0,.string a1,.string a2,.string a3,.string a4,.string a5,.string a6]) (.int .i64 6)).run Tryz.prog w=.ok (.string a6) w:=by kernel_rfl
theorem tK(a0 a1 a2 a3 a4 a5 a6 nm:ByteArray)(w:World)(c0:w.cell? ⟨5,0,none⟩=some (.string a0))(c1:w.cell? ⟨5,1,none⟩=some (.string a1))(c2:w.cell? ⟨5,2,none⟩=some (.string a2))(c3:w.cell? ⟨5,3,none⟩=some (.string a3))
  (c4:w.cell? ⟨5,4,none⟩=some (.string a4)) (c5:w.cell? ⟨5,5,none⟩=some (.string a5)) (c6:w.cell? ⟨5,6,none⟩=some (.string a6))
  (n0:(a0.toList==nm.toList)=false) (n1:(a1.toList==nm.toList)=false) (n2:(a2.toList==nm.toList)=false) (n3:(a3.toList==nm.toList)=false) (n4:(a4.toList==nm.toList)=false) (n5:(a5.toList==nm.toList)=false) (n6:(a6.toList==nm.toList)=false) :
  Calls Tryz.prog 204 #[.string nm] w fun e w'=>e=.returned (.tuple #[.pointer none,.bool false])/\w'=w:=by
 have a:=xl a0 a1 a2 a3 a4 a5 a6;have b:=zn a0 a1 a2 a3 a4 a5 a6;have c:=BQ a0 a1 a2 a3 a4 a5 a6;have d:=D5 a0 a1 a2 a3 a4 a5 a6;have f:=FT a0 a1 a2 a3 a4 a5 a6;have g:=G8 a0 a1 a2 a3 a4 a5 a6;have h:=Ig a0 a1 a2 a3 a4 a5 a6;go_enter Tryz.func204,Tryz.ntmps204
 go_wp2
 refine wp_loop_rounds 8 ?_;rw[rounds_succ];go_wp2;rw[rounds_succ];go_wp2;rw[rounds_succ];go_wp2;rw[rounds_succ];go_wp2;rw[rounds_succ];go_wp2;rw[rounds_succ];go_wp2;rw[rounds_succ];go_wp2;rw[rounds_succ];go_wp2;go_ret2;exact⟨rfl,rfl⟩
theorem rj(a0 a1 a2 a3 a4 a5 a6 nm:ByteArray)(w:World)(c0:w.cell? ⟨5,0,none⟩=some (.string a0))(c1:w.cell? ⟨5,1,none⟩=some (.string a1))(c2:w.cell? ⟨5,2,none⟩=some (.string a2))(c3:w.cell? ⟨5,3,none⟩=some (.string a3))
  (c4:w.cell? ⟨5,4,none⟩=some (.string a4)) (c5:w.cell? ⟨5,5,none⟩=some (.string a5)) (c6:w.cell? ⟨5,6,none⟩=some (.string a6))  (n0:(a0.toList==nm.toList)=true) :
  Calls Tryz.prog 204 #[.string nm] w fun e w'=>e=.returned (.tuple #[.pointer (some ⟨w.heap.size,0,none⟩),.bool true])/\w'=w.alloc (.cells #[.int .i64 0,.slice none 0 0,.int .i64 1] 214):=by
 have a:=xl a0 a1 a2 a3 a4 a5 a6;go_enter Tryz.func204,Tryz.ntmps204
 go_wp2
 refine wp_loop_rounds 8 ?_;rw[rounds_succ];go_wp2;go_ret2;exact⟨rfl,rfl⟩
theorem rh(a0 a1 a2 a3 a4 a5 a6 nm:ByteArray)(w:World)(c0:w.cell? ⟨5,0,none⟩=some (.string a0))(c1:w.cell? ⟨5,1,none⟩=some (.string a1))(c2:w.cell? ⟨5,2,none⟩=some (.string a2))(c3:w.cell? ⟨5,3,none⟩=some (.string a3))
  (c4:w.cell? ⟨5,4,none⟩=some (.string a4)) (c5:w.cell? ⟨5,5,none⟩=some (.string a5)) (c6:w.cell? ⟨5,6,none⟩=some (.string a6)) (n0:(a0.toList==nm.toList)=false) (n1:(a1.toList==nm.toList)=true) :
  Calls Tryz.prog 204 #[.string nm] w fun e w'=>e=.returned (.tuple #[.pointer (some ⟨w.heap.size,0,none⟩),.bool true])/\w'=w.alloc (.cells #[.int .i64 1,.slice none 0 0,.int .i64 1] 214):=by
 have a:=xl a0 a1 a2 a3 a4 a5 a6;have b:=zn a0 a1 a2 a3 a4 a5 a6;go_enter Tryz.func204,Tryz.ntmps204
 go_wp2
 refine wp_loop_rounds 8 ?_;rw[rounds_succ];go_wp2;rw[rounds_succ];go_wp2;go_ret2;exact⟨rfl,rfl⟩
theorem re(a0 a1 a2 a3 a4 a5 a6 nm:ByteArray)(w:World)(c0:w.cell? ⟨5,0,none⟩=some (.string a0))(c1:w.cell? ⟨5,1,none⟩=some (.string a1))(c2:w.cell? ⟨5,2,none⟩=some (.string a2))(c3:w.cell? ⟨5,3,none⟩=some (.string a3))
  (c4:w.cell? ⟨5,4,none⟩=some (.string a4)) (c5:w.cell? ⟨5,5,none⟩=some (.string a5)) (c6:w.cell? ⟨5,6,none⟩=some (.string a6)) (n0:(a0.toList==nm.toList)=false) (n1:(a1.toList==nm.toList)=false) (n2:(a2.toList==nm.toList)=true) :
  Calls Tryz.prog 204 #[.string nm] w fun e w'=>e=.returned (.tuple #[.pointer (some ⟨w.heap.size,0,none⟩),.bool true])/\w'=w.alloc (.cells #[.int .i64 2,.slice none 0 0,.int .i64 1] 214):=by
 have a:=xl a0 a1 a2 a3 a4 a5 a6;have b:=zn a0 a1 a2 a3 a4 a5 a6;have c:=BQ a0 a1 a2 a3 a4 a5 a6;go_enter Tryz.func204,Tryz.ntmps204
 go_wp2
 refine wp_loop_rounds 8 ?_;rw[rounds_succ];go_wp2;rw[rounds_succ];go_wp2;rw[rounds_succ];go_wp2;go_ret2;exact⟨rfl,rfl⟩
theorem q9(a0 a1 a2 a3 a4 a5 a6 nm:ByteArray)(w:World)(c0:w.cell? ⟨5,0,none⟩=some (.string a0))(c1:w.cell? ⟨5,1,none⟩=some (.string a1))(c2:w.cell? ⟨5,2,none⟩=some (.string a2))(c3:w.cell? ⟨5,3,none⟩=some (.string a3))
  (c4:w.cell? ⟨5,4,none⟩=some (.string a4)) (c5:w.cell? ⟨5,5,none⟩=some (.string a5)) (c6:w.cell? ⟨5,6,none⟩=some (.string a6)) (n0:(a0.toList==nm.toList)=false) (n1:(a1.toList==nm.toList)=false) (n2:(a2.toList==nm.toList)=false) (n3:(a3.toList==nm.toList)=true) :
  Calls Tryz.prog 204 #[.string nm] w fun e w'=>e=.returned (.tuple #[.pointer (some ⟨w.heap.size,0,none⟩),.bool true])/\w'=w.alloc (.cells #[.int .i64 3,.slice none 0 0,.int .i64 1] 214):=by
 have a:=xl a0 a1 a2 a3 a4 a5 a6;have b:=zn a0 a1 a2 a3 a4 a5 a6;have c:=BQ a0 a1 a2 a3 a4 a5 a6;have d:=D5 a0 a1 a2 a3 a4 a5 a6;go_enter Tryz.func204,Tryz.ntmps204
 go_wp2
 refine wp_loop_rounds 8 ?_;rw[rounds_succ];go_wp2;rw[rounds_succ];go_wp2;rw[rounds_succ];go_wp2;rw[rounds_succ];go_wp2;go_ret2;exact⟨rfl,rfl⟩
theorem q8(a0 a1 a2 a3 a4 a5 a6 nm:ByteArray)(w:World)(c0:w.cell? ⟨5,0,none⟩=some (.string a0))(c1:w.cell? ⟨5,1,none⟩=some (.string a1))(c2:w.cell? ⟨5,2,none⟩=some (.string a2))(c3:w.cell? ⟨5,3,none⟩=some (.string a3))
  (c4:w.cell? ⟨5,4,none⟩=some (.string a4)) (c5:w.cell? ⟨5,5,none⟩=some (.string a5)) (c6:w.cell? ⟨5,6,none⟩=some (.string a6)) (n0:(a0.toList==nm.toList)=false) (n1:(a1.toList==nm.toList)=false) (n2:(a2.toList==nm.toList)=false) (n3:(a3.toList==nm.toList)=false) (n4:(a4.toList==nm.toList)=true) :
  Calls Tryz.prog 204 #[.string nm] w fun e w'=>e=.returned (.tuple #[.pointer (some ⟨w.heap.size,0,none⟩),.bool true])/\w'=w.alloc (.cells #[.int .i64 4,.slice none 0 0,.int .i64 1] 214):=by
 have a:=xl a0 a1 a2 a3 a4 a5 a6;have b:=zn a0 a1 a2 a3 a4 a5 a6;have c:=BQ a0 a1 a2 a3 a4 a5 a6;have d:=D5 a0 a1 a2 a3 a4 a5 a6;have f:=FT a0 a1 a2 a3 a4 a5 a6;go_enter Tryz.func204,Tryz.ntmps204
 go_wp2
 refine wp_loop_rounds 8 ?_;rw[rounds_succ];go_wp2;rw[rounds_succ];go_wp2;rw[rounds_succ];go_wp2;rw[rounds_succ];go_wp2;rw[rounds_succ];go_wp2;go_ret2;exact⟨rfl,rfl⟩
theorem q7(a0 a1 a2 a3 a4 a5 a6 nm:ByteArray)(w:World)(c0:w.cell? ⟨5,0,none⟩=some (.string a0))(c1:w.cell? ⟨5,1,none⟩=some (.string a1))(c2:w.cell? ⟨5,2,none⟩=some (.string a2))(c3:w.cell? ⟨5,3,none⟩=some (.string a3))
  (c4:w.cell? ⟨5,4,none⟩=some (.string a4)) (c5:w.cell? ⟨5,5,none⟩=some (.string a5)) (c6:w.cell? ⟨5,6,none⟩=some (.string a6)) (n0:(a0.toList==nm.toList)=false) (n1:(a1.toList==nm.toList)=false) (n2:(a2.toList==nm.toList)=false) (n3:(a3.toList==nm.toList)=false) (n4:(a4.toList==nm.toList)=false) (n5:(a5.toList==nm.toList)=true) :
  Calls Tryz.prog 204 #[.string nm] w fun e w'=>e=.returned (.tuple #[.pointer (some ⟨w.heap.size,0,none⟩),.bool true])/\w'=w.alloc (.cells #[.int .i64 5,.slice none 0 0,.int .i64 1] 214):=by
 have a:=xl a0 a1 a2 a3 a4 a5 a6;have b:=zn a0 a1 a2 a3 a4 a5 a6;have c:=BQ a0 a1 a2 a3 a4 a5 a6;have d:=D5 a0 a1 a2 a3 a4 a5 a6;have f:=FT a0 a1 a2 a3 a4 a5 a6;have g:=G8 a0 a1 a2 a3 a4 a5 a6;go_enter Tryz.func204,Tryz.ntmps204
 go_wp2
 refine wp_loop_rounds 8 ?_;rw[rounds_succ];go_wp2;rw[rounds_succ];go_wp2;rw[rounds_succ];go_wp2;rw[rounds_succ];go_wp2;rw[rounds_succ];go_wp2;rw[rounds_succ];go_wp2;go_ret2;exact⟨rfl,rfl⟩
theorem qZ(a0 a1 a2 a3 a4 a5 a6 nm:ByteArray)(w:World)(c0:w.cell? ⟨5,0,none⟩=some (.string a0))(c1:w.cell? ⟨5,1,none⟩=some (.string a1))(c2:w.cell? ⟨5,2,none⟩=some (.string a2))(c3:w.cell? ⟨5,3,none⟩=some (.string a3))
  (c4:w.cell? ⟨5,4,none⟩=some (.string a4)) (c5:w.cell? ⟨5,5,none⟩=some (.string a5)) (c6:w.cell? ⟨5,6,none⟩=some (.string a6)) (n0:(a0.toList==nm.toList)=false) (n1:(a1.toList==nm.toList)=false) (n2:(a2.toList==nm.toList)=false) (n3:(a3.toList==nm.toList)=false) (n4:(a4.toList==nm.toList)=false) (n5:(a5.toList==nm.toList)=false) (n6:(a6.toList==nm.toList)=true) :
  Calls Tryz.prog 204 #[.string nm] w fun e w'=>e=.returned (.tuple #[.pointer (some ⟨w.heap.size,0,none⟩),.bool true])/\w'=w.alloc (.cells #[.int .i64 6,.slice none 0 0,.int .i64 1] 214):=by
 have a:=xl a0 a1 a2 a3 a4 a5 a6;have b:=zn a0 a1 a2 a3 a4 a5 a6;have c:=BQ a0 a1 a2 a3 a4 a5 a6;have d:=D5 a0 a1 a2 a3 a4 a5 a6;have f:=FT a0 a1 a2 a3 a4 a5 a6;have g:=G8 a0 a1 a2 a3 a4 a5 a6;have h:=Ig a0 a1 a2 a3 a4 a5 a6;go_enter Tryz.func204,Tryz.ntmps204
 go_wp2
 refine wp_loop_rounds 8 ?_;rw[rounds_succ];go_wp2;rw[rounds_succ];go_wp2;rw[rounds_succ];go_wp2;rw[rounds_succ];go_wp2;rw[rounds_succ];go_wp2;rw[rounds_succ];go_wp2;rw[rounds_succ];go_wp2;go_ret2;exact⟨rfl,rfl⟩
theorem fJ(a b:ByteArray):(a.toList==b.toList)=decide (a=b):=by
 rw[Bool.eq_iff_iff];simp only[beq_iff_eq,decide_eq_true_eq];rw[ByteArray.toList_eq,ByteArray.toList_eq];constructor
 ·intro h;exact Go.WideShapes.bytes_inj h
 ·intro h;rw[h]
theorem kT{P:Program}(w:World)(base:Nat)(t ty e:TypeId)(i:TypeInfo)(z:Value)(size bytes:Nat)(ht:P.underlying t=some (.slice e))(hi:P.info? e=some i)(hz:i.zero=some z)
  (hsize:i.size=size) (hby:i.bytes=bytes) (hzs:z.cells.size=size) (dJ:0<size)
  (v:Value) (n:Nat) (xs:List Value) (fT:w.ownsRow base e size v n xs)
  (a:Addr) (m c:Nat) (hm:0<m) (fE:List Value) (hl:fE.length=m*size) (hnews:∀ j u,fE[j]?=some u->w.cell? (a.add j)=some u) (h1:∀ u∈fE,u.oneCell'=true)
  (Ai:n+m<=maxLen) (hbytes:(n+m)*bytes<=140737488355328) (hbase:base<=w.heap.size) :
  ∃ v' w',(Builtin.append_ #[t,t] ty #[v,.slice (some a) m c]).run P w=.ok v' w'/\w'.ownsRow base e size v' (n+m) (xs++fE)/\w.grownBy w' v.ownBlock /\
   (∃ g au,v'=.slice (some ⟨g,0,none⟩) (n+m) au/\(v.ownBlock=some g\/w.heap.size<=g)):=by
 have s:=fT;rcases fT.2 with⟨rfl,rfl⟩|⟨g,au,b,rfl,A,E,B,C,D,x⟩
 ·have y:xs=[]:=List.eq_nil_of_length_eq_zero (by simpa using fT.1);subst y;obtain⟨v',w',q,d,mV,F⟩:=run_append_own (P:=P) w w.heap.size t ty e i z size bytes ht hi hz hsize hby hzs dJ _ 0 [] (World.ownsRow_nil w _ e size) a m c fE hl hnews h1 Ai hbytes (Nat.le_refl _);refine⟨v',w',q,⟨d.1,?_⟩,mV,?_⟩
  ·rcases d.2 with h|⟨g,au,b,o,p,r⟩
   ·exact .inl h
   ·exact .inr ⟨g,au,b,o,Nat.le_trans hbase p,r⟩
  ·rcases d.2 with⟨_,h⟩|⟨g,au,b,o,p,r⟩
   ·omega
   ·exact⟨g,au,o,.inr p⟩
 ·by_cases f:n+m<=au
  ·obtain⟨w',q,d,mV⟩:=run_append_fits (P:=P) w base t ty e i size ht hi hsize g n au xs fT a m c fE hl hnews h1 f;exact⟨_,w',q,d,mV,g,au,rfl,.inl rfl⟩
  ·have l:∀ j u,xs[j]?=some u->w.cell? ((⟨g,0,none⟩:Addr).add j)=some u:=fT.cells (g:=g) rfl;obtain⟨v',w',q,d,mV⟩:=run_append_arg_grows (P:=P) w t ty e i z size bytes ht hi hz hsize hby hzs dJ ⟨g,0,none⟩ n au xs fT.1 l a m c fE hl hnews (by omega) Ai hbytes;refine⟨v',w',q,⟨d.1,?_⟩,⟨mV.os,mV.tape,mV.output,mV.size,fun k hk _=>mV.block k hk (by simp)⟩,?_⟩
   ·rcases d.2 with h|⟨g,au,b,o,p,r⟩
    ·exact .inl h
    ·exact .inr ⟨g,au,b,o,Nat.le_trans hbase p,r⟩
   ·rcases d.2 with⟨_,h⟩|⟨g,au,b,o,p,r⟩
    ·omega
    ·exact⟨g,au,o,.inr p⟩
theorem az{P:Program}(w:World){oU:Array Oper}{rest:List Oper}{o:Oper}{a:Act}{Q:Exit->Act->World->Prop}
  (hg:o.guard=none) (s x:Operand) (t:TypeId) (hop:o.op=Op.call { callee:=Callee.builtin Builtin.append,args:=#[s,x],argTypes:=#[t,t] })
  (base:Nat) (e:TypeId) (i:TypeInfo) (z:Value) (size bytes:Nat) (ht:P.underlying t=some (.slice e)) (hi:P.info? e=some i) (hz:i.zero=some z)
  (hsize:i.size=size) (hby:i.bytes=bytes) (hzs:z.cells.size=size) (dJ:0<size)
  (v:Value) (n:Nat) (xs:List Value) (hs:a.eval s=v) (fT:w.ownsRow base e size v n xs)
  (ad:Addr) (m c:Nat) (hm:0<m) (fE:List Value) (hx:a.eval x=.slice (some ad) m c) (hl:fE.length=m*size) (hnews:∀ j u,fE[j]?=some u->w.cell? (ad.add j)=some u) (h1:∀ u∈fE,u.oneCell'=true)
  (Ai:n+m<=maxLen) (hbytes:(n+m)*bytes<=140737488355328) (hbase:base<=w.heap.size)
  (hK:∀ v' w',w'.ownsRow base e size v' (n+m) (xs++fE)->w.grownBy w' v.ownBlock->(∃ g au,v'=.slice (some ⟨g,0,none⟩) (n+m) au/\(v.ownBlock=some g\/w.heap.size<=g))->wpList P oU Q rest (a.put o.dst v') w') :
  wpList P oU Q (o::rest) a w:=by
 refine wpList_plain hg fun K hK'=>?_
 obtain⟨v',w',b,d,f,h⟩:=kT (P:=P) w base t o.type e i z size bytes ht hi hz hsize hby hzs dJ v n xs fT ad m c hm fE hl hnews h1 Ai hbytes hbase;unfold Oper.wp;simp[execOp,hop,resolve,invoke,builtin,hs,hx,b,Result.andThen];exact hK' _ _ (hK v' w' d f h)
theorem mo(nm:ByteArray)(w:World)(hw:Words w)(dH:∀ i,i<7->wd i≠nm):
  Calls Tryz.prog 204 #[.string nm] w fun e w'=>e=.returned (.tuple #[.pointer none,.bool false])/\w'=w:=by
 have f:∀ i,i<7->((wd i).toList==nm.toList)=false:=fun i hi=>by rw[fJ];exact decide_eq_false (dH i hi)
 exact tK (wd 0) (wd 1) (wd 2) (wd 3) (wd 4) (wd 5) (wd 6) nm w (hw 0 (by omega)) (hw 1 (by omega)) (hw 2 (by omega)) (hw 3 (by omega)) (hw 4 (by omega)) (hw 5 (by omega)) (hw 6 (by omega))
  (f 0 (by omega)) (f 1 (by omega)) (f 2 (by omega)) (f 3 (by omega)) (f 4 (by omega)) (f 5 (by omega)) (f 6 (by omega))
theorem rl(k:Nat)(hk:k<7)(w:World)(hw:Words w):
  Calls Tryz.prog 204 #[.string (wd k)] w fun e w'=>e=.returned (.tuple #[.pointer (some ⟨w.heap.size,0,none⟩),.bool true])/\w'=w.alloc (.cells #[.int .i64 k,.slice none 0 0,.int .i64 1] 214):=by
 have f:∀ i,i<7->i≠k->((wd i).toList==(wd k).toList)=false:=fun i hi cF=>by
  rw[fJ];exact decide_eq_false (gd i hi k hk cF)
 have y:((wd k).toList==(wd k).toList)=true:=by simp
 match k,hk with
 | 0,_=>exact rj (wd 0) (wd 1) (wd 2) (wd 3) (wd 4) (wd 5) (wd 6) _ w (hw 0 (by omega)) (hw 1 (by omega)) (hw 2 (by omega)) (hw 3 (by omega)) (hw 4 (by omega)) (hw 5 (by omega)) (hw 6 (by omega)) y
 | 1,_=>exact rh (wd 0) (wd 1) (wd 2) (wd 3) (wd 4) (wd 5) (wd 6) _ w (hw 0 (by omega)) (hw 1 (by omega)) (hw 2 (by omega)) (hw 3 (by omega)) (hw 4 (by omega)) (hw 5 (by omega)) (hw 6 (by omega)) (f 0 (by omega) (by omega)) y
 | 2,_=>exact re (wd 0) (wd 1) (wd 2) (wd 3) (wd 4) (wd 5) (wd 6) _ w (hw 0 (by omega)) (hw 1 (by omega)) (hw 2 (by omega)) (hw 3 (by omega)) (hw 4 (by omega)) (hw 5 (by omega)) (hw 6 (by omega)) (f 0 (by omega) (by omega)) (f 1 (by omega) (by omega)) y
 | 3,_=>exact q9 (wd 0) (wd 1) (wd 2) (wd 3) (wd 4) (wd 5) (wd 6) _ w (hw 0 (by omega)) (hw 1 (by omega)) (hw 2 (by omega)) (hw 3 (by omega)) (hw 4 (by omega)) (hw 5 (by omega)) (hw 6 (by omega)) (f 0 (by omega) (by omega)) (f 1 (by omega) (by omega)) (f 2 (by omega) (by omega)) y
 | 4,_=>exact q8 (wd 0) (wd 1) (wd 2) (wd 3) (wd 4) (wd 5) (wd 6) _ w (hw 0 (by omega)) (hw 1 (by omega)) (hw 2 (by omega)) (hw 3 (by omega)) (hw 4 (by omega)) (hw 5 (by omega)) (hw 6 (by omega)) (f 0 (by omega) (by omega)) (f 1 (by omega) (by omega)) (f 2 (by omega) (by omega)) (f 3 (by omega) (by omega)) y
 | 5,_=>exact q7 (wd 0) (wd 1) (wd 2) (wd 3) (wd 4) (wd 5) (wd 6) _ w (hw 0 (by omega)) (hw 1 (by omega)) (hw 2 (by omega)) (hw 3 (by omega)) (hw 4 (by omega)) (hw 5 (by omega)) (hw 6 (by omega)) (f 0 (by omega) (by omega)) (f 1 (by omega) (by omega)) (f 2 (by omega) (by omega)) (f 3 (by omega) (by omega)) (f 4 (by omega) (by omega)) y
 | 6,_=>exact qZ (wd 0) (wd 1) (wd 2) (wd 3) (wd 4) (wd 5) (wd 6) _ w (hw 0 (by omega)) (hw 1 (by omega)) (hw 2 (by omega)) (hw 3 (by omega)) (hw 4 (by omega)) (hw 5 (by omega)) (hw 6 (by omega)) (f 0 (by omega) (by omega)) (f 1 (by omega) (by omega)) (f 2 (by omega) (by omega)) (f 3 (by omega) (by omega)) (f 4 (by omega) (by omega)) (f 5 (by omega) (by omega)) y
def aU(l:List (ByteArray×Addr)):List Value:=l.flatMap fun p=>[.string p.1,.pointer (some p.2)]
theorem a8(l:List (ByteArray×Addr)):∀(j:Nat) (p:ByteArray×Addr),l[j]?=some p->(aU l)[j*2]?=some (.string p.1)/\(aU l)[j*2+1]?=some (.pointer (some p.2)):=by
 induction l with
 | nil=>intro j p h;simp at h
 | cons q l ih =>
  intro j p h;cases j with
  | zero=>simp at h;subst h;exact⟨rfl,rfl⟩
  | succ j =>
   have a:l[j]?=some p:=by simpa using h
   have e:aU (q::l)=.string q.1::.pointer (some q.2)::aU l:=rfl;rw[e,show(j+1)*2=j*2+1+1 by omega];exact ih j p a
theorem mw(l:List (ByteArray×Addr))(p:ByteArray×Addr):aU (l++[p])=aU l++[.string p.1,.pointer (some p.2)]:=by simp[aU]
def d8(nm:ByteArray):List (ByteArray×Addr)->Option Addr
 | []=>none
 | p::r=>if p.1=nm then some p.2 else d8 nm r
theorem uF{l:List (ByteArray×Addr)}:(∀ p∈l,p.1≠nm)->d8 nm l=none:=by
 induction l with
 | nil=>intro _;rfl
 | cons p r ih =>
  intro h;rw[d8,if_neg (h p (by simp))];exact ih (fun q hq=>h q (by simp[hq]))
theorem uE{l:List (ByteArray×Addr)}:∀(k:Nat) (p:ByteArray×Addr),l[k]?=some p->p.1=nm->(∀ j q,j<k->l[j]?=some q->q.1≠nm)->d8 nm l=some p.2:=by
 induction l with
 | nil=>intro k p h;simp at h
 | cons q r ih =>
  intro k p h a b;cases k with
  | zero=>simp at h;subst h;rw[d8,if_pos a]
  | succ k =>
   rw[d8,if_neg (b 0 q (by omega) rfl)];exact ih k p (by simpa using h) a (fun j q' hj hq=>b (j+1) q' (by omega) (by simpa using hq))
def uC(r:Option Addr):Value:=.tuple #[.pointer r,.bool r.isSome]
theorem Eg(g au:Nat)(l:List (ByteArray×Addr))(nm:ByteArray)(base:Nat)(w:World)(hl:l.length<=1000)
  (fT:w.ownsRow base 198 2 (.slice (some ⟨g,0,none⟩) l.length au) l.length (aU l)) :
  Calls Tryz.prog 205 #[.slice (some ⟨g,0,none⟩) l.length au,.string nm] w fun e w'=>e=.returned (uC (d8 nm l))/\Fr Zero w w':=by
 have t:g<w.heap.size:=(fT.lt g rfl).2;go_enter Tryz.func205,Tryz.ntmps205;go_wp2
 go_loopw [10] (fun i wr=>∃ k:Nat,k<=l.length/\i=.int .i64 k/\Hi (∀ j q,j<k->l[j]?=some q->q.1≠nm)/\Hi (Fr Zero w wr)) (fun i _=>l.length-(intOf i).toNat)
 case atStart=>exact⟨0,by omega,rfl,fun j q m=>by omega,Fr.refl _ _⟩
 case round =>
  obtain⟨k,A,rfl,s,f⟩:=hrel
  by_cases n:k<l.length
  ·obtain⟨p,c⟩:∃ p,l[k]?=some p:=⟨l[k],by simp[n]⟩
   have qU:wr.cell? ⟨g,k*2,none⟩=some (.string p.1):=by
    rw[f.o.cell (a:=⟨g,k*2,none⟩) t (by intro h;exact h),fT.cellAt (k*2) (by omega)];exact(a8 l k p c).1
   have v:wr.cell? ⟨g,k*2+1,none⟩=some (.pointer (some p.2)):=by
    rw[f.o.cell (a:=⟨g,k*2+1,none⟩) t (by intro h;exact h),fT.cellAt (k*2+1) (by omega)];exact(a8 l k p c).2
   by_cases b:p.1=nm
   ·have x:(p.1.toList==nm.toList)=true:=by rw[fJ];simp[b]
    go_wp2;go_ret2;exact⟨by rw[uE k p c b s];rfl,f.o.trans (Fr.alloc _ _ _)⟩
   ·have x:(p.1.toList==nm.toList)=false:=by rw[fJ];simp[b]
    go_wp2
    go_roundw
    case rel =>
     refine⟨k+1,by omega,by go_num,?_,f.o.trans (Fr.alloc _ _ _)⟩
     ·intro j q m b
      by_cases e:j<k
      ·exact s j q e b
      ·have:j=k:=by omega
       subst this;have y:q=p:=Option.some.inj (b.symm.trans c);subst y;exact b
    case measure=>simp[intOf];omega
  ·go_wp2;go_ret2;exact⟨by rw[uF (fun p c=>by obtain⟨j,m⟩:=List.getElem?_of_mem c;obtain⟨z,_⟩:=List.getElem?_eq_some_iff.1 m;exact s j p (by omega) m)];rfl,f⟩
theorem Ei(nm:ByteArray)(w:World):
  Calls Tryz.prog 205 #[.slice none 0 0,.string nm] w fun e w'=>e=.returned (.tuple #[.pointer none,.bool false])/\Fr Zero w w':=by
 go_enter Tryz.func205,Tryz.ntmps205;go_wp2;refine wp_loop_rounds 1 ?_;rw[rounds_succ];go_wp2;go_ret2;exact⟨rfl,Fr.refl _ _⟩
theorem xx(v:Value)(l:List (ByteArray×Addr))(nm:ByteArray)(base:Nat)(w:World)(hl:l.length<=1000)(fT:w.ownsRow base 198 2 v l.length (aU l)):
  Calls Tryz.prog 205 #[v,.string nm] w fun e w'=>e=.returned (uC (d8 nm l))/\Fr Zero w w':=by
 rcases fT.2 with⟨rfl,a⟩|⟨g,au,b,rfl,_⟩
 ·have:l=[]:=List.eq_nil_of_length_eq_zero a
  subst this;exact Ei nm w
 ·exact Eg g au l nm base w hl fT
def mn(w:World)(gh:Int)(v:Value):Option Nat->Prop
 | none=>v=.pointer none
 | some n=>∃ b,v=.pointer (some ⟨b,0,none⟩)/\w.heap[b]?=some (.cells #[.int .i64 gh,.int .i64 n] 156 (0,0))
theorem mn.ae{gh:Int}{r:Option Nat}(h:mn w gh v r)(hP:PB w pb s n lv bn td)(hf:Fr (One pb) w w'):mn w' gh v r:=by
 cases r with
 | none=>exact h
 | some m =>
  obtain⟨b,c,a⟩:=h;exact⟨b,c,hf.ae a (hP.ne a (by decide))⟩
def orElse(r:Option Nat)(n:Nat):Option Nat:=match r with|none=>some n|some m=>some m
theorem pX(rZ:Nat)(bad:Option Nat)(hP:PB w pb s n lv bn td)(hb:mn w 3 bn bad):
  Calls Tryz.prog 206 #[.pointer (some ⟨pb,0,none⟩),.int .i64 rZ] w fun e w'=>e=.returned (.tuple #[])/\Fr (One pb) w w'/\∃ bn',PB w' pb s n lv bn' td/\mn w' 3 bn' (orElse bad rZ):=by
 have f:=hP.dw;have g:=hP.free 3;have c:=lt_of_heap hP;cases bad with
 | none =>
  have e:bn=.pointer none:=hb;subst e;go_enter Tryz.func206,Tryz.ntmps206;go_wp2
  go_end0
  exact⟨rfl,(Fr.setCell _ _ _ _ (show One pb pb from rfl)).trans (Fr.alloc _ _ _),_,(hP.Hw _).alloc _,w.heap.size,rfl,af (by simp[World.setCell]) _⟩
 | some m =>
  obtain⟨b,rfl,hb⟩:=hb;go_enter Tryz.func206,Tryz.ntmps206;go_wp2
  go_end0
  exact⟨rfl,Fr.refl _ _,_,hP,b,rfl,hb⟩
theorem pe(rZ:Nat)(bad:Option Nat)(hP:PB w pb s n lv bn td)(hb:mn w 4 td bad):
  Calls Tryz.prog 182 #[.pointer (some ⟨pb,0,none⟩),.int .i64 rZ] w fun e w'=>e=.returned (.tuple #[])/\Fr (One pb) w w'/\∃ td',PB w' pb s n lv bn td'/\mn w' 4 td' (orElse bad rZ):=by
 have f:=hP.gS;have g:=hP.free 4;have c:=lt_of_heap hP;cases bad with
 | none =>
  have e:td=.pointer none:=hb;subst e;go_enter Tryz.func182,Tryz.ntmps182;go_wp2
  go_end0
  exact⟨rfl,(Fr.setCell _ _ _ _ (show One pb pb from rfl)).trans (Fr.alloc _ _ _),_,(hP.set4 _).alloc _,w.heap.size,rfl,af (by simp[World.setCell]) _⟩
 | some m =>
  obtain⟨b,rfl,hb⟩:=hb;go_enter Tryz.func182,Tryz.ntmps182;go_wp2
  go_end0
  exact⟨rfl,Fr.refl _ _,_,hP,b,rfl,hb⟩
structure PT where
 kind:Nat
 depth:Nat
 names:List ByteArray
 subs:List PT
def PT.word(k:Nat):PT:=⟨k,1,[],[]⟩
def PT.dummy:PT:=⟨0,0,[],[]⟩
def maxDepth(l:List (ByteArray×PT)):Nat:=(l.map fun p=>p.2.depth).foldl max 0
def aP(kind:Nat)(l:List (ByteArray×PT)):PT:=⟨kind,maxDepth l+1,l.map (·.1),l.map (·.2)⟩
structure lN where
 ok:Bool
 t:PT
 n:Nat
 bad:Option Nat
def cV(n:Nat)(bad:Option Nat):lN:=⟨false,PT.dummy,n,bad⟩
def cY(nm:ByteArray):Option Nat:=(List.range 7).find? fun i=>decide (wd i=nm)
def gJ(nm:ByteArray):List (ByteArray×PT)->Option PT
 | []=>none
 | p::r=>if p.1=nm then some p.2 else gJ nm r
def ax(s:ByteArray)(n:Nat):ByteArray:=s.extract n (ah s n 6)
def cL(s:ByteArray)(lines:List (ByteArray×PT))(n:Nat)(bad:Option Nat):lN :=
 if ah s n 6=n then cV n bad else
 match cY (ax s n) with
 | some k=>⟨true,PT.word k,ah s n 6,bad⟩
 | none=>match gJ (ax s n) lines with
  | some t=>⟨true,t,ah s n 6,bad⟩
  | none=>⟨true,PT.dummy,ah s n 6,orElse bad n⟩
def fF(s:ByteArray)(n:Nat):Bool:=!(decide (ah s n 6=n))&&(cY (ax s n)).isNone
def di(s:ByteArray)(br:List ByteArray)(n:Nat)(bad:Option Nat):Option Nat:=if br.any (fun x=>decide (x=ax s n)) then orElse bad n else bad
def aM(rd:Nat->Option Nat->lN)(s:ByteArray)(br:List ByteArray)(de:Nat)(n:Nat)(bad:Option Nat):lN :=
 if fF s n=false then cV (ah s n 6) bad else
 if aq s (ah s n 6)=de then rd (ah s n 6+1) (di s br n bad) else cV (ah s n 6) (di s br n bad)
def bJ(rd:Nat->Option Nat->lN)(s:ByteArray)(kind An close:Nat):Nat->List (ByteArray×PT)->Nat->Option Nat->lN
 | 0,_,n,bad=>cV n bad
 | k+1,acc,n,bad =>
  let r:=aM rd s (acc.map (·.1)) 58 n bad
  if r.ok=false then cV r.n r.bad else
  if aq s r.n=close then⟨true,aP kind (acc++[(ax s n,r.t)]),r.n+1,r.bad⟩ else
  if acc.length+1=6\/aq s r.n≠An then cV r.n r.bad else
  bJ rd s kind An close k (acc++[(ax s n,r.t)]) (r.n+1) r.bad
def aJ(s:ByteArray)(lines:List (ByteArray×PT)):Nat->Nat->Option Nat->lN
 | 0=>fun n bad=>cV n bad
 | f+1=>fun n bad =>
  if aq s n=91 then
   let r:=aJ s lines f (n+1) bad
   if r.ok=false then cV r.n r.bad else
   if aq s r.n=93 then⟨true,aP 7 [(⟨#[]⟩,r.t)],r.n+1,r.bad⟩ else cV r.n r.bad
  else if aq s n=63 then
   let r:=aJ s lines f (n+1) bad
   if r.ok=false then cV r.n r.bad else⟨true,aP 8 [(⟨#[]⟩,r.t)],r.n,r.bad⟩
  else if aq s n=123 then bJ (aJ s lines f) s 9 44 125 6 [] (n+1) bad
  else if aq s n=60 then bJ (aJ s lines f) s 10 124 62 6 [] (n+1) bad
  else cL s lines n bad
theorem eY(h:cY nm=some k):k<7/\wd k=nm:=by
 have a:=List.mem_of_find?_eq_some h;have b:=List.find?_some h;simp at a b;exact⟨a,b⟩
theorem kr(h:cY nm=none):∀ i,i<7->wd i≠nm:=by
 intro i a
 have:=List.find?_eq_none.1 h i (by simp[a])
 simpa using this
def lf(w:World)(X:Nat->Prop):Nat->Addr->PT->Prop
 | 0,_,_=>False
 | k+1,a,t=>∃(b:Nat) (sv:Value) (rows:List (ByteArray×Addr)),a=⟨b,0,none⟩/\w.heap[b]?=some (.cells #[.int .i64 t.kind,sv,.int .i64 t.depth] 214 (0,0))/\¬X b /\
   w.ownsRow 0 198 2 sv rows.length (aU rows)/\(∀ g,sv.ownBlock=some g->¬X g)/\rows.map (·.1)=t.names/\rows.length=t.subs.length /\
   ∀(j:Nat) (p:ByteArray×Addr) (u:PT),rows[j]?=some p->t.subs[j]?=some u->lf w X k p.2 u
def TR(w:World)(X:Nat->Prop)(a:Addr)(t:PT):Prop:=∃ k,lf w X k a t
theorem ag{base:Nat}{e:TypeId}{size:Nat}{xs:List Value}(h:w.ownsRow base e size v n xs)(hf:Fr X w w')(hx:∀ g,v.ownBlock=some g->¬X g):w'.ownsRow base e size v n xs:=by
 refine⟨h.1,?_⟩;rcases h.2 with c|⟨g,au,a,b,d,f,r⟩
 ·exact .inl c
 ·exact .inr ⟨g,au,a,b,d,hf.ae f (hx g (by rw[b];rfl)),r⟩
theorem lf.mono:∀(k:Nat) (a:Addr) (t:PT),lf w X k a t->∀ k',k<=k'->lf w X k' a t:=by
 intro k
 induction k with
 | zero=>intro a t h;exact h.elim
 | succ k ih =>
  intro a t h k' r;obtain⟨c,rfl⟩:∃ c,k'=c+1:=⟨k' - 1,by omega⟩;obtain⟨b,e,d,f,g,i,l,m,n,o,q⟩:=h;exact⟨b,e,d,f,g,i,l,m,n,o,fun j p u hp hu=>ih p.2 u (q j p u hp hu) c (by omega)⟩
theorem lf.ae(hf:Fr X w w'):∀(k:Nat) (a:Addr) (t:PT),lf w X k a t->lf w' X k a t:=by
 intro k
 induction k with
 | zero=>intro a t h;exact h.elim
 | succ k ih =>
  intro a t h;obtain⟨b,f,c,g,i,d,l,e,m,n,o⟩:=h;exact⟨b,f,c,g,hf.ae i d,d,ag l hf e,e,m,n,fun j p u hp hu=>ih p.2 u (o j p u hp hu)⟩
theorem lf.aY(od:∀ b,b<w.heap.size->Y b->X b):∀(k:Nat) (a:Addr) (t:PT),lf w X k a t->lf w Y k a t:=by
 intro k
 induction k with
 | zero=>intro a t h;exact h.elim
 | succ k ih =>
  intro a t h;obtain⟨b,f,c,i,d,l,e,m,n,o,q⟩:=h;exact⟨b,f,c,i,d,fun y=>l (od b (lt_of_heap d) y),e,fun g hg y=>m g hg (od g (e.lt g hg).2 y),n,o,fun j p u hp hu=>ih p.2 u (q j p u hp hu)⟩
theorem TR.ae{t:PT}(h:TR w X a t)(hf:Fr X w w'):TR w' X a t:=by
 obtain⟨k,h⟩:=h;exact⟨k,lf.ae hf k a t h⟩
theorem TR.aY{t:PT}(h:TR w X a t)(od:∀ b,b<w.heap.size->Y b->X b):TR w Y a t:=by
 obtain⟨k,h⟩:=h;exact⟨k,lf.aY od k a t h⟩
def du(w:World)(X:Nat->Prop)(rows:List (ByteArray×Addr))(lines:List (ByteArray×PT)):Prop :=
 rows.map (·.1)=lines.map (·.1)/\∀(j:Nat) (p:ByteArray×Addr) (q:ByteArray×PT),rows[j]?=some p->lines[j]?=some q->TR w X p.2 q.2
theorem du.ae{lines:List (ByteArray×PT)}(h:du w X rows lines)(hf:Fr X w w'):du w' X rows lines :=
 ⟨h.1,fun j p q hp hq=>(h.2 j p q hp hq).ae hf⟩
theorem du.aY{lines:List (ByteArray×PT)}(h:du w X rows lines)(od:∀ b,b<w.heap.size->Y b->X b):du w Y rows lines :=
 ⟨h.1,fun j p q hp hq=>(h.2 j p q hp hq).aY od⟩
theorem du.length{lines:List (ByteArray×PT)}(h:du w X rows lines):rows.length=lines.length:=by
 have:=congrArg List.length h.1
 simpa using this
theorem du.snoc{lines:List (ByteArray×PT)}(h:du w X rows lines){t:PT}(ht:TR w X a t):du w X (rows++[(nm,a)]) (lines++[(nm,t)]):=by
 have c:=h.length;refine⟨by simp[h.1],fun j p q hp hq=>?_⟩
 by_cases d:j<rows.length
 ·rw[List.getElem?_append_left d] at hp;rw[List.getElem?_append_left (by omega)] at hq;exact h.2 j p q hp hq
 ·rw[List.getElem?_append_right (by omega)] at hp hq
  have b:j-rows.length=0:=by
   rcases Nat.eq_zero_or_pos (j-rows.length) with e|e
   ·exact e
   ·rw[List.getElem?_eq_none (by simp;omega)] at hp;cases hp
  rw[<-c,b] at hq;rw[b] at hp;simp at hp hq;subst hp hq;exact ht
theorem du.find:∀ {rows:List (ByteArray×Addr)} {lines:List (ByteArray×PT)},du w X rows lines ->
  (d8 nm rows=none/\gJ nm lines=none)\/∃ a t,d8 nm rows=some a/\gJ nm lines=some t/\TR w X a t:=by
 intro rows
 induction rows with
 | nil =>
  intro lines h
  have:lines=[]:=List.eq_nil_of_length_eq_zero h.length.symm
  subst this;exact .inl ⟨rfl,rfl⟩
 | cons p rows ih =>
  intro lines h;cases lines with
  | nil=>have:=h.length;simp at this
  | cons q lines =>
   have b:p.1=q.1:=by have:=h.1;simp at this;exact this.1
   have c:du w X rows lines:=⟨by have:=h.1;simp at this;exact this.2,fun j p' q' hp hq=>h.2 (j+1) p' q' (by simpa using hp) (by simpa using hq)⟩
   by_cases e:p.1=nm
   ·exact .inr ⟨p.2,q.2,by rw[d8,if_pos e],by rw[gJ,if_pos (b ▸ e)],h.2 0 p q rfl rfl⟩
   ·rw[d8,if_neg e,gJ,if_neg (b ▸ e)];exact ih c
theorem xy:∀ {rows:List (ByteArray×Addr)},(d8 nm rows).isSome=(rows.map (·.1)).any (fun x=>decide (x=nm)):=by
 intro rows
 induction rows with
 | nil=>simp[d8]
 | cons p rows ih =>
  by_cases e:p.1=nm
  ·rw[d8,if_pos e];simp[e]
  ·rw[d8,if_neg e,ih];simp[e]
def PS(w:World)(X:Nat->Prop)(pb:Nat)(s:ByteArray)(n:Nat)(lv:Value)(lines:List (ByteArray×PT))(bad deep:Option Nat):Prop :=
 ∃(bn td:Value) (rows:List (ByteArray×Addr)),PB w pb s n lv bn td/\w.ownsRow 0 198 2 lv rows.length (aU rows)/\(∀ g,lv.ownBlock=some g->X g)/\du w X rows lines/\mn w 3 bn bad/\mn w 4 td deep
theorem nF{base size:Nat}{xs:List Value}(hP:PB w pb s n lv bn td)(h:w.ownsRow base 198 size v k xs):∀ g,v.ownBlock=some g->¬One pb g:=by
 intro g a;rcases h.2 with⟨rfl,_⟩|⟨d,au,b,rfl,e,c,r⟩
 ·simp[Value.ownBlock] at a
 ·simp[Value.ownBlock] at a;subst a;exact hP.ne c (by decide)
theorem Fr.one(h:Fr (One pb) w w')(hx:X pb):Fr X w w':=h.mono (fun k _ e=>by have e':k=pb:=e;rw[e'];exact hx)
theorem PS.step{m:Nat}{lines:List (ByteArray×PT)}{bad deep:Option Nat}(hX:X pb)
  (hP:PB w pb s n lv bn td) (hO:w.ownsRow 0 198 2 lv rows.length (aU rows)) (hlx:∀ g,lv.ownBlock=some g->X g) (hL:du w X rows lines) (hb:mn w 3 bn bad) (hd:mn w 4 td deep)
  (hf:Fr (One pb) w w') (hP':PB w' pb s m lv bn td):PS w' X pb s m lv lines bad deep :=
 ⟨bn,td,rows,hP',ag hO hf (nF hP hO),hlx,hL.ae (hf.one hX),hb.ae hP hf,hd.ae hP hf⟩
theorem PS.EZ{lines:List (ByteArray×PT)}{bad deep:Option Nat}(h:PS w X pb s n lv lines bad deep)(hw:Words w):¬One pb 5:=by
 obtain⟨f,g,b,d,_⟩:=h;intro e;have c:5=pb:=e;subst c;have a:=d.dM;rw[hw 0 (by omega)] at a;simp at a
def iT(w:World)(X:Nat->Prop)(pb:Nat)(s:ByteArray)(lv:Value)(lines:List (ByteArray×PT))(deep:Option Nat)(r:lN)(e:Ending)(w':World):Prop :=
 Fr (One pb) w w'/\r.n<=s.size/\(∃ bd,PS w' X pb s r.n lv lines bd deep/\(r.ok=true->bd=r.bad)) /\
  ∃ a:Option Addr,e=.returned (.tuple #[.pointer a,.bool r.ok])/\(r.ok=true->∃ a',a=some a'/\TR w' X a' r.t)
def iS(s:ByteArray)(lines:List (ByteArray×PT))(f:Nat):Prop :=
 ∀(w:World) (X:Nat->Prop) (pb n:Nat) (lv:Value) (bad deep:Option Nat),PS w X pb s n lv lines bad deep->Words w->X pb->(∀ b,X b->b<w.heap.size)->n<=s.size->s.size<n+f ->
  Calls Tryz.prog 191 #[.pointer (some ⟨pb,0,none⟩)] w fun e w'=>iT w X pb s lv lines deep (aJ s lines f n bad) e w'
structure PV where
 of:PT
 num:Int
 bytes:List UInt8
 parts:List PV
abbrev Bs:=List UInt8
def bz(c:Nat):Bs->Option Bs
 | []=>none
 | b::l=>if b.toNat=c then some l else none
def bu(most:Nat):Nat->Bs->Nat×Bs
 | acc,[]=>(acc,[])
 | acc,b::l=>if b.toNat<48\/57<b.toNat\/(most-(b.toNat-48))/10<acc then(acc,b::l) else bu most (acc*10+(b.toNat-48)) l
def c9(most:Nat)(l:Bs):Option Nat×Bs :=
 match bz 48 l with
 | some r=>(some 0,r)
 | none=>(if(bu most 0 l).2.length<l.length then some (bu most 0 l).1 else none,(bu most 0 l).2)
def cg(l:Bs):Option Int×Bs :=
 match bz 45 l with
 | none=>((c9 9223372036854775807 l).1.map Int.ofNat,(c9 9223372036854775807 l).2)
 | some r=>match bz 48 r with
  | some _=>(none,r)
  | none=>((c9 9223372036854775808 r).1.map (fun(n:Nat)=>-(n:Int)),(c9 9223372036854775808 r).2)
def cK(ws:List Bs):Bs->Bs->Option Nat×Bs
 | got,[]=>(ws.findIdx? (fun x=>x==got),[])
 | got,b::l=>match ws.findIdx? (fun x=>x==got) with
  | some i=>(some i,b::l)
  | none=>if ws.any (fun x=>(got++[b]).isPrefixOf x) then cK ws (got++[b]) l else(none,b::l)
def fD:Nat->Bs->Bs->Option Bs×Bs
 | _,_,[]=>(none,[])
 | 0,acc,b::l=>if b.toNat=34 then(some acc,l) else(none,b::l)
 | k+1,acc,b::l =>
  if b.toNat=34 then(some acc,l) else
  if b.toNat=92 then
   match l with
   | []=>(none,[])
   | c::l'=>if c.toNat=34\/c.toNat=92 then fD k (acc++[c]) l' else(none,c::l')
  else if 32<=b.toNat/\b.toNat<=126 then fD k (acc++[b]) l else(none,b::l)
def bM(l:Bs):Option Bs×Bs :=
 match bz 34 l with
 | none=>(none,l)
 | some r=>fD 300 [] r
def gQ:Bs->Option (Nat×Bs)
 | []=>none
 | b::l=>if 48<=b.toNat/\b.toNat<=57 then some (b.toNat-48,l) else if 97<=b.toNat/\b.toNat<=102 then some (b.toNat-87,l) else none
def js:Nat->Bs->Bs->Option Bs×Bs
 | 0,acc,l=>(some acc,l)
 | k+1,acc,l=>match gQ l with
  | none=>(some acc,l)
  | some (h,l1)=>match gQ l1 with
   | none=>(none,l1)
   | some (g,l2)=>js k (acc++[UInt8.ofNat (16*h+g)]) l2
def ep(l:Bs):Option Bs×Bs :=
 match bz 120 l with
 | none=>(none,l)
 | some r=>js 300 [] r
def dS(rd:Bs->Option PV×Bs):Nat->List PV->Bs->Option (List PV)×Bs
 | 0,_,l=>(none,l)
 | k+1,acc,l=>match rd l with
  |(none,l1)=>(none,l1)
  |(some v,l1)=>match bz 93 l1 with
   | some l2=>(some (acc++[v]),l2)
   | none=>if acc.length+1=300 then(none,l1) else
    match bz 44 l1 with
    | some l2=>dS rd k (acc++[v]) l2
    | none=>(none,l1)
def dP(rd:Bs->Option PV×Bs)(l:Bs):Option (List PV)×Bs :=
 match bz 91 l with
 | none=>(none,l)
 | some l1=>match bz 93 l1 with
  | some l2=>(some [],l2)
  | none=>dS rd 300 [] l1
def iB(rd:Bs->Option PV×Bs)(l:Bs):Option (List PV)×Bs :=
 match bz 45 l with
 | some l1=>(some [],l1)
 | none=>match bz 43 l with
  | none=>(none,l)
  | some l1=>((rd l1).1.map (fun v=>[v]),(rd l1).2)
def bh(rd:PT->Bs->Option PV×Bs):List PT->Nat->List PV->Bs->Option (List PV)×Bs
 | [],_,acc,l=>match bz 125 l with
  | some l1=>(some acc,l1)
  | none=>(none,l)
 | t::ts,ahead,acc,l=>match bz ahead l with
  | none=>(none,l)
  | some l1=>match rd t l1 with
   |(none,l2)=>(none,l2)
   |(some v,l2)=>bh rd ts 44 (acc++[v]) l2
def bU(n:ByteArray):Bs:=n.data.toList++[58]
def PT.sub(t:PT)(i:Nat):PT:=(t.subs[i]?).getD PT.dummy
def gZ(rd:PT->Bs->Option PV×Bs)(t:PT)(l:Bs):Option (Nat×PV)×Bs :=
 match cK (t.names.map bU) [] l with
 |(none,l1)=>(none,l1)
 |(some i,l1)=>((rd (t.sub i) l1).1.map (fun v=>(i,v)),(rd (t.sub i) l1).2)
def bQ(kind:Nat):Nat:=if kind=0 then 255 else if kind=1 then 65535 else 4294967295
def jx:Bs:=[110,111]
def dX:Bs:=[121,101,115]
def fY(t:PT)(n:Int):PV:=⟨t,n,[],[]⟩
def fC(t:PT)(b:Bs):PV:=⟨t,0,b,[]⟩
def bE(t:PT)(n:Int)(l:List PV):PV:=⟨t,n,[],l⟩
def ay:Nat->PT->Bs->Option PV×Bs
 | 0,_,l=>(none,l)
 | k+1,t,l =>
  if t.kind<=2 then((c9 (bQ t.kind) l).1.map (fun(n:Nat)=>fY t n),(c9 (bQ t.kind) l).2)
  else if t.kind=3 then((cg l).1.map (fY t),(cg l).2)
  else if t.kind=4 then((cK [jx,dX] [] l).1.map (fun(n:Nat)=>fY t n),(cK [jx,dX] [] l).2)
  else if t.kind=5 then((bM l).1.map (fC t),(bM l).2)
  else if t.kind=6 then((ep l).1.map (fC t),(ep l).2)
  else if t.kind=7 then((dP (ay k (t.sub 0)) l).1.map (bE t 0),(dP (ay k (t.sub 0)) l).2)
  else if t.kind=8 then((iB (ay k (t.sub 0)) l).1.map (bE t 0),(iB (ay k (t.sub 0)) l).2)
  else if t.kind=9 then((bh (ay k) t.subs 123 [] l).1.map (bE t 0),(bh (ay k) t.subs 123 [] l).2)
  else((gZ (ay k) t l).1.map (fun p=>bE t p.1 [p.2]),(gZ (ay k) t l).2)
def cC:Bs->Nat
 | []=>0
 | b::l=>b.toNat+256*cC l
def fp(l:Bs):Nat:=l.foldl (fun n b=>n*256+b.toNat) 0
def toInt64(n:Nat):Int:=if n<9223372036854775808 then n else(n:Int)-18446744073709551616
def bw(c:Nat)(l:Bs):Option Bs×Bs:=if l.length<c then(none,[]) else(some (l.take c),l.drop c)
def aK(c:Nat):Bs->Option Nat×Bs
 | []=>(none,[])
 | b::l=>if b.toNat<c then(some b.toNat,l) else(none,b::l)
def bj:Bs->Option Nat×Bs
 | []=>(none,[])
 | b::l=>if b.toNat<=127 then(some b.toNat,l) else
  match l with
  | []=>(none,[])
  | c::l'=>if c.toNat=0\/300<b.toNat-128+128*c.toNat then(none,c::l') else(some (b.toNat-128+128*c.toNat),l')
def gY:Nat->Bs->Bs->Option Bs×Bs
 | 0,acc,l=>(some acc,l)
 | _+1,_,[]=>(none,[])
 | k+1,acc,b::l=>if 32<=b.toNat/\b.toNat<=126 then gY k (acc++[b]) l else(none,b::l)
def iq(l:Bs):Option Bs×Bs :=
 match bj l with
 |(none,r)=>(none,r)
 |(some n,r)=>gY n [] r
def fS(l:Bs):Option Bs×Bs :=
 match bj l with
 |(none,r)=>(none,r)
 |(some n,r)=>bw n r
def bR(rd:Bs->Option PV×Bs):Nat->List PV->Bs->Option (List PV)×Bs
 | 0,acc,l=>(some acc,l)
 | k+1,acc,l=>match rd l with
  |(none,l1)=>(none,l1)
  |(some v,l1)=>bR rd k (acc++[v]) l1
def ir(rd:Bs->Option PV×Bs)(l:Bs):Option (List PV)×Bs :=
 match bj l with
 |(none,r)=>(none,r)
 |(some n,r)=>bR rd n [] r
def kZ(rd:Bs->Option PV×Bs)(l:Bs):Option (List PV)×Bs :=
 match aK 2 l with
 |(none,r)=>(none,r)
 |(some n,r)=>bR rd n [] r
def cw(rd:PT->Bs->Option PV×Bs):List PT->List PV->Bs->Option (List PV)×Bs
 | [],acc,l=>(some acc,l)
 | t::ts,acc,l=>match rd t l with
  |(none,l1)=>(none,l1)
  |(some v,l1)=>cw rd ts (acc++[v]) l1
def iu(rd:PT->Bs->Option PV×Bs)(t:PT)(l:Bs):Option (Nat×PV)×Bs :=
 match aK t.subs.length l with
 |(none,l1)=>(none,l1)
 |(some i,l1)=>((rd (t.sub i) l1).1.map (fun v=>(i,v)),(rd (t.sub i) l1).2)
def aT(kind:Nat):Nat:=if kind=0 then 1 else if kind=1 then 2 else 4
def aS:Nat->PT->Bs->Option PV×Bs
 | 0,_,l=>(none,l)
 | k+1,t,l =>
  if t.kind<=2 then((bw (aT t.kind) l).1.map (fun b=>fY t (cC b)),(bw (aT t.kind) l).2)
  else if t.kind=3 then((bw 8 l).1.map (fun b=>fY t (toInt64 (fp b))),(bw 8 l).2)
  else if t.kind=4 then((aK 2 l).1.map (fun(n:Nat)=>fY t n),(aK 2 l).2)
  else if t.kind=5 then((iq l).1.map (fC t),(iq l).2)
  else if t.kind=6 then((fS l).1.map (fC t),(fS l).2)
  else if t.kind=7 then((ir (aS k (t.sub 0)) l).1.map (bE t 0),(ir (aS k (t.sub 0)) l).2)
  else if t.kind=8 then((kZ (aS k (t.sub 0)) l).1.map (bE t 0),(kZ (aS k (t.sub 0)) l).2)
  else if t.kind=9 then((cw (aS k) t.subs [] l).1.map (bE t 0),(cw (aS k) t.subs [] l).2)
  else((iu (aS k) t l).1.map (fun p=>bE t p.1 [p.2]),(iu (aS k) t l).2)
def leBytes:Nat->Nat->Bs
 | 0,_=>[]
 | c+1,n=>UInt8.ofNat n::leBytes c (n/256)
def aC(c n:Nat):Bs:=(leBytes c n).reverse
def ofInt64(n:Int):Nat:=(n%18446744073709551616).toNat
def aB(n:Nat):Bs:=if n<=127 then[UInt8.ofNat n] else[UInt8.ofNat (n%128+128),UInt8.ofNat (n/128)]
def aG:Nat->PV->Bs
 | 0,_=>[]
 | k+1,v =>
  if v.of.kind<=2 then leBytes (aT v.of.kind) v.num.toNat
  else if v.of.kind=3 then aC 8 (ofInt64 v.num)
  else if v.of.kind=4 then[UInt8.ofNat v.num.toNat]
  else if v.of.kind<=6 then aB v.bytes.length++v.bytes
  else if v.of.kind<=8 then aB v.parts.length++v.parts.flatMap (aG k)
  else if v.of.kind=9 then v.parts.flatMap (aG k)
  else UInt8.ofNat v.num.toNat::v.parts.flatMap (aG k)
theorem cQ(k:Nat)(t:PT)(n:Int)(b:Bs)(p:List PV):aG (k+1) ⟨t,n,b,p⟩ =
  if t.kind<=2 then leBytes (aT t.kind) n.toNat
  else if t.kind=3 then aC 8 (ofInt64 n)
  else if t.kind=4 then[UInt8.ofNat n.toNat]
  else if t.kind<=6 then aB b.length++b
  else if t.kind<=8 then aB p.length++p.flatMap (aG k)
  else if t.kind=9 then p.flatMap (aG k)
  else UInt8.ofNat n.toNat::p.flatMap (aG k):=rfl
def ed:Nat->Nat->Bs
 | 0,_=>[]
 | f+1,n=>(if n<10 then[] else ed f (n/10))++[UInt8.ofNat (48+n%10)]
def gq(n:Int):Bs:=if n<0 then 45::ed 20 n.natAbs else ed 20 n.natAbs
def gP:Bs->Bs
 | []=>[]
 | b::l=>if b.toNat=34\/b.toNat=92 then 92::b::gP l else b::gP l
def mW(n:Nat):UInt8:=if n<10 then UInt8.ofNat (48+n) else UInt8.ofNat (87+n)
def iN:Bs->Bs
 | []=>[]
 | b::l=>mW (b.toNat/16)::mW (b.toNat%16)::iN l
def aD(f:PV->Bs):List PV->Bs
 | []=>[]
 | v::l=>f v++(match l with|[]=>[]|_::_=>44::aD f l)
def yc(f:PV->Bs):List PV->Bs
 | []=>[45]
 | x::_=>43::f x
def pI(f:PV->Bs):List PV->Bs
 | []=>[]
 | x::_=>f x
def PT.name(t:PT)(i:Nat):Bs:=((t.names[i]?).getD ⟨#[]⟩).data.toList
def aw:Nat->PV->Bs
 | 0,_=>[]
 | k+1,v =>
  if v.of.kind<=3 then gq v.num
  else if v.of.kind=4 then(if v.num=0 then jx else dX)
  else if v.of.kind=5 then 34::(gP v.bytes++[34])
  else if v.of.kind=6 then 120::iN v.bytes
  else if v.of.kind=7 then 91::(aD (aw k) v.parts++[93])
  else if v.of.kind=8 then yc (aw k) v.parts
  else if v.of.kind=9 then 123::(aD (aw k) v.parts++[125])
  else v.of.name v.num.toNat++58::pI (aw k) v.parts
theorem cz(k:Nat)(t:PT)(n:Int)(b:Bs)(p:List PV):aw (k+1) ⟨t,n,b,p⟩ =
  if t.kind<=3 then gq n
  else if t.kind=4 then(if n=0 then jx else dX)
  else if t.kind=5 then 34::(gP b++[34])
  else if t.kind=6 then 120::iN b
  else if t.kind=7 then 91::(aD (aw k) p++[93])
  else if t.kind=8 then yc (aw k) p
  else if t.kind=9 then 123::(aD (aw k) p++[125])
  else t.name n.toNat++58::pI (aw k) p:=rfl
def c8:Nat->PT->Prop
 | 0,_=>False
 | k+1,t=>t.kind<=10/\t.names.length=t.subs.length/\(∀ u∈t.subs,c8 k u) /\
   (7<=t.kind->0<t.subs.length)/\((t.kind=7\/t.kind=8)->t.subs.length=1)/\(t.subs.length<=6/\∀ n∈t.names,n.size<=400) /\
   (9<=t.kind->t.names.Nodup/\∀ n∈t.names,∀ b∈n.data.toList,97<=b.toNat/\b.toNat<=122)
def Valid:Nat->PT->PV->Prop
 | 0,_,_=>False
 | k+1,t,v=>v.of=t /\
  if t.kind<=2 then v.bytes=[]/\v.parts=[]/\0<=v.num/\v.num<=bQ t.kind
  else if t.kind=3 then v.bytes=[]/\v.parts=[]/\-9223372036854775808<=v.num/\v.num<=9223372036854775807
  else if t.kind=4 then v.bytes=[]/\v.parts=[]/\(v.num=0\/v.num=1)
  else if t.kind=5 then v.num=0/\v.parts=[]/\v.bytes.length<=300/\∀ b∈v.bytes,32<=b.toNat/\b.toNat<=126
  else if t.kind=6 then v.num=0/\v.parts=[]/\v.bytes.length<=300
  else if t.kind=7 then v.num=0/\v.bytes=[]/\v.parts.length<=300/\∀ x∈v.parts,Valid k (t.sub 0) x
  else if t.kind=8 then v.num=0/\v.bytes=[]/\v.parts.length<=1/\∀ x∈v.parts,Valid k (t.sub 0) x
  else if t.kind=9 then v.num=0/\v.bytes=[]/\v.parts.length=t.subs.length/\∀(i:Nat) (x:PV),v.parts[i]?=some x->Valid k (t.sub i) x
  else v.bytes=[]/\∃(i:Nat) (x:PV),v.num=i/\i<t.subs.length/\v.parts=[x]/\Valid k (t.sub i) x
theorem bp{l r:Bs}(h:bz c l=some r):∃ b,l=b::r/\b.toNat=c:=by
 cases l with
 | nil=>simp[bz] at h
 | cons b l =>
  simp only[bz] at h
  split at h
  ·rename_i e;simp at h;subst h;exact⟨b,rfl,e⟩
  ·simp at h
theorem fI{b:UInt8}(h:b.toNat=n):b=UInt8.ofNat n:=by subst h;simp
theorem toNat_ofNat(h:n<256):(UInt8.ofNat n).toNat=n:=by simp;omega
theorem dW{b:UInt8}{l:Bs}(h:b.toNat=c):bz c (b::l)=some l:=by simp[bz,h]
theorem ny{b:UInt8}{l:Bs}(h:b.toNat≠c):bz c (b::l)=none:=by simp[bz,h]
theorem B9:∀(f n:Nat),0<f->n<10^f->ed (f+1) n=ed f n:=by
 intro f
 induction f with
 | zero=>intro n h;omega
 | succ f ih =>
  intro n _ h
  show(if n<10 then[] else ed (f+1) (n/10))++_=(if n<10 then[] else ed f (n/10))++_
  by_cases a:n<10
  ·simp[a]
  ·rw[Nat.pow_succ] at h
   have b:0<f:=by
    rcases Nat.eq_zero_or_pos f with e|e
    ·subst e;simp at h;omega
    ·exact e
   rw[if_neg a,if_neg a,ih (n/10) b (by omega)]
theorem tw{a d:Nat}(ha:0<a)(hd:d<10)(h:a*10+d<10^20):ed 20 (a*10+d)=ed 20 a++[UInt8.ofNat (48+d)]:=by
 rw[B9 19 a (by omega) (by omega)]
 show(if a*10+d<10 then[] else ed 19 ((a*10+d)/10))++[UInt8.ofNat (48+(a*10+d)%10)]=_
 rw[if_neg (by omega),show(a*10+d)/10=a by omega,show(a*10+d)%10=d by omega]
theorem xB{d:Nat}(hd:d<10):ed 20 d=[UInt8.ofNat (48+d)]:=by
 show(if d<10 then[] else ed 19 (d/10))++[UInt8.ofNat (48+d%10)]=_
 rw[if_pos hd,Nat.mod_eq_of_lt hd];rfl
theorem rI(most:Nat)(hm:9<=most)(hM:most<10^20):∀(l:Bs) (acc n:Nat) (r:Bs),0<acc->acc<=most->bu most acc l=(n,r)->n<=most/\0<n/\ed 20 acc++l=ed 20 n++r:=by
 intro l
 induction l with
 | nil=>intro acc n r a c h;simp[bu] at h;obtain⟨rfl,rfl⟩:=h;exact⟨c,a,rfl⟩
 | cons b l ih =>
  intro acc n r a c h;simp only[bu] at h
  split at h
  ·simp at h;obtain⟨rfl,rfl⟩:=h;exact⟨c,a,rfl⟩
  ·rename_i i;have e:b.toNat-48<10:=by omega
   have bZ:acc*10+(b.toNat-48)<=most:=by omega
   obtain⟨f,g,d⟩:=ih _ n r (by omega) bZ h;refine⟨f,g,?_⟩;rw[tw a e (by omega),show 48+(b.toNat-48)=b.toNat by omega] at d;rw[<-d];simp
theorem mN{l r:Bs}(hm:9<=most)(hM:most<10^20)(h:c9 most l=(some n,r)):n<=most/\l=ed 20 n++r:=by
 unfold c9 at h
 split at h
 ·rename_i m e;obtain⟨b,rfl,d⟩:=bp e;simp at h;obtain⟨rfl,rfl⟩:=h;rw[fI d];exact⟨by omega,rfl⟩
 ·rename_i e;simp only[Prod.mk.injEq] at h;obtain⟨c,f⟩:=h
  split at c
  ·rename_i a;simp at c;cases l with
   | nil=>simp at a
   | cons b l =>
    have g:b.toNat≠48:=by
     intro d;rw[dW d] at e;cases e
    simp only[bu] at c f a
    split at a
    ·simp at a
    ·rename_i i;rw[if_neg i] at c f;have hd:b.toNat-48<10:=by omega
     obtain⟨j,_,k⟩:=rI most hm hM l (0*10+(b.toNat-48)) n r (by omega) (by omega) (by rw[<-c,<-f]);refine⟨j,?_⟩;rw[<-k,show 0*10+(b.toNat-48)=b.toNat-48 by omega,xB hd,show 48+(b.toNat-48)=b.toNat by omega];simp
  ·cases c
def Ap(r:Bs):Prop:=∀ b l,r=b::l->b.toNat<48\/57<b.toNat
theorem t8{r:Bs}(h:Ap r):bu most n r=(n,r):=by
 cases r with
 | nil=>rfl
 | cons b l =>
  have:=h b l rfl
  simp only[bu];rw[if_pos (by omega)]
theorem rH(hm:9<=most):∀(f n:Nat) (r:Bs),n<10^f->0<f->n<=most->bu most 0 (ed f n++r)=bu most n r:=by
 intro f
 induction f with
 | zero=>intro n r _ h;omega
 | succ f ih =>
  intro n r h _ bZ;have hd:(UInt8.ofNat (48+n%10)).toNat=48+n%10:=toNat_ofNat (by omega);show bu most 0 (((if n<10 then[] else ed f (n/10))++[UInt8.ofNat (48+n%10)])++r)=_
  by_cases a:n<10
  ·rw[if_pos a];simp only[List.nil_append,List.cons_append,bu];rw[hd,if_neg (by omega)]
   congr 1;omega
  ·rw[if_neg a,List.append_assoc];rw[Nat.pow_succ] at h
   have b:0<f:=by
    rcases Nat.eq_zero_or_pos f with e|e
    ·subst e;simp at h;omega
    ·exact e
   rw[ih (n/10) _ (by omega) b (by omega)];simp only[List.nil_append,List.cons_append,bu];rw[hd,if_neg (by omega)]
   congr 1;omega
theorem Ca:∀(f n:Nat),n<10^f->0<f->0<n->∃ b l,ed f n=b::l/\49<=b.toNat/\b.toNat<=57:=by
 intro f
 induction f with
 | zero=>intro n _ h;omega
 | succ f ih =>
  intro n h _ i;show ∃ b l,(if n<10 then[] else ed f (n/10))++[UInt8.ofNat (48+n%10)]=b::l/\_
  by_cases a:n<10
  ·rw[if_pos a];refine⟨_,_,rfl,?_⟩;rw[toNat_ofNat (by omega)];omega
  ·rw[if_neg a];rw[Nat.pow_succ] at h
   have c:0<f:=by
    rcases Nat.eq_zero_or_pos f with e|e
    ·subst e;simp at h;omega
    ·exact e
   obtain⟨b,l,e,d,g⟩:=ih (n/10) (by omega) c (by omega);exact⟨b,l++[UInt8.ofNat (48+n%10)],by rw[e];rfl,d,g⟩
theorem pZ{r:Bs}(hm:9<=most)(hM:most<10^20)(hn:n<=most)(hr:Ap r):c9 most (ed 20 n++r)=(some n,r):=by
 rcases Nat.eq_zero_or_pos n with e|e
 ·subst e;rfl
 ·obtain⟨b,l,hd,c,d⟩:=Ca 20 n (by omega) (by omega) e;have a:=rH hm 20 n r (by omega) (by omega) hn;rw[t8 hr] at a;unfold c9;rw[a];rw[hd,List.cons_append,ny (by omega)];simp;omega
theorem rF{n:Int}{l r:Bs}(h:cg l=(some n,r)):-9223372036854775808<=n/\n<=9223372036854775807/\l=gq n++r:=by
 unfold cg at h
 split at h
 ·simp only[Prod.mk.injEq,Option.map_eq_some_iff] at h;obtain⟨⟨m,d,rfl⟩,f⟩:=h;obtain⟨j,a⟩:=mN (by omega) (by omega) (Prod.ext d f);refine⟨by simp only[Int.ofNat_eq_natCast];omega,by simp only[Int.ofNat_eq_natCast];omega,?_⟩;rw[a,gq,if_neg (by simp)];rfl
 ·rename_i p e;obtain⟨b,rfl,k⟩:=bp e
  split at h
  ·simp at h
  ·rename_i g;simp only[Prod.mk.injEq,Option.map_eq_some_iff] at h;obtain⟨⟨m,d,rfl⟩,f⟩:=h;obtain⟨j,a⟩:=mN (by omega) (by omega) (Prod.ext d f)
   have i:m≠0:=by
    intro o;subst o;rw[a] at g
    have:ed 20 0=[48]:=rfl
    rw[this,List.cons_append,dW (b:=48) (c:=48) rfl] at g;cases g
   refine⟨by omega,by omega,?_⟩;rw[a,gq,if_pos (by omega),fI k,show(-(m:Int)).natAbs=m by omega];rfl
theorem mO(ws:List Bs):∀(l got:Bs) (i:Nat) (r:Bs),cK ws got l=(some i,r)->∃ x dm,ws[i]?=some x/\got++dm=x/\l=dm++r:=by
 have a:∀(got:Bs) (i:Nat),ws.findIdx? (fun x=>x==got)=some i->ws[i]?=some got:=by
  intro got i h;obtain⟨c,d,_⟩:=List.findIdx?_eq_some_iff_getElem.1 h;rw[List.getElem?_eq_getElem c];simpa using d
 intro l
 induction l with
 | nil =>
  intro got i r h;simp only[cK,Prod.mk.injEq] at h;exact⟨got,[],a got i h.1,by simp,by simp[<-h.2]⟩
 | cons b l ih =>
  intro got i r h;simp only[cK] at h
  split at h
  ·rename_i j e;simp at h;obtain⟨rfl,rfl⟩:=h;exact⟨got,[],a got j e,by simp,by simp⟩
  ·split at h
   ·obtain⟨x,dm,f,g,k⟩:=ih _ _ _ h;exact⟨x,b::dm,f,by rw[<-g];simp,by rw[k];rfl⟩
   ·simp at h
def pE(ws:List Bs):Prop:=∀(i j:Nat) (x y:Bs),ws[i]?=some x->ws[j]?=some y->x <+: y->i=j
theorem yA(ws:List Bs)(hp:pE ws):∀(dm got r:Bs) (i:Nat),ws[i]?=some (got++dm)->cK ws got (dm++r)=(some i,r):=by
 intro dm
 induction dm with
 | nil =>
  intro got r i h;rw[List.append_nil] at h
  have a:ws.findIdx? (fun x=>x==got)=some i:=by
   obtain⟨g,c⟩:=List.getElem?_eq_some_iff.1 h;refine List.findIdx?_eq_some_iff_getElem.2 ⟨g,by simp[c],fun j d=>?_⟩;simp only[beq_iff_eq];intro e
   have:=hp j i got got (by rw[List.getElem?_eq_getElem (by omega),e]) h (List.prefix_refl _)
   omega
  cases r with
  | nil=>simp[cK,a]
  | cons b l=>simp[cK,a]
 | cons b dm ih =>
  intro got r i h
  have a:ws.findIdx? (fun x=>x==got)=none:=by
   rw[List.findIdx?_eq_none_iff];intro x k;simp only[beq_eq_false_iff_ne];rintro rfl;obtain⟨j,d,c⟩:=List.getElem_of_mem k
   have:=hp j i x _ (by rw[List.getElem?_eq_getElem d,c]) h ⟨b::dm,rfl⟩
   subst this;rw[List.getElem?_eq_getElem d,c] at h;simp at h
  have f:ws.any (fun x=>(got++[b]).isPrefixOf x)=true:=by
   rw[List.any_eq_true];refine⟨_,List.mem_of_getElem? h,?_⟩;rw[List.isPrefixOf_iff_prefix];exact⟨dm,by simp⟩
  rw[List.cons_append];simp only[cK];rw[a];simp only;rw[if_pos f];exact ih (got++[b]) r i (by rw[h];simp)
theorem uO:∀(x y:Bs),(∀ b∈y,b.toNat≠58)->(x++[58] <+: y++[58])->x=y:=by
 intro x
 induction x with
 | nil =>
  intro y e h;cases y with
  | nil=>rfl
  | cons b y =>
   obtain⟨z,d⟩:=h;simp at d
   have:=e b (by simp)
   rw[<-d.1] at this;exact absurd rfl this
 | cons a x ih =>
  intro y e h;cases y with
  | nil =>
   obtain⟨z,d⟩:=h
   have:=congrArg List.length d
   simp at this
  | cons b y =>
   obtain⟨z,d⟩:=h;simp at d;rw[d.1,ih y (fun c hc=>e c (by simp[hc])) ⟨z,by simpa using d.2⟩]
theorem ef{a b:ByteArray}(h:a.data.toList=b.data.toList):a=b:=by
 apply ByteArray.ext;exact Array.toList_inj.1 h
theorem yW{names:List ByteArray}(hn:names.Nodup)(hl:∀ n∈names,∀ b∈n.data.toList,97<=b.toNat/\b.toNat<=122):pE (names.map bU):=by
 intro i j x y k l h;simp only[List.getElem?_map,Option.map_eq_some_iff] at k l;obtain⟨a,s,rfl⟩:=k;obtain⟨b,m,rfl⟩:=l;have e:=uO _ _ (fun c hc=>by have:=hl b (List.mem_of_getElem? m) c hc;omega) h;have r:=ef e;subst r;obtain⟨o,p⟩:=List.getElem?_eq_some_iff.1 s;obtain⟨q,f⟩:=List.getElem?_eq_some_iff.1 m;have d:=List.pairwise_iff_getElem.1 hn;rcases Nat.lt_trichotomy i j with g|g|g
 ·exact absurd (p.trans f.symm) (d i j o q g)
 ·exact g
 ·exact absurd (f.trans p.symm) (d j i q o g)
theorem yy:∀(k:Nat) (acc l b r:Bs),fD k acc l=(some b,r)->∃ d,b=acc++d/\d.length<=k/\(∀ c∈d,32<=c.toNat/\c.toNat<=126)/\l=gP d++34::r:=by
 intro k
 induction k with
 | zero =>
  intro acc l b r h;cases l with
  | nil=>simp[fD] at h
  | cons c l =>
   simp only[fD] at h
   split at h
   ·rename_i e;simp at h;obtain⟨rfl,rfl⟩:=h;exact⟨[],by simp,by simp,by simp,by rw[fI e];rfl⟩
   ·simp at h
 | succ k ih =>
  intro acc l b r h;cases l with
  | nil=>simp[fD] at h
  | cons c l =>
   simp only[fD] at h
   split at h
   ·rename_i e;simp at h;obtain⟨rfl,rfl⟩:=h;exact⟨[],by simp,by simp,by simp,by rw[fI e];rfl⟩
   ·rename_i i
    split at h
    ·rename_i f
     split at h
     ·simp at h
     ·rename_i j q
      split at h
      ·rename_i m;obtain⟨d,rfl,n,g,rfl⟩:=ih _ _ _ _ h;refine⟨j::d,by simp,by simp;omega,?_,?_⟩
       ·intro x a;rcases List.mem_cons.1 a with rfl|a
        ·omega
        ·exact g x a
       ·rw[fI f];simp only[gP];rw[if_pos m];rfl
      ·simp at h
    ·rename_i o
     split at h
     ·rename_i p;obtain⟨d,rfl,n,g,rfl⟩:=ih _ _ _ _ h;refine⟨c::d,by simp,by simp;omega,?_,?_⟩
      ·intro x a;rcases List.mem_cons.1 a with rfl|a
       ·exact p
       ·exact g x a
      ·simp only[gP];rw[if_neg (by omega)];rfl
     ·simp at h
theorem oC{l l1:Bs}{h:Nat}(e:gQ l=some (h,l1)):h<16/\l=mW h::l1:=by
 cases l with
 | nil=>simp[gQ] at e
 | cons b l =>
  simp only[gQ] at e
  split at e
  ·simp at e;obtain⟨rfl,rfl⟩:=e;refine⟨by omega,?_⟩;unfold mW;rw[if_pos (by omega),show 48+(b.toNat-48)=b.toNat by omega];simp
  ·split at e
   ·simp at e;obtain⟨rfl,rfl⟩:=e;refine⟨by omega,?_⟩;unfold mW;rw[if_neg (by omega),show 87+(b.toNat-87)=b.toNat by omega];simp
   ·simp at e
theorem yB:∀(k:Nat) (acc l b r:Bs),js k acc l=(some b,r)->∃ d,b=acc++d/\d.length<=k/\l=iN d++r:=by
 intro k
 induction k with
 | zero=>intro acc l b r h;simp[js] at h;obtain⟨rfl,rfl⟩:=h;exact⟨[],by simp,by simp,rfl⟩
 | succ k ih =>
  intro acc l b r h;simp only[js] at h
  split at h
  ·simp at h;obtain⟨rfl,rfl⟩:=h;exact⟨[],by simp,by simp,rfl⟩
  ·rename_i a g e
   split at h
   ·simp at h
   ·rename_i c i f;obtain⟨d,rfl,j,rfl⟩:=ih _ _ _ _ h;obtain⟨m,rfl⟩:=oC e;obtain⟨n,rfl⟩:=oC f;refine⟨UInt8.ofNat (16*a+c)::d,by simp,by simp;omega,?_⟩;simp only[iN];rw[toNat_ofNat (by omega),show(16*a+c)/16=a by omega,show(16*a+c)%16=c by omega];rfl
def GJ(r:Bs):Prop:=gQ r=none
theorem nH:∀(l:Bs),cC l<256^l.length:=by
 intro l
 induction l with
 | nil=>simp[cC]
 | cons b l ih =>
  have:=b.toNat_lt
  simp only[cC,List.length_cons,Nat.pow_succ];omega
theorem mz:∀(l:Bs),leBytes l.length (cC l)=l:=by
 intro l
 induction l with
 | nil=>rfl
 | cons b l ih =>
  have a:=b.toNat_lt;simp only[List.length_cons,leBytes,cC];rw[show(b.toNat+256*cC l)/256=cC l by omega,ih]
  congr 1
  apply UInt8.toNat_inj.1;simp
theorem ct:∀(c n:Nat),(leBytes c n).length=c:=by
 intro c
 induction c with
 | zero=>intro n;rfl
 | succ c ih=>intro n;simp[leBytes,ih]
theorem lH(l:Bs):fp l=cC l.reverse:=by
 have c:∀(l:Bs) (a:Nat),l.foldl (fun n b=>n*256+b.toNat) a=cC l.reverse+256^l.length*a:=by
  intro l
  induction l with
  | nil=>intro a;simp[cC]
  | cons b l ih =>
   intro a
   have d:∀(x:Bs) (y:UInt8),cC (x++[y])=cC x+256^x.length*y.toNat:=by
    intro x y
    induction x with
    | nil=>simp[cC]
    | cons z x ihx =>
     simp only[List.cons_append,cC,ihx,List.length_cons,Nat.pow_succ];rw[Nat.mul_add,Nat.add_assoc,<-Nat.mul_assoc,Nat.mul_comm 256 (256^x.length)]
   simp only[List.foldl_cons,List.reverse_cons,List.length_cons];rw[ih,d,Nat.pow_succ,List.length_reverse,Nat.mul_add,Nat.add_assoc,Nat.add_comm (256^l.length*(a*256)),Nat.mul_comm a 256,Nat.mul_assoc]
 simpa[fp] using c l 0
theorem yS(h:n<18446744073709551616):ofInt64 (toInt64 n)=n:=by
 unfold toInt64 ofInt64
 split<;>omega
theorem rE(h:n<18446744073709551616):-9223372036854775808<=toInt64 n/\toInt64 n<=9223372036854775807:=by
 unfold toInt64
 split<;>omega
theorem jg{l b r:Bs}(h:bw c l=(some b,r)):b.length=c/\l=b++r:=by
 unfold bw at h
 split at h
 ·simp at h
 ·simp at h;obtain⟨rfl,rfl⟩:=h;exact⟨by simp;omega,by simp⟩
theorem jF{l r:Bs}(h:bj l=(some n,r)):n<=300/\l=aB n++r:=by
 cases l with
 | nil=>simp[bj] at h
 | cons b l =>
  have a:=b.toNat_lt;simp only[bj] at h
  split at h
  ·rename_i bZ;simp at h;obtain⟨rfl,rfl⟩:=h;exact⟨by omega,by simp[aB,bZ]⟩
  ·split at h
   ·simp at h
   ·rename_i c e;have d:=c.toNat_lt
    split at h
    ·simp at h
    ·simp at h;obtain⟨rfl,rfl⟩:=h;refine⟨by omega,?_⟩;unfold aB;rw[if_neg (by omega),show(b.toNat-128+128*c.toNat)%128+128=b.toNat by omega,show(b.toNat-128+128*c.toNat)/128=c.toNat by omega];simp
theorem iw{l r:Bs}(h:aK c l=(some n,r)):n<c/\l=UInt8.ofNat n::r:=by
 cases l with
 | nil=>simp[aK] at h
 | cons b l =>
  simp only[aK] at h
  split at h
  ·simp at h;obtain⟨rfl,rfl⟩:=h;exact⟨by assumption,by simp⟩
  ·simp at h
theorem BF:∀(k:Nat) (acc l b r:Bs),gY k acc l=(some b,r)->∃ d,b=acc++d/\d.length=k/\(∀ c∈d,32<=c.toNat/\c.toNat<=126)/\l=d++r:=by
 intro k
 induction k with
 | zero=>intro acc l b r h;simp[gY] at h;obtain⟨rfl,rfl⟩:=h;exact⟨[],by simp,rfl,by simp,rfl⟩
 | succ k ih =>
  intro acc l b r h;cases l with
  | nil=>simp[gY] at h
  | cons c l =>
   simp only[gY] at h
   split at h
   ·rename_i e;obtain⟨d,rfl,f,g,rfl⟩:=ih _ _ _ _ h;refine⟨c::d,by simp,by simp[f],?_,rfl⟩;intro x a;rcases List.mem_cons.1 a with rfl|a
    ·exact e
    ·exact g x a
   ·simp at h
theorem PT.cO{t:PT}{i:Nat}(h:i<t.subs.length):t.subs[i]?=some (t.sub i):=by
 simp[PT.sub,List.getElem?_eq_getElem h]
theorem c8.sub{t:PT}{i:Nat}(h:c8 (k+1) t)(hi:i<t.subs.length):c8 k (t.sub i) :=
 h.2.2.1 _ (List.mem_of_getElem? (PT.cO hi))
def Stop(r:Bs):Prop:=∀ b l,r=b::l->b.toNat=44\/b.toNat=93\/b.toNat=125
theorem Stop.hex{r:Bs}(h:Stop r):GJ r:=by
 unfold GJ;cases r with
 | nil=>rfl
 | cons b l =>
  have:=h b l rfl
  simp only[gQ];rw[if_neg (by omega),if_neg (by omega)]
theorem Stop.of(c:UInt8)(r:Bs)(h:c.toNat=44\/c.toNat=93\/c.toNat=125):Stop (c::r):=by
 intro b l e;simp at e;obtain⟨rfl,_⟩:=e;exact h
theorem Stop.nil:Stop []:=fun b l e=>by simp at e
section
variable {rd:Bs->Option PV×Bs} {f:PV->Bs} {P:PV->Prop}
theorem fu{v:PV}{d:List PV}(h:d≠[]):aD f (v::d)=f v++44::aD f d:=by
 cases d with
 | nil=>exact absurd rfl h
 | cons x d=>rfl
theorem kx{v:PV}:aD f [v]=f v:=by simp[aD]
theorem t7(iW:∀ l v r,rd l=(some v,r)->P v/\l=f v++r):∀(k:Nat) (acc:List PV) (l:Bs) (vs:List PV) (r:Bs),dS rd k acc l=(some vs,r)->∃ d,vs=acc++d/\d≠[]/\d.length<=k/\(∀ x∈d,P x)/\l=aD f d++93::r:=by
 intro k
 induction k with
 | zero=>intro acc l vs r h;simp[dS] at h
 | succ k ih =>
  intro acc l vs r h;simp only[dS] at h
  split at h
  ·simp at h
  ·rename_i v o e;obtain⟨i,rfl⟩:=iW _ _ _ e
   split at h
   ·rename_i j a;simp at h;obtain⟨rfl,rfl⟩:=h;obtain⟨b,rfl,c⟩:=bp a;refine⟨[v],rfl,by simp,by simp,by simpa using i,?_⟩;rw[kx,fI c];rfl
   ·split at h
    ·simp at h
    ·split at h
     ·rename_i j a;obtain⟨b,rfl,c⟩:=bp a;obtain⟨d,rfl,m,p,n,rfl⟩:=ih _ _ _ _ h;refine⟨v::d,by simp,by simp,by simp;omega,?_,?_⟩
      ·intro x g;rcases List.mem_cons.1 g with rfl|g
       ·exact i
       ·exact n x g
      ·rw[fu m,fI c];simp
     ·simp at h
theorem we(iW:∀ l v r,rd l=(some v,r)->P v/\l=f v++r){l:Bs}{vs:List PV}{r:Bs}(h:dP rd l=(some vs,r)):vs.length<=300/\(∀ x∈vs,P x)/\l=91::(aD f vs++[93])++r:=by
 unfold dP at h
 split at h
 ·simp at h
 ·rename_i k e;obtain⟨b,rfl,c⟩:=bp e
  split at h
  ·rename_i m g;obtain⟨n,rfl,a⟩:=bp g;simp at h;obtain⟨rfl,rfl⟩:=h;refine⟨by simp,by simp,?_⟩;rw[fI c,fI a];rfl
  ·obtain⟨d,rfl,o,i,j,rfl⟩:=t7 iW _ _ _ _ _ h;refine⟨by simpa using i,by simpa using j,?_⟩;rw[fI c];simp
theorem yz(iW:∀ l v r,rd l=(some v,r)->P v/\l=f v++r){l:Bs}{vs:List PV}{r:Bs}(h:iB rd l=(some vs,r)):vs.length<=1/\(∀ x∈vs,P x)/\l=yc f vs++r:=by
 unfold iB at h
 split at h
 ·rename_i c e;obtain⟨b,rfl,a⟩:=bp e;simp at h;obtain⟨rfl,rfl⟩:=h;exact⟨by simp,by simp,by rw[fI a];rfl⟩
 ·split at h
  ·simp at h
  ·rename_i c e;obtain⟨b,rfl,a⟩:=bp e;simp only[Prod.mk.injEq,Option.map_eq_some_iff] at h;obtain⟨⟨v,d,rfl⟩,g⟩:=h;obtain⟨i,rfl⟩:=iW _ _ _ (Prod.ext d g);exact⟨by simp,by simpa using i,by rw[fI a];rfl⟩
end
def oh(f:PV->Bs):UInt8->List PV->Bs
 | _,[]=>[]
 | a,v::l=>a::(f v++oh f 44 l)
theorem pJ{f:PV->Bs}:∀(d:List PV) (v:PV) (a:UInt8),oh f a (v::d)=a::aD f (v::d):=by
 intro d
 induction d with
 | nil=>intro v a;simp[oh,aD]
 | cons x d ih =>
  intro v a;rw[oh,ih x 44,fu (v:=v) (d:=x::d) (by simp)]
section
variable {rd:PT->Bs->Option PV×Bs} {f:PV->Bs} {P:PT->PV->Prop}
theorem rG:∀(ts:List PT) (_:∀ t∈ts,∀ l v r,rd t l=(some v,r)->P t v/\l=f v++r) (a:UInt8) (acc:List PV) (l:Bs) (vs:List PV) (r:Bs),bh rd ts a.toNat acc l=(some vs,r)->∃ d,vs=acc++d/\d.length=ts.length/\(∀(i:Nat) (x:PV) (t:PT),d[i]?=some x->ts[i]?=some t->P t x)/\l=oh f a d++125::r:=by
 intro ts
 induction ts with
 | nil =>
  intro _ a acc l vs r h;simp only[bh] at h
  split at h
  ·rename_i m e;obtain⟨b,rfl,g⟩:=bp e;simp at h;obtain⟨rfl,rfl⟩:=h;exact⟨[],by simp,rfl,by simp,by rw[fI g];rfl⟩
  ·simp at h
 | cons t ts ih =>
  intro iW a acc l vs r h;simp only[bh] at h
  split at h
  ·simp at h
  ·rename_i m e;obtain⟨b,rfl,g⟩:=bp e
   split at h
   ·simp at h
   ·rename_i v s n;obtain⟨o,rfl⟩:=iW t (by simp) _ _ _ n;obtain⟨d,rfl,p,q,rfl⟩:=ih (fun j c=>iW j (by simp[c])) 44 _ _ _ _ h;refine⟨v::d,by simp,by simp[p],?_,?_⟩
    ·intro i x j k c;cases i with
     | zero=>simp at k c;subst k c;exact o
     | succ i=>exact q i x j (by simpa using k) (by simpa using c)
    ·have:b=a:=UInt8.toNat_inj.1 g
     subst this;simp[oh]
theorem rP:∀(ts:List PT) (_:∀ t∈ts,∀ l v r,rd t l=(some v,r)->P t v/\l=f v++r) (acc:List PV) (l:Bs) (vs:List PV) (r:Bs),cw rd ts acc l=(some vs,r)->∃ d,vs=acc++d/\d.length=ts.length/\(∀(i:Nat) (x:PV) (t:PT),d[i]?=some x->ts[i]?=some t->P t x)/\l=d.flatMap f++r:=by
 intro ts
 induction ts with
 | nil=>intro _ acc l vs r h;simp[cw] at h;obtain⟨rfl,rfl⟩:=h;exact⟨[],by simp,rfl,by simp,rfl⟩
 | cons t ts ih =>
  intro iW acc l vs r h;simp only[cw] at h
  split at h
  ·simp at h
  ·rename_i v m e;obtain⟨g,rfl⟩:=iW t (by simp) _ _ _ e;obtain⟨d,rfl,j,k,rfl⟩:=ih (fun b a=>iW b (by simp[a])) _ _ _ _ h;refine⟨v::d,by simp,by simp[j],?_,by simp⟩;intro i x b c a;cases i with
   | zero=>simp at c a;subst c a;exact g
   | succ i=>exact k i x b (by simpa using c) (by simpa using a)
end
section
variable {rd:Bs->Option PV×Bs} {f:PV->Bs} {P:PV->Prop}
theorem ly(iW:∀ l v r,rd l=(some v,r)->P v/\l=f v++r):∀(k:Nat) (acc:List PV) (l:Bs) (vs:List PV) (r:Bs),bR rd k acc l=(some vs,r)->∃ d,vs=acc++d/\d.length=k/\(∀ x∈d,P x)/\l=d.flatMap f++r:=by
 intro k
 induction k with
 | zero=>intro acc l vs r h;simp[bR] at h;obtain⟨rfl,rfl⟩:=h;exact⟨[],by simp,rfl,by simp,rfl⟩
 | succ k ih =>
  intro acc l vs r h;simp only[bR] at h
  split at h
  ·simp at h
  ·rename_i v i b;obtain⟨c,rfl⟩:=iW _ _ _ b;obtain⟨d,rfl,e,g,rfl⟩:=ih _ _ _ _ h;refine⟨v::d,by simp,by simp[e],?_,by simp⟩;intro x a;rcases List.mem_cons.1 a with rfl|a
   ·exact c
   ·exact g x a
end
theorem c8.names{t:PT}(h:c8 (k+1) t)(hk:9<=t.kind):pE (t.names.map bU):=yW (h.2.2.2.2.2.2 hk).1 (h.2.2.2.2.2.2 hk).2
theorem sZ(k:Nat):9<=bQ k/\bQ k<10^20:=by unfold bQ;split<;>(try split)<;>omega
theorem cT{α β:Type}{o:Option α}{g:α->β}{r r':Bs}{v:β}(h:(o.map g,r)=(some v,r')):∃ x,o=some x/\g x=v/\r=r':=by
 simp only[Prod.mk.injEq,Option.map_eq_some_iff] at h;obtain⟨⟨x,a,b⟩,c⟩:=h;exact⟨x,a,b,c⟩
theorem oR:∀(k:Nat) (t:PT) (l:Bs) (v:PV) (r:Bs),c8 k t->ay k t l=(some v,r)->Valid k t v/\l=aw k v++r:=by
 intro k
 induction k with
 | zero=>intro t l v r h;exact h.elim
 | succ k ih =>
  intro t l v r C h;have y:∀ i,i<t.subs.length->∀ l v r,ay k (t.sub i) l=(some v,r)->Valid k (t.sub i) v/\l=aw k v++r:=fun i F l v r=>ih (t.sub i) l v r (C.sub F)
  simp only[ay] at h
  split at h
  ·rename_i m;obtain⟨n,a,rfl,g⟩:=cT h;obtain⟨w,rfl⟩:=mN (sZ _).1 (sZ _).2 (Prod.ext a g);refine⟨⟨rfl,?_⟩,?_⟩
   ·rw[if_pos m];exact⟨rfl,rfl,by simp[fY],by simp[fY];omega⟩
   ·rw[fY,cz];rw[if_pos (by omega),gq,if_neg (by omega)];rfl
  ·split at h
   ·rename_i gg m;obtain⟨n,a,rfl,g⟩:=cT h;obtain⟨w,z,rfl⟩:=rF (Prod.ext a g);refine⟨⟨rfl,?_⟩,?_⟩
    ·rw[if_neg gg,if_pos m];exact⟨rfl,rfl,w,z⟩
    ·rw[fY,cz];rw[if_pos (by omega)]
   ·split at h
    ·rename_i gg f m;obtain⟨n,a,rfl,g⟩:=cT h;obtain⟨x,dm,q,D,rfl⟩:=mO _ _ _ _ _ (Prod.ext a g);rw[List.nil_append] at D;subst D
     have L:(n=0/\dm=jx)\/(n=1/\dm=dX):=by
      match n,q with
      | 0,q=>simp at q;exact .inl ⟨rfl,q.symm⟩
      | 1,q=>simp at q;exact .inr ⟨rfl,q.symm⟩
      | n+2,q=>simp at q
     refine⟨⟨rfl,?_⟩,?_⟩
     ·rw[if_neg gg,if_neg f,if_pos m];exact⟨rfl,rfl,by simp[fY];omega⟩
     ·rw[fY,cz];rw[if_neg (by omega),if_pos m];rcases L with⟨rfl,rfl⟩|⟨rfl,rfl⟩<;>rfl
    ·split at h
     ·rename_i gg f j m;obtain⟨b,a,rfl,g⟩:=cT h;unfold bM at a g
      split at a
      ·cases a
      ·rename_i K e;rw[e] at g;obtain⟨c,rfl,H⟩:=bp e;obtain⟨d,rfl,z,M,rfl⟩:=yy _ _ _ _ _ (Prod.ext a g);refine⟨⟨rfl,?_⟩,?_⟩
       ·rw[if_neg gg,if_neg f,if_neg j,if_pos m];exact⟨rfl,rfl,z,M⟩
       ·rw[fC,cz];rw[if_neg (by omega),if_neg (by omega),if_pos m,fI H];simp
     ·split at h
      ·rename_i gg f j o m;obtain⟨b,a,rfl,g⟩:=cT h;unfold ep at a g
       split at a
       ·cases a
       ·rename_i K e;rw[e] at g;obtain⟨c,rfl,H⟩:=bp e;obtain⟨d,rfl,z,rfl⟩:=yB _ _ _ _ _ (Prod.ext a g);refine⟨⟨rfl,?_⟩,?_⟩
        ·rw[if_neg gg,if_neg f,if_neg j,if_neg o,if_pos m];exact⟨rfl,rfl,z⟩
        ·rw[fC,cz];rw[if_neg (by omega),if_neg (by omega),if_neg (by omega),if_pos m,fI H];simp
      ·split at h
       ·rename_i gg f j o s m;have G:t.subs.length=1:=C.2.2.2.2.1 (by omega);obtain⟨I,a,rfl,g⟩:=cT h;obtain⟨w,z,rfl⟩:=we (y 0 (by omega)) (Prod.ext a g);refine⟨⟨rfl,?_⟩,?_⟩
        ·rw[if_neg gg,if_neg f,if_neg j,if_neg o,if_neg s,if_pos m];exact⟨rfl,rfl,w,z⟩
        ·rw[bE,cz];rw[if_neg (by omega),if_neg (by omega),if_neg (by omega),if_neg (by omega),if_pos m]
       ·split at h
        ·rename_i gg f j o s A m;have G:t.subs.length=1:=C.2.2.2.2.1 (by omega);obtain⟨I,a,rfl,g⟩:=cT h;obtain⟨w,z,rfl⟩:=yz (y 0 (by omega)) (Prod.ext a g);refine⟨⟨rfl,?_⟩,?_⟩
         ·rw[if_neg gg,if_neg f,if_neg j,if_neg o,if_neg s,if_neg A,if_pos m];exact⟨rfl,rfl,w,z⟩
         ·rw[bE,cz];rw[if_neg (by omega),if_neg (by omega),if_neg (by omega),if_neg (by omega),if_neg (by omega),if_pos m]
        ·split at h
         ·rename_i gg f j o s A B m;obtain⟨I,a,rfl,g⟩:=cT h;obtain⟨d,q,w,z,rfl⟩:=rG (P:=Valid k) t.subs (fun u hu l v r=>ih u l v r (C.2.2.1 u hu)) 123 _ _ _ _ (Prod.ext a g);rw[List.nil_append] at q;subst q;refine⟨⟨rfl,?_⟩,?_⟩
          ·rw[if_neg gg,if_neg f,if_neg j,if_neg o,if_neg s,if_neg A,if_neg B,if_pos m];refine⟨rfl,rfl,w,fun i x hx=>z i x _ hx (PT.cO ?_)⟩
           have:=(List.getElem?_eq_some_iff.1 hx).1
           simp[bE] at this;omega
          ·rw[bE,cz];rw[if_neg (by omega),if_neg (by omega),if_neg (by omega),if_neg (by omega),if_neg (by omega),if_neg (by omega),if_pos m];have mi:=C.2.2.2.1 (by omega);cases I with
           | nil=>simp at w;rw[<-w] at mi;simp at mi
           | cons x d=>rw[pJ];simp
         ·rename_i gg f j o s A B J;obtain⟨p,a,rfl,g⟩:=cT h;unfold gZ at a g
          split at a
          ·cases a
          ·rename_i i K e;rw[e] at g;obtain⟨x,dm,q,D,rfl⟩:=mO _ _ _ _ _ e;rw[List.nil_append] at D;subst D;simp only[List.getElem?_map,Option.map_eq_some_iff] at q;obtain⟨N,E,rfl⟩:=q
           have F:i<t.subs.length:=by
            have:=(List.getElem?_eq_some_iff.1 E).1
            rw[C.2.1] at this;exact this
           simp only[Option.map_eq_some_iff] at a;obtain⟨v,a,rfl⟩:=a;obtain⟨w,rfl⟩:=y i F _ _ _ (Prod.ext a g);refine⟨⟨rfl,?_⟩,?_⟩
           ·rw[if_neg gg,if_neg f,if_neg j,if_neg o,if_neg s,if_neg A,if_neg B,if_neg J];exact⟨rfl,i,v,rfl,F,rfl,w⟩
           ·rw[bE,cz];rw[if_neg (by omega),if_neg (by omega),if_neg (by omega),if_neg (by omega),if_neg (by omega),if_neg (by omega),if_neg (by omega)];simp[PT.name,E,bU,pI]
theorem jc:∀(k:Nat) (t:PT) (l:Bs) (v:PV) (r:Bs),c8 k t->aS k t l=(some v,r)->Valid k t v/\l=aG k v++r:=by
 intro k
 induction k with
 | zero=>intro t l v r h;exact h.elim
 | succ k ih =>
  intro t l v r E h;have w:∀ i,i<t.subs.length->∀ l v r,aS k (t.sub i) l=(some v,r)->Valid k (t.sub i) v/\l=aG k v++r:=fun i G l v r=>ih (t.sub i) l v r (E.sub G)
  simp only[aS] at h
  split at h
  ·rename_i m;obtain⟨b,c,rfl,g⟩:=cT h;obtain⟨s,rfl⟩:=jg (Prod.ext c g);have j:=nH b;rw[s] at j;refine⟨⟨rfl,?_⟩,?_⟩
   ·rw[if_pos m];refine⟨rfl,rfl,by simp[fY],?_⟩;simp only[fY];unfold aT at j;unfold bQ
    split at j
    ·rw[if_pos (by assumption)];simp at j;omega
    ·split at j
     ·rw[if_neg (by assumption),if_pos (by assumption)];simp at j;omega
     ·rw[if_neg (by assumption),if_neg (by assumption)];simp at j;omega
   ·rw[fY,cQ];rw[if_pos m,Int.toNat_natCast,<-s,mz]
  ·split at h
   ·rename_i gg m;obtain⟨b,c,rfl,g⟩:=cT h;obtain⟨s,rfl⟩:=jg (Prod.ext c g)
    have j:fp b<18446744073709551616:=by
     rw[lH]
     have:=nH b.reverse
     rw[List.length_reverse,s] at this;exact this
    refine⟨⟨rfl,?_⟩,?_⟩
    ·rw[if_neg gg,if_pos m]
     have:=rE j
     exact⟨rfl,rfl,this.1,this.2⟩
    ·rw[fY,cQ];rw[if_neg gg,if_pos m,yS j,lH,aC]
     have:=mz b.reverse
     rw[List.length_reverse,s] at this;rw[this,List.reverse_reverse]
   ·split at h
    ·rename_i gg a m;obtain⟨n,c,rfl,g⟩:=cT h;obtain⟨s,rfl⟩:=iw (Prod.ext c g);refine⟨⟨rfl,?_⟩,?_⟩
     ·rw[if_neg gg,if_neg a,if_pos m];exact⟨rfl,rfl,by simp[fY];omega⟩
     ·rw[fY,cQ];rw[if_neg gg,if_neg a,if_pos m,Int.toNat_natCast];rfl
    ·split at h
     ·rename_i gg a f m;obtain⟨b,c,rfl,g⟩:=cT h;unfold iq at c g
      split at c
      ·cases c
      ·rename_i n F e;rw[e] at g;obtain⟨s,rfl⟩:=jF e;obtain⟨d,y,A,C,rfl⟩:=BF _ _ _ _ _ (Prod.ext c g);rw[List.nil_append] at y;subst y;refine⟨⟨rfl,?_⟩,?_⟩
       ·rw[if_neg gg,if_neg a,if_neg f,if_pos m];exact⟨rfl,rfl,by simp[fC];omega,C⟩
       ·rw[fC,cQ];rw[if_neg gg,if_neg a,if_neg f,if_pos (by omega),A];simp
     ·split at h
      ·rename_i gg a f o m;obtain⟨b,c,rfl,g⟩:=cT h;unfold fS at c g
       split at c
       ·cases c
       ·rename_i n F e;rw[e] at g;obtain⟨s,rfl⟩:=jF e;obtain⟨A,rfl⟩:=jg (Prod.ext c g);refine⟨⟨rfl,?_⟩,?_⟩
        ·rw[if_neg gg,if_neg a,if_neg f,if_neg o,if_pos m];exact⟨rfl,rfl,by simp[fC];omega⟩
        ·rw[fC,cQ];rw[if_neg gg,if_neg a,if_neg f,if_pos (by omega),A];simp
      ·split at h
       ·rename_i gg a f o q m;have H:t.subs.length=1:=E.2.2.2.2.1 (by omega);obtain⟨I,c,rfl,g⟩:=cT h;unfold ir at c g
        split at c
        ·cases c
        ·rename_i n F e;rw[e] at g;obtain⟨s,rfl⟩:=jF e;obtain⟨d,y,A,C,rfl⟩:=ly (w 0 (by omega)) _ _ _ _ _ (Prod.ext c g);rw[List.nil_append] at y;subst y;refine⟨⟨rfl,?_⟩,?_⟩
         ·rw[if_neg gg,if_neg a,if_neg f,if_neg o,if_neg q,if_pos m];exact⟨rfl,rfl,by simp[bE];omega,C⟩
         ·rw[bE,cQ];rw[if_neg gg,if_neg a,if_neg f,if_neg (by omega),if_pos (by omega),A];simp
       ·split at h
        ·rename_i gg a f o q z m;have H:t.subs.length=1:=E.2.2.2.2.1 (by omega);obtain⟨I,c,rfl,g⟩:=cT h;unfold kZ at c g
         split at c
         ·cases c
         ·rename_i n F e;rw[e] at g;obtain⟨s,rfl⟩:=iw e;obtain⟨d,y,A,C,rfl⟩:=ly (w 0 (by omega)) _ _ _ _ _ (Prod.ext c g);rw[List.nil_append] at y;subst y;refine⟨⟨rfl,?_⟩,?_⟩
          ·rw[if_neg gg,if_neg a,if_neg f,if_neg o,if_neg q,if_neg z,if_pos m];exact⟨rfl,rfl,by simp[bE];omega,C⟩
          ·rw[bE,cQ];rw[if_neg gg,if_neg a,if_neg f,if_neg (by omega),if_pos (by omega),A];simp[aB,show n<=127 by omega]
        ·split at h
         ·rename_i gg a f o q z B m;obtain⟨I,c,rfl,g⟩:=cT h;obtain⟨d,y,s,A,rfl⟩:=rP (P:=Valid k) t.subs (fun u hu l v r=>ih u l v r (E.2.2.1 u hu)) _ _ _ _ (Prod.ext c g);rw[List.nil_append] at y;subst y;refine⟨⟨rfl,?_⟩,?_⟩
          ·rw[if_neg gg,if_neg a,if_neg f,if_neg o,if_neg q,if_neg z,if_neg B,if_pos m];refine⟨rfl,rfl,s,fun i x hx=>A i x _ hx (PT.cO ?_)⟩
           have:=(List.getElem?_eq_some_iff.1 hx).1
           simp[bE] at this;omega
          ·rw[bE,cQ];rw[if_neg gg,if_neg a,if_neg f,if_neg (by omega),if_neg (by omega),if_pos m]
         ·rename_i gg a f o q z B D;obtain⟨p,c,rfl,g⟩:=cT h;unfold iu at c g
          split at c
          ·cases c
          ·rename_i i F e;rw[e] at g;obtain⟨G,rfl⟩:=iw e;simp only[Option.map_eq_some_iff] at c;obtain⟨v,c,rfl⟩:=c;obtain⟨s,rfl⟩:=w i G _ _ _ (Prod.ext c g);refine⟨⟨rfl,?_⟩,?_⟩
           ·rw[if_neg gg,if_neg a,if_neg f,if_neg o,if_neg q,if_neg z,if_neg B,if_neg D];exact⟨rfl,i,v,rfl,G,rfl,s⟩
           ·rw[bE,cQ];rw[if_neg gg,if_neg a,if_neg f,if_neg (by omega),if_neg (by omega),if_neg D];simp
theorem xD(n:Int):0<(gq n).length:=by
 unfold gq
 split
 ·simp
 ·show 0<((if n.natAbs<10 then[] else ed 19 (n.natAbs/10))++[_]).length;simp
theorem CI:∀(l:Bs),l.length<=(gP l).length:=by
 intro l
 induction l with
 | nil=>simp[gP]
 | cons b l ih =>
  simp only[gP]
  split<;>simp only[List.length_cons]<;>omega
theorem mL(n:Nat):(aB n).length<=2:=by unfold aB;split<;>simp
theorem nO{f g:PV->Bs}:∀(vs:List PV),(∀ x∈vs,(f x).length<=8*(g x).length)->(vs.flatMap f).length<=8*(aD g vs).length:=by
 intro vs
 induction vs with
 | nil=>intro _;simp
 | cons v d ih =>
  intro h;have a:=h v (by simp);have b:=ih (fun x hx=>h x (by simp[hx]));rw[List.flatMap_cons,List.length_append]
  by_cases hd:d=[]
  ·subst hd;rw[kx];simpa using a
  ·rw[fu hd,List.length_append,List.length_cons];omega
theorem z8:∀(k:Nat) (t:PT) (v:PV),c8 k t->Valid k t v->(aG k v).length<=8*(aw k v).length:=by
 intro k
 induction k with
 | zero=>intro t v h;exact h.elim
 | succ k ih =>
  intro t v u a;obtain⟨j,E,w,r⟩:=v;obtain⟨e,a⟩:=a;simp only at e;subst e;have d:∀ i,i<j.subs.length->∀ x,Valid k (j.sub i) x->(aG k x).length<=8*(aw k x).length:=fun i o x m=>ih (j.sub i) x (u.sub o) m
  rw[cQ,cz];simp only at a
  split at a
  ·rename_i c;rw[if_pos c,if_pos (by omega),ct]
   have:=xD E
   have:aT j.kind<=4:=by unfold aT;split<;>(try split)<;>omega
   omega
  ·rename_i gg;rw[if_neg gg]
   split at a
   ·rename_i c;rw[if_pos c,if_pos (by omega)]
    have:=xD E
    simp only[aC,List.length_reverse,ct];omega
   ·rename_i y;rw[if_neg y,if_neg (show ¬j.kind<=3 by omega)]
    split at a
    ·rename_i c;rw[if_pos c,if_pos c]
     split<;>simp[jx,dX]
    ·rename_i n;rw[if_neg n,if_neg n]
     split at a
     ·rename_i c;rw[if_pos (by omega),if_pos c];have D:=mL w.length;have q:=CI w;simp only[List.length_append,List.length_cons,List.length_nil];omega
     ·rename_i z;rw[if_neg z]
      split at a
      ·rename_i c;rw[if_pos (by omega),if_pos c];have D:=mL w.length
       have q:∀ l:Bs,(iN l).length=2*l.length:=by
        intro l
        induction l with
        | nil=>rfl
        | cons b l ih=>simp only[iN,List.length_cons,ih];omega
       simp only[List.length_append,List.length_cons,q];omega
      ·rename_i A;rw[if_neg (show ¬j.kind<=6 by omega),if_neg A]
       split at a
       ·rename_i c;have s:j.subs.length=1:=u.2.2.2.2.1 (by omega);rw[if_pos (by omega),if_pos c];have D:=mL r.length;have q:=nO (f:=aG k) (g:=aw k) r (fun x m=>d 0 (by omega) x (a.2.2.2 x m));simp only[List.length_append,List.length_cons,List.length_nil];omega
       ·rename_i B;rw[if_neg B]
        split at a
        ·rename_i c;have s:j.subs.length=1:=u.2.2.2.2.1 (by omega);rw[if_pos (by omega),if_pos c]
         match r,a with
         | [],_=>simp[aB,yc]
         | [x],a =>
          have:=d 0 (by omega) x (a.2.2.2 x (by simp))
          simp[aB,yc];omega
         | _::_::_,a=>have:=a.2.2.1;simp at this
        ·rename_i C;rw[if_neg (show ¬j.kind<=8 by omega),if_neg C]
         split at a
         ·rename_i c;rw[if_pos c,if_pos c]
          have q:=nO (f:=aG k) (g:=aw k) r (fun x m=>by
           obtain⟨i,o,F⟩:=List.getElem_of_mem m
           exact d i (by have:=a.2.2.1;omega) x (a.2.2.2 i x (by rw[List.getElem?_eq_getElem o,F])))
          simp only[List.length_append,List.length_cons,List.length_nil];omega
         ·rename_i p;rw[if_neg p,if_neg p];obtain⟨_,i,x,_,o,rfl,m⟩:=a
          have:=d i o x m
          simp[pI];omega
theorem qL:∀(f n:Nat),(ed f n).length<=f:=by
 intro f
 induction f with
 | zero=>intro n;simp[ed]
 | succ f ih =>
  intro n;simp only[ed,List.length_append,List.length_cons,List.length_nil]
  split
  ·simp
  ·have:=ih (n/10);omega
theorem qM(n:Int):(gq n).length<=21:=by
 unfold gq
 have:=qL 20 n.natAbs
 split
 ·simp only[List.length_cons];omega
 ·omega
theorem mJ(n:Nat):0<(aB n).length:=by unfold aB;split<;>simp
theorem E5:∀(l:Bs),(gP l).length<=2*l.length:=by
 intro l
 induction l with
 | nil=>simp[gP]
 | cons b l ih =>
  simp only[gP]
  split<;>simp only[List.length_cons]<;>omega
theorem nR{f g:PV->Bs}:∀(vs:List PV),(∀ x∈vs,0<(f x).length/\(g x).length<=c*(f x).length)->(aD g vs).length<=c*(vs.flatMap f).length+(vs.flatMap f).length:=by
 intro vs
 induction vs with
 | nil=>intro _;simp[aD]
 | cons v d ih =>
  intro h;have a:=h v (by simp);have b:=ih (fun x hx=>h x (by simp[hx]));rw[List.flatMap_cons,List.length_append]
  by_cases hd:d=[]
  ·subst hd;rw[kx];simp;omega
  ·rw[fu hd,List.length_append,List.length_cons,Nat.mul_add];omega
theorem Ee{f:PV->Bs}{vs:List PV}(h:0<vs.length)(hf:∀ x∈vs,0<(f x).length):0<(vs.flatMap f).length:=by
 cases vs with
 | nil=>simp at h
 | cons v d=>have:=hf v (by simp);rw[List.flatMap_cons,List.length_append];omega
theorem ng:∀(k:Nat) (t:PT) (v:PV),c8 k t->Valid k t v->0<(aG k v).length/\(aw k v).length<=500*k*(aG k v).length:=by
 intro k
 induction k with
 | zero=>intro t v h;exact h.elim
 | succ k ih =>
  intro t v q a;obtain⟨n,J,B,r⟩:=v;obtain⟨e,a⟩:=a;simp only at e;subst e;have j:∀ i,i<n.subs.length->∀ x,Valid k (n.sub i) x->0<(aG k x).length/\(aw k x).length<=500*k*(aG k x).length:=fun i s x o=>ih (n.sub i) x (q.sub s) o
  have u:∀ m,500*(k+1)*m=500*k*m+500*m:=fun m=>by rw[Nat.mul_add,Nat.add_mul]
  rw[u];rw[cQ,cz];simp only at a
  split at a
  ·rename_i d;rw[if_pos d,if_pos (by omega),ct]
   have:=qM J
   have:1<=aT n.kind:=by unfold aT;split<;>(try split)<;>omega
   omega
  ·rename_i gg;rw[if_neg gg]
   split at a
   ·rename_i d;rw[if_pos d,if_pos (by omega)]
    have:=qM J
    simp only[aC,List.length_reverse,ct];omega
   ·rename_i C;rw[if_neg C,if_neg (show ¬n.kind<=3 by omega)]
    split at a
    ·rename_i d;rw[if_pos d,if_pos d]
     split<;>simp[jx,dX]<;>omega
    ·rename_i w;rw[if_neg w,if_neg w]
     split at a
     ·rename_i d;rw[if_pos (by omega),if_pos d];have I:=mJ B.length;have z:=E5 B;simp only[List.length_append,List.length_cons,List.length_nil];omega
     ·rename_i D;rw[if_neg D]
      split at a
      ·rename_i d;rw[if_pos (by omega),if_pos d];have I:=mJ B.length
       have z:∀ l:Bs,(iN l).length=2*l.length:=by
        intro l
        induction l with
        | nil=>rfl
        | cons b l ih=>simp only[iN,List.length_cons,ih];omega
       simp only[List.length_append,List.length_cons,z];omega
      ·rename_i E;rw[if_neg (show ¬n.kind<=6 by omega),if_neg E]
       split at a
       ·rename_i d;have A:n.subs.length=1:=q.2.2.2.2.1 (by omega);rw[if_pos (by omega),if_pos d];have I:=mJ r.length;have z:=nR (c:=500*k) (f:=aG k) (g:=aw k) r (fun x o=>j 0 (by omega) x (a.2.2.2 x o));simp only[List.length_append,List.length_cons,List.length_nil,Nat.mul_add];omega
       ·rename_i F;rw[if_neg F]
        split at a
        ·rename_i d;have A:n.subs.length=1:=q.2.2.2.2.1 (by omega);rw[if_pos (by omega),if_pos d]
         match r,a with
         | [],_=>simp[aB,yc]
         | [x],a =>
          have:=j 0 (by omega) x (a.2.2.2 x (by simp))
          simp[aB,yc,Nat.mul_add];omega
         | _::_::_,a=>have:=a.2.2.1;simp at this
        ·rename_i G;rw[if_neg (show ¬n.kind<=8 by omega),if_neg G]
         split at a
         ·rename_i d;rw[if_pos d,if_pos d]
          have p:∀ x∈r,0<(aG k x).length/\(aw k x).length<=500*k*(aG k x).length:=fun x o=>by
           obtain⟨i,s,K⟩:=List.getElem_of_mem o;exact j i (by have:=a.2.2.1;omega) x (a.2.2.2 i x (by rw[List.getElem?_eq_getElem s,K]))
          have z:=nR (c:=500*k) (f:=aG k) (g:=aw k) r p;have L:=Ee (f:=aG k) (vs:=r) (by have:=a.2.2.1;have:=q.2.2.2.1 (by omega);omega) (fun x o=>(p x o).1);simp only[List.length_append,List.length_cons,List.length_nil];omega
         ·rename_i y;rw[if_neg y,if_neg y];obtain⟨_,i,x,H,s,rfl,o⟩:=a
          have:=j i s x o
          subst H
          have M:(n.name (i:Int).toNat).length<=400:=by
           unfold PT.name;rw[Int.toNat_natCast];have GB:i<n.names.length:=by rw[q.2.1];exact s
           rw[List.getElem?_eq_getElem GB]
           have:=q.2.2.2.2.2.1.2 _ (List.getElem_mem GB)
           rw[Option.getD_some,Array.length_toList];exact this
          simp only[pI,List.length_append,List.length_cons,List.flatMap_cons,List.flatMap_nil,List.append_nil,Nat.mul_add];omega
def jl(b:UInt8):Prop:=48<=b.toNat/\b.toNat<=57
def ig(l:Bs):Prop:=∀ b∈l,jl b
def F4:Bs->Nat->Nat
 | [],acc=>acc
 | b::l,acc=>F4 l (acc*10+(b.toNat-48))
def mZ(acc:Nat)(l:Bs):Nat:=F4 l acc
def dv(l:Bs):Nat:=mZ 0 l
theorem gC(acc:Nat)(b:UInt8)(l:Bs):mZ acc (b::l)=mZ (acc*10+(b.toNat-48)) l:=by unfold mZ;rw[F4]
theorem jI(acc:Nat):mZ acc []=acc:=by unfold mZ;rw[F4]
theorem El(b:UInt8):∀(l:Bs) (a:Nat),mZ a (l++[b])=mZ a l*10+(b.toNat-48):=by
 intro l
 induction l with
 | nil=>intro a;rw[List.nil_append,gC,jI,jI]
 | cons c l ih=>intro a;rw[List.cons_append,gC,gC];exact ih _
theorem l9(l:Bs)(b:UInt8):dv (l++[b])=dv l*10+(b.toNat-48):=El b l 0
theorem Em{x y:Bs}(hl:x.length=y.length)(hx:ig x):∀ {a c:Nat},a<c->mZ a x<mZ c y:=by
 induction x generalizing y with
 | nil =>
  intro a c h;rcases y with _|⟨b,y⟩
  ·rw[jI,jI];exact h
  ·simp at hl
 | cons b x ih =>
  intro a c h;rcases y with _|⟨d,y⟩
  ·simp at hl
  ·have f:=hx b (by simp);unfold jl at f;have e:x.length=y.length:=by simpa using hl
   rw[gC,gC];exact ih (y:=y) e (fun q hq=>hx q (by simp[hq])) (a:=a*10+(b.toNat-48)) (c:=c*10+(d.toNat-48)) (by omega)
theorem FN{x y:Bs}(hl:x.length=y.length)(hx:ig x)(hy:ig y):∀ a:Nat,(Op.bytesLess x y=true↔mZ a x<mZ a y)/\((x==y)=true↔mZ a x=mZ a y):=by
 induction x generalizing y with
 | nil =>
  intro a;rcases y with _|⟨b,y⟩
  ·simp[Op.bytesLess,jI]
  ·simp at hl
 | cons b x ih =>
  intro a;rcases y with _|⟨d,y⟩
  ·simp at hl
  ·have k:=hx b (by simp);have hd:=hy d (by simp);unfold jl at k hd;have f:x.length=y.length:=by simpa using hl
   have i:ig x:=fun q hq=>hx q (by simp[hq])
   have j:ig y:=fun q hq=>hy q (by simp[hq])
   rw[gC,gC]
   by_cases e:b=d
   ·subst e
    have:=ih f i j (a*10+(b.toNat-48))
    simpa[Op.bytesLess] using this
   ·have cF:b.toNat≠d.toNat:=fun h=>e (UInt8.toNat_inj.1 h)
    rcases Nat.lt_or_ge b.toNat d.toNat with h|h
    ·have:=Em f i (a:=a*10+(b.toNat-48)) (c:=a*10+(d.toNat-48)) (by omega)
     refine⟨⟨fun _=>this,fun _=>?_⟩,⟨fun h'=>?_,fun h'=>by omega⟩⟩
     ·have g:b<d:=UInt8.lt_iff_toNat_lt.2 h;simp[Op.bytesLess,g]
     ·simp[e] at h'
    ·have:=Em f.symm j (a:=a*10+(d.toNat-48)) (c:=a*10+(b.toNat-48)) (by omega)
     refine⟨⟨fun h'=>?_,fun h'=>by omega⟩,⟨fun h'=>?_,fun h'=>by omega⟩⟩
     ·have g:¬b<d:=fun q=>by have:=UInt8.lt_iff_toNat_lt.1 q;omega
      simp[Op.bytesLess,g,e] at h'
     ·simp[e] at h'
theorem Hl(l:Bs):∀ a,a*10^l.length<=mZ a l:=by
 induction l with
 | nil=>intro a;simp[jI]
 | cons b l ih =>
  intro a;rw[gC,List.length_cons,Nat.pow_succ];have c:=ih (a*10+(b.toNat-48));have d:a*(10^l.length*10)=a*10*10^l.length:=by rw[Nat.mul_assoc,Nat.mul_comm (10^l.length) 10]
  rw[d];exact Nat.le_trans (Nat.mul_le_mul_right _ (by omega)) c
theorem F5{l:Bs}(h:ig l):∀ a,mZ a l<(a+1)*10^l.length:=by
 induction l with
 | nil=>intro a;simp[jI]
 | cons b l ih =>
  intro a;have c:=h b (by simp);unfold jl at c;rw[gC,List.length_cons,Nat.pow_succ];have d:=ih (fun q hq=>h q (by simp[hq])) (a*10+(b.toNat-48));have e:(a+1)*(10^l.length*10)=(a+1)*10*10^l.length:=by rw[Nat.mul_assoc,Nat.mul_comm (10^l.length) 10]
  rw[e];exact Nat.lt_of_lt_of_le d (Nat.mul_le_mul_right _ (by omega))
def Plain(l:Bs):Prop:=ig l/\∀ b r,l=b::r->49<=b.toNat
theorem longer{x y:Bs}(hx:Plain x)(hy:ig y)(h:y.length<x.length):dv y<dv x:=by
 rcases x with _|⟨b,x⟩
 ·simp at h
 ·have a:=hx.2 b x rfl;have c:=F5 hy 0;have d:=Hl x (0*10+(b.toNat-48));have e:10^y.length<=10^x.length:=Nat.pow_le_pow_right (by omega) (by simp at h;omega);have f:1*10^x.length<=(0*10+(b.toNat-48))*10^x.length:=Nat.mul_le_mul_right _ (by omega);show mZ 0 y<mZ 0 (b::x);rw[gC];omega
def gA(a b:Bs):Bool:=if a.length≠b.length then decide (b.length<a.length) else !Op.bytesLess a b&&!(a==b)
theorem mY{a b:Bs}(ha:Plain a\/a=[48])(hb:Plain b)(iQ:b≠[]):gA a b=decide (dv b<dv a):=by
 have qG:ig a:=by
  rcases ha with h|rfl
  ·exact h.1
  ·intro q c;simp at c;subst c;unfold jl;decide
 unfold gA
 by_cases d:a.length=b.length
 ·rw[if_neg (by omega)];obtain⟨f,g⟩:=FN d qG hb.1 0;rw[Bool.eq_iff_iff];simp only[Bool.and_eq_true,Bool.not_eq_true',decide_eq_true_eq];constructor
  ·rintro⟨i,j⟩
   have k:¬mZ 0 a<mZ 0 b:=fun h=>by rw[f.2 h] at i;simp at i
   have l:¬mZ 0 a=mZ 0 b:=fun h=>by rw[g.2 h] at j;simp at j
   show mZ 0 b<mZ 0 a;omega
  ·intro h;have e:mZ 0 b<mZ 0 a:=h;refine⟨?_,?_⟩
   ·rcases c:Op.bytesLess a b with _|_
    ·rfl
    ·have:=f.1 c;omega
   ·rcases c:(a==b) with _|_
    ·rfl
    ·have:=g.1 c;omega
 ·rw[if_pos d];rw[Bool.eq_iff_iff];simp only[decide_eq_true_eq];rcases Nat.lt_or_ge b.length a.length with h|h
  ·have:dv b<dv a:=by
    rcases ha with ha|rfl
    ·exact longer ha hb.1 h
    ·simp at h;exact absurd h iQ
   exact⟨fun _=>this,fun _=>h⟩
  ·have:dv a<dv b:=longer hb qG (by omega)
   exact⟨fun e=>by omega,fun e=>by omega⟩
end Go.Proofs.YtpffifpbpmlhdaaGreatDoor
