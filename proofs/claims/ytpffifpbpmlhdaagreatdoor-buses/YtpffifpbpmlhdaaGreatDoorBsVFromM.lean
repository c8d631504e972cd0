import Derived.Laws.BitsAllLaws
import Derived.Test.YtpffifpbpmlhdaaGreatDoorBsVWf
import Derived.Test.YtpffifpbpmlhdaaGreatDoorBsVWVal
set_option maxHeartbeats 32000000
set_option maxRecDepth 100000
namespace Go.Proofs.YtpffifpbpmlhdaaGreatDoor
open Go.RowKit
variable {w:World}{l:Bs}{s:ByteArray}{rb k:Nat}{X:Nat->Prop}{a:Addr}{t:PT}
theorem WB.conv{wb:Nat}(h:WB w wb l)(hl:l.length<=1000):(convert 118 9 (.slice (some ⟨wb,1,none⟩) l.length 1000)).run Tryz.prog w=.ok (.string (ba l)) w:=by
 refine run_convert_bytes_back (P:=Tryz.prog) w 118 9 5 ⟨wb,1,none⟩ 1000 l Tryz.underlying118 Tryz.underlying5 Tryz.underlying9 (fun j hj=>?_);obtain⟨c,d,a,f,b⟩:=h.block;have e:(⟨wb,1,none⟩:Addr).add j=⟨wb,1+j,none⟩:=by simp[Addr.add]
 rw[e,cell_of_heap a,Nat.add_comm];exact b j l[j] (by omega) (by rw[List.getElem?_eq_getElem hj])
def BD(l:Bs):ByteArray:=if l.length<=1000 then ba l else⟨#[]⟩
def yZ(l:Bs):Bool:=decide (l.length<=1000)
theorem tL(w:World)(wb:Nat)(l:Bs)(h:WB w wb l):
  Calls Tryz.prog 86 #[.pointer (some ⟨wb,0,none⟩)] w fun e w'=>Fr Zero w w'/\e=.returned (.tuple #[.string (BD l),.bool (yZ l)]):=by
 have iX:=h.dM
 by_cases bZ:l.length<=1000
 ·have f:¬(1000:Int)<(l.length:Int):=by omega
  have g:(l.length:Int)<=1000:=by omega
  have a:Hi (BD l=ba l):=if_pos bZ;have b:Hi (yZ l=true):=decide_eq_true bZ;go_enter Tryz.func86,Tryz.ntmps86;go_wp2_with fail;refine(gw wb l.length _ iX).mono ?_;rintro e i ⟨rfl,c⟩;obtain rfl:=c.symm;go_wp2_with fail
  go_region_held3 (fun w'=>(convert 118 9 (.slice (some ⟨wb,1,none⟩) l.length 1000)).run Tryz.prog w'=.ok (.string (ba l)) w') (first|assumption|exact(h.same rfl:WB w.drew wb l).conv bZ) (first|(go_at_call 84;refine(gw wb l.length _ (by exact iX)).mono ?_;rintro e j ⟨rfl,rfl⟩))
  go_wp2_with fail;go_ret2;rw[a.o,b.o];exact⟨Fr.dr _ _,rfl⟩
 ·have f:(1000:Int)<(l.length:Int):=by omega
  have a:Hi (BD l=⟨#[]⟩):=if_neg bZ;have b:Hi (yZ l=false):=decide_eq_false bZ;go_enter Tryz.func86,Tryz.ntmps86;go_wp2_with fail;refine(gw wb l.length _ iX).mono ?_;rintro e i ⟨rfl,c⟩;obtain rfl:=c.symm;go_wp2_with fail;go_ret2;rw[a.o,b.o];exact⟨Fr.refl _ _,rfl⟩
theorem H7:Tryz.zeroCells180.size=1001:=by kernel_rfl
theorem GU:Tryz.zeroCells180[0]?=some (.int .i64 0):=by kernel_rfl
theorem WB.start(w:World):WB (w.alloc (.cells Tryz.zeroCells180 180)) w.heap.size [] :=
 ⟨⟨_,H7,af rfl _,GU,fun j b hj hb=>by simp at hb⟩⟩
theorem wX(w:World)(c:VC)(v:PV)(t:PT)(hV:VR w Zero c v)(hW:c8 12 t)(bN:Valid 12 t v)(hl:(aG 12 v).length<=100000000000000000):
  Calls Tryz.prog 66 #[c.val] w fun e w'=>Fr Zero w w'/\e=.returned (.tuple #[.string (BD (aG 12 v)),.bool (yZ (aG 12 v))]):=by
 obtain⟨o,n,j,r⟩:=hV.sliced;obtain⟨a,d,f,B⟩:=c;simp only at r;subst r;have u:=ab (x7 12 t hW);simp only[VC.val];go_enter Tryz.func66,Tryz.ntmps66;go_wp2_with fail
 have z:Hi (WB ((w.alloc (.cells #[.pointer (some a),.int .i64 d,.string (ba f),.slice o n j] 133)).alloc (.cells Tryz.zeroCells180 180)) (w.heap.size+1) []):=by
  have:=WB.start (w.alloc (.cells #[.pointer (some a),.int .i64 d,.string (ba f),.slice o n j] 133))
  show WB _ _ _;simpa using this
 have l:Hi (VR ((w.alloc (.cells #[.pointer (some a),.int .i64 d,.string (ba f),.slice o n j] 133)).alloc (.cells Tryz.zeroCells180 180)) (One (w.heap.size+1)) ⟨a,d,f,.slice o n j⟩ v) :=
  ((hV.aY (Y:=fun b=>w.heap.size<=b) (fun b hb hx=>by omega)).ae ((Fr.alloc _ _ _).trans (Fr.alloc _ _ _))).aY (fun b _ hx=>by have A:b=w.heap.size+1:=hx;omega)
 refine Calls.mono (R:=fun e w'=>cS ((w.alloc (.cells #[.pointer (some a),.int .i64 d,.string (ba f),.slice o n j] 133)).alloc (.cells Tryz.zeroCells180 180)) (w.heap.size+1) ([]++aG 12 v) e w') (u.o _ (w.heap.size+1) ⟨a,d,f,.slice o n j⟩ v [] z l bN (by have:=hl;simpa using this) ⟨_,_,_,rfl⟩) ?_;rintro e s ⟨rfl,ao,h⟩;have m:Hi (Fr Zero w s):=((Fr.alloc Zero _ _).trans (Fr.alloc _ _ _)).past (ao.mono (fun k _ e=>by have A:k=w.heap.size+1:=e;omega));have p:Hi (WB s (w.heap.size+1) (aG 12 v)):=h;go_wp2_with fail;refine(tL _ (w.heap.size+1) (aG 12 v) p).mono ?_;rintro e C ⟨i,rfl⟩;have q:=ab (m.o.trans i);go_wp2_with fail;go_ret2;exact⟨q,rfl⟩
def gm(_s value:ByteArray)(r:Option PV×Bs):ByteArray×Nat×Nat :=
 match r with
 |(some v,[])=>if(aG 12 v).length<=1000 then(ba (aG 12 v),0,0) else(⟨#[]⟩,1,0)
 |(_,r')=>(⟨#[]⟩,5,pos value r')
def jM(w:World)(x:ByteArray×Nat×Nat)(e:Ending)(w':World):Prop :=
 Fr Zero w w'/\e=.returned (.tuple #[.string x.1,.int .i64 x.2.1,.int .i64 x.2.2])
theorem uG{value:ByteArray}{r:Option PV×Bs}(h:¬∃ v,r=(some v,[])):gm s value r=(⟨#[]⟩,5,pos value r.2):=by
 unfold gm;rcases r with⟨_|v,_|⟨b,l⟩⟩
 ·rfl
 ·rfl
 ·exact absurd ⟨v,rfl⟩ h
 ·rfl
theorem Ek(s:ByteArray)(w:World)(a:Addr)(t:PT)(value:ByteArray)(ht:TR w Zero a t)(hW:c8 12 t)(hv:value.size<=140737488355328):
  Calls Tryz.prog 47 #[.pointer (some a),.string value] w fun e w'=>jM w (gm s value (ay 12 t value.data.toList)) e w':=by
 go_enter Tryz.func47,Tryz.ntmps47;go_wp2_with fail;refine(uB _ a t value ht hW (by unfold maxLen;omega)).mono ?_;rcases hq:ay 12 t value.data.toList with⟨q,r⟩;have x:Hi (gm s value (ay 12 t value.data.toList)=gm s value (q,r)):=ab (by rw[hq]);rintro e J ⟨ao,E⟩;rcases E with⟨v,⟨F,G,H,I⟩,B,⟨o,n,k,i⟩,rfl,j⟩|⟨dH,rfl⟩
 ·simp only at i;subst i;simp only[Prod.mk.injEq] at B;obtain⟨rfl,rfl⟩:=B;obtain⟨b,l⟩:=oR 12 t _ _ _ hW hq;have aX:=z8 12 t v hW b
  have y:(aw 12 v).length=value.size:=by
   have:=congrArg List.length l
   rw[Array.length_toList,List.length_append] at this;simp at this;exact this.symm
  have z:Hi ((aG 12 v).length<=100000000000000000):=by show _<=_;omega
  have p:Hi (gm s value (some v,[])=if yZ (aG 12 v)=true then(BD (aG 12 v),0,0) else(⟨#[]⟩,1,0)):=by
   show _=_;unfold gm yZ BD
   by_cases h:(aG 12 v).length<=1000
   ·simp[h]
   ·simp[h]
  simp only[VC.val];go_wp2_with fail;refine(wX _ ⟨F,G,H,.slice o n k⟩ v t (j.ae (Fr.alloc _ _ _)) hW b z).mono ?_;rintro e K ⟨m,rfl⟩;have g:=ab (ao.trans ((Fr.alloc _ _ _).trans m));rcases hb:yZ (aG 12 v) with _|_
  ·rw[hb] at p;go_wp2;go_ret3;rw[x.o,p.o];exact⟨g,rfl⟩
  ·rw[hb] at p;go_wp2;go_ret3;rw[x.o,p.o];exact⟨g,rfl⟩
 ·have D:=ab (uG (s:=s) (value:=value) dH);go_wp2;go_ret3;rw[x.o,D.o];exact⟨ao.trans (Fr.alloc _ _ _),rfl⟩
theorem CN{ty:TypeId}{a r:Bs}(h:RB ty w rb s l)(hl:l=a++r)(hs:s.size<=maxLen)(k:Int)(hk:k=a.length):
  Calls Tryz.prog 168 #[.pointer (some ⟨rb,0,none⟩),.int .i64 k] w fun e w'=>e=.returned (.tuple #[])/\RB ty w' rb s r/\Fr (One rb) w w':=by
 subst hl;exact pK h hs k hk
theorem jZ{ty:TypeId}(c:Nat)(hc:c<=300)(h:RB ty w rb s l)(hs:s.size<=maxLen):
  Calls Tryz.prog 172 #[.pointer (some ⟨rb,0,none⟩),.int .i64 c] w fun e w'=>Fr (One rb) w w'/\RB ty w' rb s (bw c l).2/\e=.returned (.tuple #[.string (ba ((bw c l).1.getD [])),.bool (bw c l).1.isSome]):=by
 have j:=ab h;have A:=h.cE;have k9:=h.len;have v:=ab h.tail;have B:((s.size:Nat):Int)-((pos s l:Nat):Int)=((l.length:Nat):Int):=by unfold pos;omega
 have k:=hs;unfold maxLen at k;clear h
 by_cases g:l.length<c
 ·have x:(l.length:Int)<(c:Int):=by omega
  have m:Hi (bw c l=(none,[])):=by show bw c l=_;unfold bw;rw[if_pos g]
  go_enter Tryz.func172,Tryz.ntmps172;go_wp2_with fail;refine(AL j).mono ?_;rintro e y ⟨rfl,t⟩;obtain rfl:=t.symm;go_wp2_with fail;refine(CN (a:=l) (r:=[]) j (by simp) hs _ rfl).mono ?_;rintro e z ⟨rfl,(d:Hi _),(f:Hi _)⟩;go_wp2_with fail;go_ret2;rw[m.o];exact⟨f,d,rfl⟩
 ·have x:¬(l.length:Int)<(c:Int):=by omega
  have m:Hi (bw c l=(some (l.take c),l.drop c)):=by show bw c l=_;unfold bw;rw[if_neg g]
  have b:Hi (l=l.take c++l.drop c):=(List.take_append_drop c l).symm;have n:Hi ((l.take c).length=c):=ab (by rw[List.length_take];omega);go_enter Tryz.func172,Tryz.ntmps172;go_wp2_with fail;refine(AL j).mono ?_;rintro e y ⟨rfl,t⟩;obtain rfl:=t.symm;go_wp2_with fail;refine(CN (a:=l.take c) (r:=l.drop c) j b hs _ (by rw[n.o])).mono ?_;rintro e z ⟨rfl,(d:Hi _),(f:Hi _)⟩;go_wp2_with fail;have p:=oj (got:=l.take c) d.o hs (by rw[<-b.o];exact k9) (by rw[<-b.o];exact v);rw[<-b.o] at p;refine p.mono ?_;rintro e C ⟨rfl,(u:Hi _),i⟩;have q:=ab (f.o.trans i);clear i p;go_wp2_with fail;go_ret2;rw[m.o];exact⟨q,u,rfl⟩
theorem oz(A B k:Nat)(hA:A<2^k)(hB:2^k*B+A<9223372036854775808):bits .or .i64 (A:Int) ((2^k*B:Nat):Int)=((A+2^k*B:Nat):Int):=by
 show IntKind.i64.wrap ((BitVec.ofInt 64 (A:Int) ||| BitVec.ofInt 64 ((2^k*B:Nat):Int)).toNat:Int)=_;rw[BitVec.toNat_or,ofInt_u64 A (by omega),ofInt_u64 (2^k*B) (by omega),Nat.or_comm,<-Nat.two_pow_add_eq_or_of_lt hA B,IntKind.wrap_i64];omega
theorem FH(x:Int)(b:Nat)(hb:b<256)(hx:x%256=0)(h1:-9223372036854775808<=x)(h2:x<=9223372036854775807):bits .or .i64 x (b:Int)=x+b:=by
 show IntKind.i64.wrap ((BitVec.ofInt 64 x ||| BitVec.ofInt 64 (b:Int)).toNat:Int)=_;have e:(BitVec.ofInt 64 x).toNat=(x%18446744073709551616).toNat:=by simp[BitVec.toNat_ofInt]
 obtain⟨q,a⟩:∃ q,(x%18446744073709551616).toNat=2^8*q:=⟨(x%18446744073709551616).toNat/256,by omega⟩;rw[BitVec.toNat_or,ofInt_u64 b (by omega),e,a,<-Nat.two_pow_add_eq_or_of_lt (by omega) q,IntKind.wrap_i64];omega
theorem qD:∀(x:Bs) (y:UInt8),cC (x++[y])=cC x+256^x.length*y.toNat:=by
 intro x y
 induction x with
 | nil=>simp[cC]
 | cons z x ihx =>
  simp only[List.cons_append,cC,ihx,List.length_cons,Nat.pow_succ];rw[Nat.mul_add,Nat.add_assoc,<-Nat.mul_assoc,Nat.mul_comm 256 (256^x.length)]
theorem lA{ty:TypeId}(c:Nat)(hc:c<=4)(h:RB ty w rb s l)(hs:s.size<=maxLen):
  Calls Tryz.prog 137 #[.pointer (some ⟨rb,0,none⟩),.int .i64 c] w fun e w'=>eD ty w rb s ((bw c l).1.map (fun b=>(cC b:Int)),(bw c l).2) e w':=by
 have z:=ab h;clear h;go_enter Tryz.func137,Tryz.ntmps137;go_wp2_with fail;refine(jZ c (by omega) z hs).mono ?_;rintro e I ⟨(v:Hi _),(y:Hi _),rfl⟩;obtain⟨b,p⟩:∃ b,b=(bw c l).1.getD []:=⟨_,rfl⟩
 have A:Hi (∀ x,(bw c l).1.map (fun b=>(cC b:Int))=some x->(cC b:Int)=x):=fun x i=>by
  simp only[Option.map_eq_some_iff] at i;obtain⟨F,G,rfl⟩:=i;rw[p,G];rfl
 have B:b.length<=4:=by
  rw[p];rcases n:bw c l with⟨_|F,r⟩
  ·simp
  ·simp;have:=(jg n).1;omega
 rw[<-p];have dJ:=aI b;generalize n:(bw c l).1.isSome=q at *;have C:=ab n;clear p n;go_wp2_with fail
 go_loopw [8,20] (fun nv iv wr=>∃ k:Nat,k<=b.length/\iv=.int .i64 k/\nv=.int .i64 (cC (b.take k))/\Hi (RB ty wr rb s (bw c l).2)/\Hi (Fr (One rb) w wr)) (fun _ iv _=>b.length-(intOf iv).toNat)
 case atStart=>exact⟨0,by omega,rfl,rfl,y,v⟩
 case round =>
  obtain⟨k,J,rfl,rfl,a,m⟩:=hrel
  by_cases t:k<b.length
  ·obtain⟨x,i⟩:∃ x,b[k]?=some x:=⟨b[k],by simp⟩;obtain⟨K,L⟩:=lI i;have D:(k:Int)<(b.length:Int):=by omega
   have j:Hi (cC (b.take (k+1))=cC (b.take k)+256^k*x.toNat):=by
    show _=_;obtain⟨_,H⟩:=List.getElem?_eq_some_iff.1 i;rw[List.take_succ_eq_append_getElem t,H,qD,List.length_take,Nat.min_eq_left (by omega)]
   have d:=nH (b.take k);rw[List.length_take,Nat.min_eq_left (by omega)] at d;have E:=x.toNat_lt;clear i;obtain rfl|rfl|rfl|rfl:k=0\/k=1\/k=2\/k=3:=by omega
   all_goals
    generalize cC (b.take _)=N at d j ⊢;simp only[Nat.reducePow] at d
   ·have f:bits BinOp.or IntKind.i64 (N:Int) ((x.toNat:Int))=((N+1*x.toNat:Nat):Int):=by
     have:=oz N x.toNat 0 (by omega) (by omega)
     rw[<-this]
     congr 1
     omega
    have g:IntKind.i64.wrap 0=0:=by decide +kernel
    go_wp2_with fail;exact⟨⟨1,by omega,by go_num,by rw[j.o];go_num,a,m⟩,by simp[intOf];omega⟩
   ·have f:bits BinOp.or IntKind.i64 (N:Int) ((x.toNat:Int)*256)=((N+256*x.toNat:Nat):Int):=by
     have:=oz N x.toNat 8 (by omega) (by omega)
     rw[<-this]
     congr 1
     omega
    have g:IntKind.i64.wrap 8=8:=by decide +kernel
    go_wp2_with fail;exact⟨⟨2,by omega,by go_num,by rw[j.o];go_num,a,m⟩,by simp[intOf];omega⟩
   ·have f:bits BinOp.or IntKind.i64 (N:Int) ((x.toNat:Int)*65536)=((N+65536*x.toNat:Nat):Int):=by
     have:=oz N x.toNat 16 (by omega) (by omega)
     rw[<-this]
     congr 1
     omega
    have g:IntKind.i64.wrap 16=16:=by decide +kernel
    go_wp2_with fail;exact⟨⟨3,by omega,by go_num,by rw[j.o];go_num,a,m⟩,by simp[intOf];omega⟩
   ·have f:bits BinOp.or IntKind.i64 (N:Int) ((x.toNat:Int)*16777216)=((N+16777216*x.toNat:Nat):Int):=by
     have:=oz N x.toNat 24 (by omega) (by omega)
     rw[<-this]
     congr 1
     omega
    have g:IntKind.i64.wrap 24=24:=by decide +kernel
    go_wp2_with fail;exact⟨⟨4,by omega,by go_num,by rw[j.o];go_num,a,m⟩,by simp[intOf];omega⟩
  ·have u:k=b.length:=by omega
   subst u;have D:¬(b.length:Int)<(b.length:Int):=by omega
   go_wp2_with fail;go_ret2;refine⟨m,a,cC b,?_,A⟩;simp only[Option.isSome_map];rw[C.o];rfl
theorem qN(x:Bs)(y:UInt8):fp (x++[y])=fp x*256+y.toNat:=by simp[fp,List.foldl_append]
theorem Ez(x:Bs):fp x<256^x.length:=by
 rw[lH]
 have:=nH x.reverse
 rw[List.length_reverse] at this;exact this
theorem FG(N:Nat)(b:Nat)(hb:b<256)(hN:N<72057594037927936):bits .or .i64 (wrap64 ((N:Int)*256)) (b:Int)=toInt64 (N*256+b):=by
 unfold wrap64;rw[FH _ b hb (by omega) (by omega) (by omega)];unfold toInt64
 split<;>omega
theorem uy{ty:TypeId}(h:RB ty w rb s l)(hs:s.size<=maxLen):
  Calls Tryz.prog 138 #[.pointer (some ⟨rb,0,none⟩),.int .i64 8] w fun e w'=>eD ty w rb s ((bw 8 l).1.map (fun b=>toInt64 (fp b)),(bw 8 l).2) e w':=by
 have z:=ab h;clear h;go_enter Tryz.func138,Tryz.ntmps138;go_wp2_with fail;refine(jZ 8 (by omega) z hs).mono ?_;rintro e H ⟨(p:Hi _),(t:Hi _),rfl⟩;obtain⟨b,i⟩:∃ b,b=(bw 8 l).1.getD []:=⟨_,rfl⟩
 have A:Hi (∀ x,(bw 8 l).1.map (fun b=>toInt64 (fp b))=some x->toInt64 (fp b)=x):=fun x a=>by
  simp only[Option.map_eq_some_iff] at a;obtain⟨F,g,rfl⟩:=a;rw[i,g];rfl
 have B:b.length<=8:=by
  rw[i];rcases f:bw 8 l with⟨_|F,r⟩
  ·simp
  ·simp;have:=(jg f).1;omega
 rw[<-i];have dJ:=aI b;generalize f:(bw 8 l).1.isSome=q at *;have C:=ab f;clear i f;go_wp2_with fail
 go_loopw [8,20] (fun nv iv wr=>∃ k:Nat,k<=b.length/\iv=.int .i64 k/\nv=.int .i64 (toInt64 (fp (b.take k)))/\Hi (RB ty wr rb s (bw 8 l).2)/\Hi (Fr (One rb) w wr)) (fun _ iv _=>b.length-(intOf iv).toNat)
 case atStart=>exact⟨0,by omega,rfl,rfl,t,p⟩
 case round =>
  obtain⟨k,I,rfl,rfl,d,y⟩:=hrel
  by_cases j:k<b.length
  ·obtain⟨x,a⟩:∃ x,b[k]?=some x:=⟨b[k],by simp⟩;obtain⟨J,K⟩:=lI a;have D:(k:Int)<(b.length:Int):=by omega
   have u:Hi (fp (b.take (k+1))=fp (b.take k)*256+x.toNat):=by
    show _=_;obtain⟨_,G⟩:=List.getElem?_eq_some_iff.1 a;rw[List.take_succ_eq_append_getElem j,G,qN]
   have c:fp (b.take k)<72057594037927936:=by
    have g:=Ez (b.take k);rw[List.length_take,Nat.min_eq_left (by omega)] at g
    exact Nat.lt_of_lt_of_le g (by
     have:256^k<=256^7:=Nat.pow_le_pow_right (by omega) (by omega)
     exact this)
   have m:=x.toNat_lt;clear a;generalize fp (b.take k)=N at c u ⊢;have v:toInt64 N=(N:Int):=by unfold toInt64;rw[if_pos (by omega)]
   rw[v];have E:=FG N x.toNat m c;clear v;go_wp2_with fail;exact⟨⟨k+1,by omega,by go_num,by rw[u.o],d,y⟩,by simp[intOf];omega⟩
  ·have n:k=b.length:=by omega
   subst n;have D:¬(b.length:Int)<(b.length:Int):=by omega
   go_wp2_with fail;go_ret2;refine⟨y,d,toInt64 (fp b),?_,A⟩;simp only[Option.isSome_map];rw[C.o];rfl
theorem oH{ty:TypeId}(c:Nat)(qU:0<c)(hc:c<=6)(h:RB ty w rb s l)(hs:s.size<=maxLen):
  Calls Tryz.prog 139 #[.pointer (some ⟨rb,0,none⟩),.int .i64 c] w fun e w'=>eD ty w rb s ((aK c l).1.map Int.ofNat,(aK c l).2) e w':=by
 have k:=ab h;clear h
 by_cases g:∃ b r,l=b::r/\b.toNat<c
 ·obtain⟨b,r,rfl,j⟩:=g;have i:Hi (aK c (b::r)=(some b.toNat,r)):=ab (by simp only[aK];rw[if_pos j]);go_enter Tryz.func139,Tryz.ntmps139;go_wp2_with fail;refine(nd k hs 0 _ (by omega) (by omega)).mono ?_;rintro e m ⟨rfl,(a:Hi _),(d:Hi _)⟩;go_wp2_with fail;go_ret2;rw[i.o];exact⟨d,a,b.toNat,rfl,fun x hx=>by simp at hx;subst hx;rfl⟩
 ·have i:Hi (aK c l=(none,l)):=by
   show _=_;cases l with
   | nil=>rfl
   | cons b r=>simp only[aK];rw[if_neg (fun h=>g ⟨b,r,rfl,h⟩)]
  have dH:∀ b r,l=b::r->(b.toNat:Int)<0\/((c:Int)-1)<(b.toNat:Int):=fun b r e=>by
   by_cases j:b.toNat<c
   ·exact(g ⟨b,r,e,j⟩).elim
   ·omega
  have f:=ab dH;clear g dH;go_enter Tryz.func139,Tryz.ntmps139;go_wp2_with fail;refine(om k hs 0 _ (by first|exact f.o|(intro b r e;have:=f.o b r e;omega))).mono ?_;rintro e m ⟨rfl,(a:Hi _),(d:Hi _)⟩;go_wp2_with fail;go_ret2;rw[i.o];exact⟨d,a,0,rfl,fun x hx=>by simp at hx⟩
theorem EK:∀ n,n<256->bits BinOp.and IntKind.u8 (n:Nat) 127=((n%128:Nat):Int):=by decide +kernel
theorem or_zero(m:Nat)(h:m<1000):bits BinOp.or IntKind.i64 0 (m:Int)=(m:Int):=by
 have:=oz 0 m 0 (by omega) (by omega)
 simpa using this
theorem wO(m c:Nat)(h:m<128)(hc:c<256):bits BinOp.or IntKind.i64 (m:Int) ((c:Int)*128)=((m+128*c:Nat):Int):=by
 have:=oz m c 7 (by omega) (by omega)
 rw[<-show((2^7*c:Nat):Int)=(c:Int)*128 by omega];exact this
def Cd(b:Nat):Bs->Option Nat×Bs
 | []=>(none,[])
 | c::l'=>if c.toNat=0\/300<b-128+128*c.toNat then(none,c::l') else(some (b-128+128*c.toNat),l')
theorem zc(b:UInt8)(r:Bs)(h:¬b.toNat<=127):bj (b::r)=Cd b.toNat r:=by
 simp only[bj];rw[if_neg h];cases r<;>rfl
theorem iY{ty:TypeId}(h:RB ty w rb s l)(hs:s.size<=maxLen):
  Calls Tryz.prog 174 #[.pointer (some ⟨rb,0,none⟩)] w fun e w'=>Fr (One rb) w w'/\RB ty w' rb s (bj l).2/\∃ m:Nat,e=.returned (.tuple #[.int .i64 m,.bool (bj l).1.isSome])/\(∀ x,(bj l).1=some x->m=x):=by
 have I:=ab h;clear h;rcases l with _|⟨b,r⟩
 ·go_enter Tryz.func174,Tryz.ntmps174;go_wp2_with fail;refine wp_loop_rounds 1 ?_;rw[rounds_succ];go_wp2_with fail;refine(lj I hs).mono ?_;rintro e O ⟨rfl,(f:Hi _),(g:Hi _)⟩;go_wp2_with fail;go_ret2;exact⟨g,f,0,rfl,fun x hx=>by cases hx⟩
 ·have T:=b.toNat_lt;have v:=EK b.toNat T;have y:=or_zero (b.toNat%128) (by omega)
  by_cases bZ:b.toNat<=127
  ·have u:Hi (bj (b::r)=(some b.toNat,r)):=ab (by simp only[bj];rw[if_pos bZ]);have B:¬(127:Int)<(b.toNat:Int):=by omega
   have K:decide ((127:Int)<(b.toNat:Int))=false:=decide_eq_false B;have C:b.toNat%128=b.toNat:=by omega
   rw[C] at v y;clear C
   by_cases D:b.toNat=0
   ·have z:((b.toNat:Int)==0)=true:=beq_iff_eq.2 (by omega);have L:(b.toNat:Int)=0:=by omega
    have U:bits BinOp.and IntKind.u8 0 127=0:=by decide +kernel
    have V:bits BinOp.or IntKind.i64 0 0=0:=by decide +kernel
    have W:=ab D;clear D v y;go_enter Tryz.func174,Tryz.ntmps174;go_wp2_with fail;refine wp_loop_rounds 1 ?_;rw[rounds_succ];go_wp2_with fail;refine(fX I hs).mono ?_;rintro e O ⟨rfl,(f:Hi _),(g:Hi _)⟩;have J:¬(300:Int)<(b.toNat:Int):=by omega
    go_wp2_with fail;refine(pK (a:=[b]) f hs 1 rfl).mono ?_;rintro e S ⟨rfl,(k:Hi _),ao⟩;have i:=ab (g.o.trans ao);clear ao;go_wp2_with fail;go_ret2;rw[u.o];exact⟨i,k,0,rfl,fun x hx=>by simp at hx;have:=W.o;omega⟩
   ·have z:((b.toNat:Int)==0)=false:=beq_eq_false_iff_ne.2 (by omega);go_enter Tryz.func174,Tryz.ntmps174;go_wp2_with fail;refine wp_loop_rounds 1 ?_;rw[rounds_succ];go_wp2_with fail;refine(fX I hs).mono ?_;rintro e O ⟨rfl,(f:Hi _),(g:Hi _)⟩;have J:¬(300:Int)<(b.toNat:Int):=by omega
    go_wp2_with fail;refine(pK (a:=[b]) f hs 1 rfl).mono ?_;rintro e S ⟨rfl,(k:Hi _),ao⟩;have i:=ab (g.o.trans ao);clear ao;go_wp2_with fail;go_ret2;rw[u.o];exact⟨i,k,b.toNat,rfl,fun x hx=>by simp at hx;exact hx⟩
  ·have B:(127:Int)<(b.toNat:Int):=by omega
   have Q:((b.toNat:Int)==0)=false:=beq_eq_false_iff_ne.2 (by omega);have p:Hi (bj (b::r)=Cd b.toNat r):=zc b r bZ;obtain⟨m,C⟩:∃ m,m=b.toNat%128:=⟨_,rfl⟩;have E:m=b.toNat-128:=by omega
   rw[<-C] at v y;have q:m<128:=by omega
   have A:=ab E;clear C E;go_enter Tryz.func174,Tryz.ntmps174;go_wp2_with fail;refine wp_loop_rounds 2 ?_;rw[rounds_succ];go_wp2_with fail;refine(fX I hs).mono ?_;rintro e O ⟨rfl,(f:Hi _),(g:Hi _)⟩;have J:¬(300:Int)<(m:Int)+128:=by omega
   go_wp2_with fail;refine(pK (a:=[b]) f hs 1 rfl).mono ?_;rintro e S ⟨rfl,(k:Hi _),ao⟩;have i:=ab (g.o.trans ao);clear ao v y B J;go_wp2_with fail;rw[rounds_succ];go_wp2_with fail;rcases r with _|⟨c,r⟩
   ·refine(lj k hs).mono ?_;rintro e Y ⟨rfl,(n:Hi _),t⟩;have j:=ab (i.o.trans t);clear t;go_wp2_with fail;go_ret2;rw[p.o];exact⟨j,n,0,rfl,fun x hx=>by cases hx⟩
   ·have R:=c.toNat_lt;refine(fX k hs).mono ?_;rintro e Y ⟨rfl,(n:Hi _),t⟩;have j:=ab (i.o.trans t);clear t
    by_cases D:c.toNat=0
    ·have u:Hi (bj (b::c::r)=(none,c::r)):=p.o.trans (by simp only[Cd];rw[if_pos (.inl D)]);have z:((c.toNat:Int)==0)=true:=beq_iff_eq.2 (by omega);have L:(c.toNat:Int)=0:=by omega
     clear D;go_wp2_with fail;go_ret2;rw[u.o];exact⟨j,n,0,rfl,fun x hx=>by cases hx⟩
    ·have z:((c.toNat:Int)==0)=false:=beq_eq_false_iff_ne.2 (by omega);have v:=EK c.toNat R
     by_cases X:c.toNat<=127
     ·have B:¬(127:Int)<(c.toNat:Int):=by omega
      have K:decide ((127:Int)<(c.toNat:Int))=false:=decide_eq_false B;have e:c.toNat%128=c.toNat:=by omega
      rw[e] at v;have y:=wO m c.toNat q R;clear e
      by_cases J:300<m+128*c.toNat
      ·have u:Hi (bj (b::c::r)=(none,c::r)):=p.o.trans (by simp only[Cd];rw[if_pos (.inr (by have:=A.o;omega))]);have F:(300:Int)<((m+128*c.toNat:Nat):Int):=by omega
       have G:(300:Int)<(m:Int)+128*(c.toNat:Int):=by omega
       go_wp2_with fail;go_ret2;rw[u.o];exact⟨j,n,0,rfl,fun x hx=>by cases hx⟩
      ·have u:Hi (bj (b::c::r)=(some (m+128*c.toNat),r)):=p.o.trans (by simp only[Cd];rw[if_neg (by have:=A.o;omega),A.o]);have F:¬(300:Int)<((m+128*c.toNat:Nat):Int):=by omega
       have G:¬(300:Int)<(m:Int)+128*(c.toNat:Int):=by omega
       go_wp2_with fail;refine(pK (a:=[c]) n hs 1 rfl).mono ?_;rintro e Z ⟨rfl,(P:Hi _),H⟩;have M:=ab (j.o.trans H);clear H;go_wp2_with fail;go_ret2;rw[u.o];refine⟨M,P,m+128*c.toNat,?_,fun x hx=>by simp at hx;exact hx⟩
       first|rfl|(simp;done)
     ·have B:(127:Int)<(c.toNat:Int):=by omega
      have u:Hi (bj (b::c::r)=(none,c::r)):=p.o.trans (by simp only[Cd];rw[if_pos (.inr (by omega))]);have y:=wO m (c.toNat%128) q (by omega);obtain⟨d,hd⟩:∃ d,d=c.toNat%128:=⟨_,rfl⟩;rw[<-hd] at v y;have N:d<128:=by omega
      clear hd;have F:(300:Int)<((m+128*d:Nat):Int)+16384:=by omega
      have G:(300:Int)<(m:Int)+128*(d:Int)+16384:=by omega
      go_wp2_with fail;go_ret2;rw[u.o];exact⟨j,n,0,rfl,fun x hx=>by cases hx⟩
theorem lZ{n:Nat}{r:Bs}(h:bj l=(some n,r)):n<=300:=(jF h).1
theorem zD{ty:TypeId}(h:RB ty w rb s l)(hs:s.size<=maxLen):
  Calls Tryz.prog 141 #[.pointer (some ⟨rb,0,none⟩)] w fun e w'=>pD ty w rb s (fS l) e w':=by
 have k:=ab h;clear h;go_enter Tryz.func141,Tryz.ntmps141;go_wp2_with fail;refine(iY k hs).mono ?_
 have c:Hi (fS l=match bj l with
  |(none,r)=>(none,r)
  |(some n,r)=>bw n r):=rfl
 rcases hq:bj l with⟨_|n,r⟩
 ·rw[hq] at c;rintro e q ⟨(a:Hi _),(b:Hi _),m,rfl,-⟩;have d:Hi (fS l=(none,r)):=c;clear hq c;go_wp2_with fail;go_ret2;rw[d.o];exact⟨a,b,⟨#[]⟩,rfl,fun x hx=>by cases hx⟩
 ·rw[hq] at c;have p:=lZ hq;rintro e q ⟨(a:Hi _),(b:Hi _),m,rfl,j⟩;have f:m=n:=j n rfl;subst f;have d:Hi (fS l=bw m r):=c;clear hq c j;go_wp2_with fail;refine(jZ m p b hs).mono ?_;rintro e t ⟨ao,(i:Hi _),rfl⟩;have g:=ab (a.o.trans ao);clear ao;go_wp2_with fail;go_ret2;rw[d.o];exact⟨g,i,_,rfl,fun x hx=>by rw[hx];rfl⟩
theorem AO{ty:TypeId}(h:RB ty w rb s l)(hs:s.size<=maxLen):
  Calls Tryz.prog 140 #[.pointer (some ⟨rb,0,none⟩)] w fun e w'=>pD ty w rb s (iq l) e w':=by
 have L:=ab h;clear h;go_enter Tryz.func140,Tryz.ntmps140;go_wp2_with fail;refine(iY L hs).mono ?_
 have t:Hi (iq l=match bj l with
  |(none,r)=>(none,r)
  |(some n,r)=>gY n [] r):=rfl
 rcases hq:bj l with⟨_|n,r⟩
 ·rw[hq] at t;rintro e P ⟨(p:Hi _),(c:Hi _),m,rfl,-⟩;have z:Hi (iq l=(none,r)):=t;clear hq t;go_wp2_with fail;go_ret2;rw[z.o];exact⟨p,c,⟨#[]⟩,rfl,fun x hx=>by cases hx⟩
 ·rw[hq] at t;have R:=lZ hq;rintro e P ⟨(p:Hi _),(c:Hi _),m,rfl,J⟩;have B:m=n:=J n rfl;subst B;have k9:=c.o.len;have M:=ab c.o.tail;have z:Hi (iq l=gY m [] r):=t;clear hq t J;go_wp2_with fail;refine(AL c).mono ?_;rintro e S ⟨rfl,Q⟩;obtain rfl:=Q.symm;go_wp2_with fail
  go_loopw [22] (fun iv wr=>∃(k:Nat) (got j:Bs),k<=m/\iv=.int .i64 k/\got.length=k/\r=got++j/\Hi (gY m [] r=gY (m-k) got j)/\Hi (RB ty wr rb s j)/\Hi (Fr (One rb) w wr)) (fun iv _=>m-(intOf iv).toNat)
  case atStart=>exact⟨0,[],r,by omega,rfl,rfl,rfl,rfl,c,p⟩
  case round =>
   obtain⟨k,got,j,T,rfl,H,mV,u,q,I⟩:=hrel;have i:=ab mV;clear mV
   by_cases N:k<m
   ·have O:(k:Int)<(m:Int):=by omega
    by_cases A:∃ b g,j=b::g/\32<=b.toNat/\b.toNat<=126
    ·obtain⟨b,g,rfl,C,D⟩:=A;have v:Hi (gY m [] r=gY (m-(k+1)) (got++[b]) g):=u.o.trans (by rw[show m-k=(m-(k+1))+1 by omega];simp only[gY];rw[if_pos ⟨C,D⟩]);clear u;go_wp2_with fail;refine(nd q hs 32 126 (by omega) (by omega)).mono ?_;rintro e K ⟨rfl,(f:Hi _),a⟩;have d:=ab (I.o.trans a);clear a;go_wp2_with fail;exact⟨⟨k+1,got++[b],g,by omega,by go_num,by simp[H],by rw[i.o];simp,v,f,d⟩,by simp[intOf];omega⟩
    ·have dH:∀ b g,j=b::g->(b.toNat:Int)<32\/(126:Int)<(b.toNat:Int):=fun b g e=>by
      by_cases C:32<=b.toNat
      ·by_cases D:b.toNat<=126
       ·exact(A ⟨b,g,e,C,D⟩).elim
       ·omega
      ·omega
     have E:=ab dH
     have v:Hi (gY m [] r=(none,j)):=u.o.trans (by
      rw[show m-k=(m-(k+1))+1 by omega];cases j with
      | nil=>rfl
      | cons b g=>simp only[gY];rw[if_neg (fun h=>A ⟨b,g,rfl,h⟩)])
     clear u A dH;go_wp2_with fail;refine(om q hs 32 126 E).mono ?_;rintro e K ⟨rfl,(f:Hi _),a⟩;have d:=ab (I.o.trans a);clear a;go_wp2_with fail;go_ret2;rw[z.o,v.o];exact⟨d,f,⟨#[]⟩,rfl,fun x hx=>by cases hx⟩
   ·have F:k=m:=by omega
    subst F;have O:¬(k:Int)<(k:Int):=by omega
    have v:Hi (gY k [] r=(some got,j)):=u.o.trans (by rw[Nat.sub_self];rfl);clear u;have G:=oj (got:=got) q.o hs (by rw[<-i.o];exact k9) (by rw[<-i.o];exact M);rw[<-i.o] at G;have y:=ab G;clear G;go_wp2_with fail;refine y.o.mono ?_;rintro e K ⟨rfl,(f:Hi _),a⟩;have d:=ab (I.o.trans a);clear a y;go_wp2_with fail;go_ret2;rw[z.o,v.o];exact⟨d,f,ba got,rfl,fun x hx=>by simp at hx;subst hx;rfl⟩
theorem nk{ty:TypeId}{rd:PT->Bs->Option PV×Bs}(N:Nat)(hN:N<=300)(hT:gW ty 98 rd t s)(h:RB ty w rb s l)(hX:X rb)(aH:∀ b,X b->b<w.heap.size)(ht:TR w X a t):
  Calls Tryz.prog 175 #[.pointer (some ⟨rb,0,none⟩),.int .i64 N,.pointer (some a)] w fun e w'=>fB ty w X rb s (bR (rd t) N [] l) e w':=by
 have HR:=ab h;have dG:=h.lt;have HT:=ab hT;have HX:=ab aH;have ah:=ab ht;clear h hT aH ht;go_enter Tryz.func175,Tryz.ntmps175;go_wp2_with fail
 go_loopw [8,12] (fun ev iv w2=>∃(k:Nat) (i:List PV) (d:List VC) (J:Bs),k<=N/\i.length=k/\iv=.int .i64 k/\Hi (bR (rd t) N [] l=bR (rd t) (N-k) i J)/\Hi (w2.ownsRow 0 133 4 ev d.length (cP d))/\Hi (∀ g,ev.ownBlock=some g->w.heap.size<=g) /\
    Hi (VL w2 (XO X ev) d i)/\Hi (RB ty w2 rb s J)/\Hi (Fr (One rb) w w2)) (fun _ iv _=>N-(intOf iv).toNat)
 case atStart=>exact⟨0,[],[],l,by omega,rfl,rfl,rfl,World.ownsRow_nil _ _ _ _,fun g hg=>by simp[Value.ownBlock] at hg,VL.nil _ _,HR,Fr.refl _ _⟩
 case round =>
  obtain⟨k,i,d,J,hk,P,rfl,HE,y,Q,C,K,j⟩:=hrel;have dK:Hi (d.length=i.length):=C.o.1;obtain⟨ea,p,rfl⟩:=dF y.o;have M:XO X (.slice ea d.length p) rb:=.inl hX
  have O:Hi (∀ g,(Value.slice ea d.length p).ownBlock=some g->¬One rb g):=fun g hg e=>by
   have e':g=rb:=e
   have:=Q.o g hg
   omega
  by_cases ap:k<N
  ·have hI:(k:Int)<(N:Int):=by omega
   have f:Hi (bR (rd t) N [] l=match rd t J with
     |(none,l1)=>(none,l1)
     |(some v,l1)=>bR (rd t) (N-(k+1)) (i++[v]) l1):=HE.o.trans (by rw[show N-k=(N-(k+1))+1 by omega];rfl)
   clear HE;go_wp2_with fail;refine(HT.o _ (XO X (.slice ea d.length p)) rb a J K M (XO.lt HX y j.o.size) (ah.o.past.open_ hX j Q)).mono ?_;rcases hq:rd t J with⟨_|v,r3⟩
   ·rw[hq] at f;clear hq;rintro e R ⟨S,(D:Hi _),⟨F,G,H,ao⟩,⟨o,n,m,z⟩,rfl,-⟩;simp only at z;subst z;have r:Hi (bR (rd t) N [] l=(none,r3)):=f;have u:=ab (j.o.trans S);clear S f;simp only[VC.val];go_wp2_with fail;go_ret2;rw[r.o];exact⟨u.o.trans (Fr.alloc _ _ _),D.o.ae (Fr.alloc Zero _ _) (fun h=>h),.slice none 0 0,⟨_,_,_,rfl⟩,rfl,fun x hx=>by cases hx⟩
   ·rw[hq] at f;clear hq;rintro e R ⟨(u:Hi _),(D:Hi _),⟨F,G,H,ao⟩,⟨o,n,m,z⟩,rfl,hv⟩;simp only at z;subst z;have r:Hi (bR (rd t) N [] l=bR (rd t) (N-(k+1)) (i++[v]) r3):=f;have HV:=ab (hv v rfl);clear hv f;simp only[VC.val];obtain⟨i0,hi,T,U,V⟩:=info_parts Tryz.vg
    go_wp2_with (at_builtin;refine az _ rfl _ _ 131 rfl 0 133 i0 (.agg #[.pointer none,.int .i64 0,.string ⟨#[]⟩,.slice none 0 0]) 4 56 Tryz.underlying131 hi T U V rfl (by decide) (.slice ea d.length p) d.length (cP d) rfl ?o1 ⟨R.heap.size+1,0,none⟩ 1 1 (by omega) [.pointer (some F),.int .i64 G,.string (ba H),.slice o n m] rfl rfl ?c1 ?c2 ?c3 ?c4 (Nat.zero_le _) ?_)
    case o1=>exact(ag y.o u O.o).alloc _ |>.alloc _
    case c2=>exact⟨rfl,rfl,rfl,rfl⟩
    case c3=>have:=dK.o;unfold maxLen;omega
    case c4=>have:=dK.o;omega
    intro v' w4 W Y g au Z aa;have A:Fr (One rb) wr ((R.alloc (.cells #[.pointer (some F),.int .i64 G,.string (ba H),.slice o n m] 133)).alloc (.cells #[.pointer (some F),.int .i64 G,.string (ba H),.slice o n m] 133)):=u.o.trans ((Fr.alloc _ _ _).trans (Fr.alloc _ _ _));have I:Fr Zero R ((R.alloc (.cells #[.pointer (some F),.int .i64 G,.string (ba H),.slice o n m] 133)).alloc (.cells #[.pointer (some F),.int .i64 G,.string (ba H),.slice o n m] 133)):=(Fr.alloc _ _ _).trans (Fr.alloc _ _ _);have dJ:=j.o.size;have E:=A.size;obtain⟨ac,ad,af,L,-⟩:=VL.grow (B:=w.heap.size) (c:=⟨F,G,H,.slice o n m⟩) (v:=v) Q (Nat.le_trans dJ E) (C.o.ae (A.mono (fun q _ e=>by have e':q=rb:=e;rw[e'];exact M))) (HV.o.ae I.dV) W Y ⟨g,au,Z,by simpa using aa⟩;have ai:=ab ((j.o.trans A).past L);have aj:=ab ((D.o.ae I (fun h=>h)).ae L (by omega));have ak:=ab ac;have al:=ab ad;have am:=ab af;subst Z;clear W Y aa A I ac ad af L hi T U V dJ E O y Q C D u HV j K;go_wp2_with fail
    go_roundw
    case rel=>exact⟨k+1,i++[v],d++[⟨F,G,H,.slice o n m⟩],r3,by omega,by simp[P],by go_num,r,al,am,ak,aj,ai⟩
    case measure=>simp[intOf];omega
  ·have an:k=N:=by omega
   subst an;have hI:¬(k:Int)<(k:Int):=by omega
   have r:Hi (bR (rd t) k [] l=(some i,J)):=HE.o.trans (by rw[Nat.sub_self];rfl);clear HE;go_wp2_with fail;go_ret2;rw[r.o];exact⟨j,K,_,⟨_,_,_,rfl⟩,rfl,fun x hx=>by simp at hx;subst hx;exact⟨_,y,Q,C⟩⟩
theorem fB.after{ty:TypeId}{w1 w':World}{lU:Option (List PV)×Bs}{e:Ending}(h:fB ty w1 X rb s lU e w')(hf:Fr (One rb) w w1):fB ty w X rb s lU e w':=by
 obtain⟨b,c,d,f,i,j⟩:=h;refine⟨hf.trans b,c,d,f,i,fun vs hv=>?_⟩;obtain⟨a,k,l,m⟩:=j vs hv;exact⟨a,k,fun g hg=>Nat.le_trans hf.size (l g hg),m⟩
theorem BJ{ty:TypeId}{rd:PT->Bs->Option PV×Bs}(hT:gW ty 98 rd t s)(h:RB ty w rb s l)(hX:X rb)(aH:∀ b,X b->b<w.heap.size)(ht:TR w X a t)(hs:s.size<=maxLen):
  Calls Tryz.prog 142 #[.pointer (some ⟨rb,0,none⟩),.pointer (some a)] w fun e w'=>fB ty w X rb s (ir (rd t) l) e w':=by
 have v:=ab h;have y:=ab hT;have z:=ab aH;have g:=ab ht;clear h hT aH ht;go_enter Tryz.func142,Tryz.ntmps142;go_wp2_with fail;refine(iY v hs).mono ?_
 have f:Hi (ir (rd t) l=match bj l with
  |(none,r)=>(none,r)
  |(some n,r)=>bR (rd t) n [] r):=rfl
 rcases hq:bj l with⟨_|n,r⟩
 ·rw[hq] at f;rintro e C ⟨(c:Hi _),(d:Hi _),m,rfl,-⟩;have i:Hi (ir (rd t) l=(none,r)):=f;clear hq f;go_wp2_with fail;go_ret2;rw[i.o];exact⟨c,d,.slice none 0 0,⟨_,_,_,rfl⟩,rfl,fun x hx=>by cases hx⟩
 ·rw[hq] at f;have A:n<=300:=lZ hq;rintro e C ⟨(c:Hi _),(d:Hi _),m,rfl,u⟩;have k:m=n:=u n rfl;subst k;clear hq u;go_wp2_with fail;refine(nk m A y d hX (fun b hb=>Nat.lt_of_lt_of_le (z.o b hb) c.o.size) (g.o.ae (c.o.one hX))).mono ?_;have i:Hi (ir (rd t) l=bR (rd t) m [] r):=f;clear f;intro e E p;obtain⟨F,⟨o,G,j,q⟩,D,-⟩:=p.2.2;subst q D;have B:=ab (p.after c.o);clear p;go_wp2_with fail;go_ret2;rw[i.o];exact B
theorem wP{ty:TypeId}{rd:PT->Bs->Option PV×Bs}(hT:gW ty 98 rd t s)(h:RB ty w rb s l)(hX:X rb)(aH:∀ b,X b->b<w.heap.size)(ht:TR w X a t)(hs:s.size<=maxLen):
  Calls Tryz.prog 143 #[.pointer (some ⟨rb,0,none⟩),.pointer (some a)] w fun e w'=>fB ty w X rb s (kZ (rd t) l) e w':=by
 have v:=ab h;have y:=ab hT;have z:=ab aH;have g:=ab ht;clear h hT aH ht;go_enter Tryz.func143,Tryz.ntmps143;go_wp2_with fail;refine(oH 2 (by omega) (by omega) v hs).mono ?_
 have f:Hi (kZ (rd t) l=match aK 2 l with
  |(none,r)=>(none,r)
  |(some n,r)=>bR (rd t) n [] r):=rfl
 rcases hq:aK 2 l with⟨_|n,r⟩
 ·rw[hq] at f;rintro e C ⟨(c:Hi _),(d:Hi _),m,rfl,-⟩;have i:Hi (kZ (rd t) l=(none,r)):=f;clear hq f;go_wp2_with fail;go_ret2;rw[i.o];exact⟨c,d,.slice none 0 0,⟨_,_,_,rfl⟩,rfl,fun x hx=>by cases hx⟩
 ·rw[hq] at f;have A:n<=300:=by have:=(iw hq).1;omega
  rintro e C ⟨(c:Hi _),(d:Hi _),m,rfl,u⟩;have k:m=(n:Int):=u n rfl;subst k;clear hq u;go_wp2_with fail;refine(nk n A y d hX (fun b hb=>Nat.lt_of_lt_of_le (z.o b hb) c.o.size) (g.o.ae (c.o.one hX))).mono ?_;have i:Hi (kZ (rd t) l=bR (rd t) n [] r):=f;clear f;intro e E p;obtain⟨F,⟨o,G,j,q⟩,D,-⟩:=p.2.2;subst q D;have B:=ab (p.after c.o);clear p;go_wp2_with fail;go_ret2;rw[i.o];exact B
theorem ur(rd:PT->Bs->Option PV×Bs)(t:PT)(ts:List PT)(acc:List PV)(l:Bs):cw rd (t::ts) acc l=match rd t l with
  |(none,l1)=>(none,l1)
  |(some v,l1)=>cw rd ts (acc++[v]) l1:=rfl
theorem vW{ty:TypeId}{subs:List PT}{rd:PT->Bs->Option PV×Bs}(pg fQ:Nat)(bY:List (ByteArray×Addr))
  (hT:∀ u∈subs,gW ty 98 rd u s) (h:RB ty w rb s l) (hX:X rb) (aH:∀ b,X b->b<w.heap.size)
  (hO:w.ownsRow 0 198 2 (.slice (some ⟨pg,0,none⟩) bY.length fQ) bY.length (aU bY)) (hpg:¬X pg) (aX:bY.length=subs.length) (h6:subs.length<=6)
  (htr:∀(j:Nat) (p:ByteArray×Addr) (u:PT),bY[j]?=some p->subs[j]?=some u->TR w X p.2 u) :
  Calls Tryz.prog 144 #[.pointer (some ⟨rb,0,none⟩),.slice (some ⟨pg,0,none⟩) bY.length fQ] w fun e w'=>fB ty w X rb s (cw rd subs [] l) e w':=by
 have HR:=ab h;have dG:=h.lt;have HT:=ab hT;have HX:=ab aH;have ap:=ab htr;have jq:pg<w.heap.size:=(hO.lt pg rfl).2;have T:¬One rb pg:=fun e=>by have S:pg=rb:=e;rw[S] at hpg;exact hpg hX
 have U:=ab T;have V:=ab hO;have t:=ab aX;clear h hT aH htr hO T hpg aX;go_enter Tryz.func144,Tryz.ntmps144;go_wp2_with fail
 go_loopw [6,13] (fun ev iv wr=>∃(k:Nat) (i:List PV) (d:List VC) (r:Bs),k<=subs.length/\i.length=k/\iv=.int .i64 k/\Hi (cw rd subs [] l=cw rd (subs.drop k) i r)/\Hi (wr.ownsRow 0 133 4 ev d.length (cP d))/\Hi (∀ g,ev.ownBlock=some g->w.heap.size<=g) /\
    Hi (VL wr (XO X ev) d i)/\Hi (RB ty wr rb s r)/\Hi (Fr (One rb) w wr)) (fun _ iv _=>subs.length-(intOf iv).toNat)
 case atStart=>exact⟨0,[],[],l,by omega,rfl,rfl,rfl,World.ownsRow_nil _ _ _ _,fun g hg=>by simp[Value.ownBlock] at hg,VL.nil _ _,HR,Fr.refl _ _⟩
 case round =>
  obtain⟨k,i,d,r,hk,aa,rfl,HE,HO,HG,G,Q,HF⟩:=hrel;have dK:Hi (d.length=i.length):=G.o.1;obtain⟨ea,y,rfl⟩:=dF HO.o;have M:XO X (.slice ea d.length y) rb:=.inl hX
  have N:Hi (∀ g,(Value.slice ea d.length y).ownBlock=some g->¬One rb g):=fun g hg e=>by
   have S:g=rb:=e
   have:=HG.o g hg
   omega
  by_cases aq:k<subs.length
  ·obtain⟨p,hp⟩:∃ p,bY[k]?=some p:=⟨bY[k]'(by have:=t.o;omega),by simp⟩;obtain⟨u,hu⟩:∃ u,subs[k]?=some u:=⟨subs[k],by simp⟩
   have qU:wr.cell? ⟨pg,k*2,none⟩=some (.string p.1):=by
    rw[HF.o.cell (a:=⟨pg,k*2,none⟩) jq U,V.o.cellAt (k*2) (by have:=t.o;omega)];exact(a8 bY k p hp).1
   have aF:wr.cell? ⟨pg,k*2+1,none⟩=some (.pointer (some p.2)):=by
    rw[HF.o.cell (a:=⟨pg,k*2+1,none⟩) jq U,V.o.cellAt (k*2+1) (by have:=t.o;omega)];exact(a8 bY k p hp).2
   have ar:Hi (TR w X p.2 u):=ap.o k p u hp hu;have av:Hi (gW ty 98 rd u s):=HT.o u (List.mem_of_getElem? hu)
   have aw:Hi (subs.drop k=u::subs.drop (k+1)):=by
    show _=_;obtain⟨_,he⟩:=List.getElem?_eq_some_iff.1 hu;rw[List.drop_eq_getElem_cons aq,he]
   have hI:(k:Int)<(bY.length:Int):=by have:=t.o;omega
   have f:Hi (cw rd subs [] l=match rd u r with
     |(none,l2)=>(none,l2)
     |(some v,l2)=>cw rd (subs.drop (k+1)) (i++[v]) l2):=HE.o.trans (by rw[aw.o,ur])
   clear hp hu HE;have z:=Fr.alloc (One rb) wr (.cells #[.string p.1,.pointer (some p.2)] 198);have A:=ab (HF.o.trans z);have O:=ab (ag HO.o z N.o);have W:=ab (G.o.ae (z.mono (Y:=XO X (.slice ea d.length y)) (fun q _ e=>by have S:q=rb:=e;rw[S];exact M)));have Z:=ab (Q.o.ae (Fr.alloc Zero wr (.cells #[.string p.1,.pointer (some p.2)] 198)) (fun h=>h));clear z HO G;go_wp2_with fail;refine(av.o _ (XO X (.slice ea d.length y)) rb p.2 r Z M (XO.lt HX O A.o.size) (ar.o.past.open_ hX A HG)).mono ?_;rcases hq:rd u r with⟨_|v,r3⟩
   ·rw[hq] at f;clear hq;rintro e w3 ⟨ac,(H:Hi _),⟨J,K,L,aE⟩,⟨o,n,m,E⟩,rfl,-⟩;simp only at E;subst E;have C:Hi (cw rd subs [] l=(none,r3)):=f;have D:=ab (A.o.trans ac);clear ac f;simp only[VC.val];go_wp2_with fail;go_ret2;rw[C.o];exact⟨D.o.trans (Fr.alloc _ _ _),H.o.ae (Fr.alloc Zero _ _) (fun h=>h),.slice none 0 0,⟨_,_,_,rfl⟩,rfl,fun x hx=>by cases hx⟩
   ·rw[hq] at f;clear hq;rintro e w3 ⟨(D:Hi _),(H:Hi _),⟨J,K,L,aE⟩,⟨o,n,m,E⟩,rfl,hv⟩;simp only at E;subst E;have C:Hi (cw rd subs [] l=cw rd (subs.drop (k+1)) (i++[v]) r3):=f;have HV:=ab (hv v rfl);clear hv f;simp only[VC.val];obtain⟨i0,hi,ad,af,ah⟩:=info_parts Tryz.vg
    go_wp2_with (at_builtin;refine az _ rfl _ _ 131 rfl 0 133 i0 (.agg #[.pointer none,.int .i64 0,.string ⟨#[]⟩,.slice none 0 0]) 4 56 Tryz.underlying131 hi ad af ah rfl (by decide) (.slice ea d.length y) d.length (cP d) rfl ?o1 ⟨w3.heap.size+1,0,none⟩ 1 1 (by omega) [.pointer (some J),.int .i64 K,.string (ba L),.slice o n m] rfl rfl ?c1 ?c2 ?c3 ?c4 (Nat.zero_le _) ?_)
    case o1=>exact(ag O.o D N.o).alloc _ |>.alloc _
    case c2=>exact⟨rfl,rfl,rfl,rfl⟩
    case c3=>have:=dK.o;unfold maxLen;omega
    case c4=>have:=dK.o;omega
    intro v' w4 ai aj g au ak al;have F:Fr (One rb) (wr.alloc (.cells #[.string p.1,.pointer (some p.2)] 198)) ((w3.alloc (.cells #[.pointer (some J),.int .i64 K,.string (ba L),.slice o n m] 133)).alloc (.cells #[.pointer (some J),.int .i64 K,.string (ba L),.slice o n m] 133)):=D.o.trans ((Fr.alloc _ _ _).trans (Fr.alloc _ _ _));have P:Fr Zero w3 ((w3.alloc (.cells #[.pointer (some J),.int .i64 K,.string (ba L),.slice o n m] 133)).alloc (.cells #[.pointer (some J),.int .i64 K,.string (ba L),.slice o n m] 133)):=(Fr.alloc _ _ _).trans (Fr.alloc _ _ _);have dJ:=A.o.size;have I:=F.size;obtain⟨am,an,ao,R,-⟩:=VL.grow (B:=w.heap.size) (c:=⟨J,K,L,.slice o n m⟩) (v:=v) HG (Nat.le_trans dJ I) (W.o.ae (F.mono (fun q _ e=>by have S:q=rb:=e;rw[S];exact M))) (HV.o.ae P.dV) ai aj ⟨g,au,ak,by simpa using al⟩;have ax:=ab ((A.o.trans F).past R);have ay:=ab ((H.o.ae P (fun h=>h)).ae R (by omega));have aA:=ab am;have aB:=ab an;have aC:=ab ao;subst ak;clear ai aj al F P am an ao R hi ad af ah dJ I N O HG W H D HV A Z Q HF;go_wp2_with fail
    go_roundw
    case rel=>exact⟨k+1,i++[v],d++[⟨J,K,L,.slice o n m⟩],r3,by omega,by simp[aa],by go_num,C,aB,aC,aA,ay,ax⟩
    case measure=>simp[intOf];omega
  ·have aD:k=subs.length:=by omega
   subst aD;have hI:¬(subs.length:Int)<(bY.length:Int):=by have:=t.o;omega
   have C:Hi (cw rd subs [] l=(some i,r)):=HE.o.trans (by rw[List.drop_length];rfl);clear HE;go_wp2_with fail;go_ret2;rw[C.o];exact⟨HF,Q,_,⟨_,_,_,rfl⟩,rfl,fun x hx=>by simp at hx;subst hx;exact⟨_,HO,HG,G⟩⟩
theorem xH{ty:TypeId}{rd:PT->Bs->Option PV×Bs}(pg fQ:Nat)(bY:List (ByteArray×Addr))
  (hT:∀ u∈t.subs,gW ty 98 rd u s) (h:RB ty w rb s l) (hX:X rb) (aH:∀ b,X b->b<w.heap.size)
  (hO:w.ownsRow 0 198 2 (.slice (some ⟨pg,0,none⟩) bY.length fQ) bY.length (aU bY)) (hpg:¬X pg) (aX:bY.length=t.subs.length) (h0:0<bY.length) (h6:bY.length<=6)
  (htr:∀(j:Nat) (p:ByteArray×Addr) (u:PT),bY[j]?=some p->t.subs[j]?=some u->TR w X p.2 u) (hs:s.size<=maxLen) :
  Calls Tryz.prog 145 #[.pointer (some ⟨rb,0,none⟩),.slice (some ⟨pg,0,none⟩) bY.length fQ] w fun e w'=>xV ty w X rb s (iu rd t l) e w':=by
 have Y:=ab h;have Z:=ab hT;have HX:=ab aH;have L:=ab htr;have jq:pg<w.heap.size:=(hO.lt pg rfl).2;have D:¬One rb pg:=fun e=>by have e':pg=rb:=e;rw[e'] at hpg;exact hpg hX
 have M:=ab D;have N:=ab hO;have E:=ab aX
 have B:Hi (iu rd t l=match aK bY.length l with
   |(none,f)=>(none,f)
   |(some i,f)=>((rd (t.sub i) f).1.map (fun v=>(i,v)),(rd (t.sub i) f).2)):=by show _=_;unfold iu;rw[aX];rfl
 clear h hT aH htr hO D hpg aX;go_enter Tryz.func145,Tryz.ntmps145;go_wp2_with fail;refine(oH bY.length h0 h6 Y hs).mono ?_;rcases A:aK bY.length l with⟨_|i,f⟩
 ·rw[A] at B;have K:Hi (iu rd t l=(none,f)):=B;clear A B;rintro e T ⟨(d:Hi _),(z:Hi _),n,rfl,-⟩;go_wp2_with fail;go_ret3;rw[K.o];exact⟨d,z,0,.slice none 0 0,⟨_,_,_,rfl⟩,rfl,fun i v hx=>by cases hx⟩
 ·rw[A] at B;have K:Hi (iu rd t l=((rd (t.sub i) f).1.map (fun v=>(i,v)),(rd (t.sub i) f).2)):=B;have aa:i<bY.length:=(iw A).1;clear A B;rintro e T ⟨(d:Hi _),(z:Hi _),n,rfl,U⟩;have O:n=i:=U i rfl;subst O;clear U;obtain⟨p,R⟩:∃ p,bY[i]?=some p:=⟨bY[i],by simp⟩;have F:i<t.subs.length:=by have:=E.o;omega
  have P:Hi (TR w X p.2 (t.sub i)):=L.o i p _ R (PT.cO F);have Q:Hi (gW ty 98 rd (t.sub i) s):=Z.o _ (List.mem_of_getElem? (PT.cO F))
  have ac:T.cell? ⟨pg,i*2+1,none⟩=some (.pointer (some p.2)):=by
   rw[d.o.cell (a:=⟨pg,i*2+1,none⟩) jq M,N.o.cellAt (i*2+1) (by omega)];exact(a8 bY i p R).2
  have ad:(i:Int)<(bY.length:Int):=by omega
  clear R;go_wp2_with fail;refine(Q.o _ X rb p.2 f z hX (fun b hb=>Nat.lt_of_lt_of_le (HX.o b hb) d.o.size) (P.o.ae (d.o.one hX))).mono ?_;rcases iD:rd (t.sub i) f with⟨q,r3⟩;rw[iD] at K;clear iD;rintro e C ⟨I,(S:Hi _),⟨k,r,x,ah⟩,⟨o,m,j,J⟩,rfl,V⟩;simp only at J;subst J;have HV:=ab V;have G:=ab (d.o.trans I);clear I V;simp only[VC.val];go_wp2_with fail
  go_region
  go_wp2_with fail;go_ret3;rw[K.o];have y:Fr Zero C (((C.alloc (.cells #[.pointer (some k),.int .i64 r,.string (ba x),.slice o m j] 133)).alloc (.cells #[.pointer (some k),.int .i64 r,.string (ba x),.slice o m j] 133)).drew):=(Fr.alloc _ _ _).trans ((Fr.alloc _ _ _).trans (Fr.drew _ _));refine⟨G.o.trans y.dV,S.o.ae y (fun h=>h),i,.slice (some ⟨C.heap.size+1,0,none⟩) 1 1,⟨_,_,_,rfl⟩,?_,fun i' v hx=>?_⟩
  ·have:(Option.map (fun v=>(i,v)) q).isSome=q.isSome:=by cases q<;>rfl
   simp only[this];rfl
  ·simp only[Option.map_eq_some_iff] at hx;obtain⟨v',A,W⟩:=hx;simp at W;obtain⟨rfl,rfl⟩:=W;have ag:=G.o.size;have H:(((C.alloc (.cells #[.pointer (some k),.int .i64 r,.string (ba x),.slice o m j] 133)).alloc (.cells #[.pointer (some k),.int .i64 r,.string (ba x),.slice o m j] 133)).drew).heap[C.heap.size+1]?=some (.cells #[.pointer (some k),.int .i64 r,.string (ba x),.slice o m j] 133 (0,0)):=af (w:=C.alloc (.cells #[.pointer (some k),.int .i64 r,.string (ba x),.slice o m j] 133)) (by simp) _;exact⟨rfl,[⟨k,r,x,.slice o m j⟩],ui (c:=⟨k,r,x,.slice o m j⟩) H,fun g hg=>by simp[Value.ownBlock] at hg;omega,VL.snoc (rows:=[]) (VL.nil _ _) ((HV.o v' A).past y (fun g hg=>by simp[Value.ownBlock] at hg;omega))⟩
theorem Da{ty:TypeId}(h:RB ty w rb s l)(hX:X rb)(aH:∀ b,X b->b<w.heap.size)(ht:TR w X a t)(hs:s.size<=maxLen)(hk:t.kind=0):
  Calls Tryz.prog 98 #[.pointer (some ⟨rb,0,none⟩),.pointer (some a)] w fun e w'=>cJ ty w X rb s ((bw (aT 0) l).1.map (fun b=>fY t (cC b)),(bw (aT 0) l).2) e w':=by
 have i:Hi (RB ty ((w.alloc bC).alloc (aR a)) rb s l):=h.ae ((Fr.alloc Zero _ _).trans (Fr.alloc _ _ _)) (fun h=>h);have dG:=h.lt;have I:=ab aH;have j:Hi (TR ((w.alloc bC).alloc (aR a)) (X2 X w.heap.size) a t):=ht.two ((Fr.alloc Zero _ _).trans (Fr.alloc _ _ _));obtain⟨g,R,A,rfl,c,n,aE,p,r,aX,f⟩:=ht.open;have J:=lt_of_heap c;have Q:w.cell? ⟨g,0,none⟩=some (.int .i64 0):=by rw[cell_of_heap c,hk];rfl
 clear h aH ht c n aE p r aX f hk;go_enter Tryz.func98,Tryz.ntmps98;go_wp2_with fail;refine(iM 0 (by omega) _).mono ?_;rintro e S ⟨rfl,O⟩;obtain rfl:=O.symm;go_wp2_with fail;refine(lA (aT 0) (by decide) i hs).mono ?_;rintro e B ⟨ao,(u:Hi _),m,rfl,C⟩;obtain⟨x,D⟩:=bA dG ao;obtain⟨T,U,V,W,Y,Z,y2,y3⟩:=dc x;obtain⟨v0,v1,v2,v3,x0,x1,x2,x3⟩:=dc D;have K:=ab x;have d:=ab ao;have L:=ab C;clear ao C x D;generalize y:(Option.map (fun b=>(cC b:Int)) (bw (aT 0) l).1).isSome=q at *;have M:=ab y;clear y;go_wp2_with fail;have z:Fr (One (w.heap.size+1)) B (B.setCell ⟨w.heap.size+1,1,none⟩ (.int .i64 m)):=Fr.setCell _ _ _ _ rfl;obtain⟨E,F,G,H⟩:=aW K.o z (⟨⟨g,0,none⟩,m,[],.slice none 0 0⟩:VC);simp only[ec,b9] at E F G H;refine bodyPost_ret (v:=.tuple #[VC.val (⟨⟨g,0,none⟩,m,[],.slice none 0 0⟩:VC),.bool q]) (by simp[results,Tryz.results98,go_sem,E,F,G,H,VC.val,b9]) rfl ?_;exact bS (⟨⟨g,0,none⟩,m,[],.slice none 0 0⟩:VC) dG I d u z ⟨_,_,_,rfl⟩ (fun v hx=>by simp only[Option.map_eq_some_iff] at hx;obtain⟨b,P,rfl⟩:=hx;rw[L.o (cC b) (by rw[P];rfl)];exact VR.leaf (j.o.ae (d.o.mono (fun k _ e=>.inl (by have N:k=rb:=e;rw[N];exact hX))))) (by rw[<-M.o];simp)
theorem C9{ty:TypeId}(h:RB ty w rb s l)(hX:X rb)(aH:∀ b,X b->b<w.heap.size)(ht:TR w X a t)(hs:s.size<=maxLen)(hk:t.kind=1):
  Calls Tryz.prog 98 #[.pointer (some ⟨rb,0,none⟩),.pointer (some a)] w fun e w'=>cJ ty w X rb s ((bw (aT 1) l).1.map (fun b=>fY t (cC b)),(bw (aT 1) l).2) e w':=by
 have i:Hi (RB ty ((w.alloc bC).alloc (aR a)) rb s l):=h.ae ((Fr.alloc Zero _ _).trans (Fr.alloc _ _ _)) (fun h=>h);have dG:=h.lt;have I:=ab aH;have j:Hi (TR ((w.alloc bC).alloc (aR a)) (X2 X w.heap.size) a t):=ht.two ((Fr.alloc Zero _ _).trans (Fr.alloc _ _ _));obtain⟨g,R,A,rfl,c,n,aE,p,r,aX,f⟩:=ht.open;have J:=lt_of_heap c;have Q:w.cell? ⟨g,0,none⟩=some (.int .i64 1):=by rw[cell_of_heap c,hk];rfl
 clear h aH ht c n aE p r aX f hk;go_enter Tryz.func98,Tryz.ntmps98;go_wp2_with fail;refine(iM 1 (by omega) _).mono ?_;rintro e S ⟨rfl,O⟩;obtain rfl:=O.symm;go_wp2_with fail;refine(lA (aT 1) (by decide) i hs).mono ?_;rintro e B ⟨ao,(u:Hi _),m,rfl,C⟩;obtain⟨x,D⟩:=bA dG ao;obtain⟨T,U,V,W,Y,Z,y2,y3⟩:=dc x;obtain⟨v0,v1,v2,v3,x0,x1,x2,x3⟩:=dc D;have K:=ab x;have d:=ab ao;have L:=ab C;clear ao C x D;generalize y:(Option.map (fun b=>(cC b:Int)) (bw (aT 1) l).1).isSome=q at *;have M:=ab y;clear y;go_wp2_with fail;have z:Fr (One (w.heap.size+1)) B (B.setCell ⟨w.heap.size+1,1,none⟩ (.int .i64 m)):=Fr.setCell _ _ _ _ rfl;obtain⟨E,F,G,H⟩:=aW K.o z (⟨⟨g,0,none⟩,m,[],.slice none 0 0⟩:VC);simp only[ec,b9] at E F G H;refine bodyPost_ret (v:=.tuple #[VC.val (⟨⟨g,0,none⟩,m,[],.slice none 0 0⟩:VC),.bool q]) (by simp[results,Tryz.results98,go_sem,E,F,G,H,VC.val,b9]) rfl ?_;exact bS (⟨⟨g,0,none⟩,m,[],.slice none 0 0⟩:VC) dG I d u z ⟨_,_,_,rfl⟩ (fun v hx=>by simp only[Option.map_eq_some_iff] at hx;obtain⟨b,P,rfl⟩:=hx;rw[L.o (cC b) (by rw[P];rfl)];exact VR.leaf (j.o.ae (d.o.mono (fun k _ e=>.inl (by have N:k=rb:=e;rw[N];exact hX))))) (by rw[<-M.o];simp)
theorem C8{ty:TypeId}(h:RB ty w rb s l)(hX:X rb)(aH:∀ b,X b->b<w.heap.size)(ht:TR w X a t)(hs:s.size<=maxLen)(hk:t.kind=2):
  Calls Tryz.prog 98 #[.pointer (some ⟨rb,0,none⟩),.pointer (some a)] w fun e w'=>cJ ty w X rb s ((bw (aT 2) l).1.map (fun b=>fY t (cC b)),(bw (aT 2) l).2) e w':=by
 have i:Hi (RB ty ((w.alloc bC).alloc (aR a)) rb s l):=h.ae ((Fr.alloc Zero _ _).trans (Fr.alloc _ _ _)) (fun h=>h);have dG:=h.lt;have I:=ab aH;have j:Hi (TR ((w.alloc bC).alloc (aR a)) (X2 X w.heap.size) a t):=ht.two ((Fr.alloc Zero _ _).trans (Fr.alloc _ _ _));obtain⟨g,R,A,rfl,c,n,aE,p,r,aX,f⟩:=ht.open;have J:=lt_of_heap c;have Q:w.cell? ⟨g,0,none⟩=some (.int .i64 2):=by rw[cell_of_heap c,hk];rfl
 clear h aH ht c n aE p r aX f hk;go_enter Tryz.func98,Tryz.ntmps98;go_wp2_with fail;refine(iM 2 (by omega) _).mono ?_;rintro e S ⟨rfl,O⟩;obtain rfl:=O.symm;go_wp2_with fail;refine(lA (aT 2) (by decide) i hs).mono ?_;rintro e B ⟨ao,(u:Hi _),m,rfl,C⟩;obtain⟨x,D⟩:=bA dG ao;obtain⟨T,U,V,W,Y,Z,y2,y3⟩:=dc x;obtain⟨v0,v1,v2,v3,x0,x1,x2,x3⟩:=dc D;have K:=ab x;have d:=ab ao;have L:=ab C;clear ao C x D;generalize y:(Option.map (fun b=>(cC b:Int)) (bw (aT 2) l).1).isSome=q at *;have M:=ab y;clear y;go_wp2_with fail;have z:Fr (One (w.heap.size+1)) B (B.setCell ⟨w.heap.size+1,1,none⟩ (.int .i64 m)):=Fr.setCell _ _ _ _ rfl;obtain⟨E,F,G,H⟩:=aW K.o z (⟨⟨g,0,none⟩,m,[],.slice none 0 0⟩:VC);simp only[ec,b9] at E F G H;refine bodyPost_ret (v:=.tuple #[VC.val (⟨⟨g,0,none⟩,m,[],.slice none 0 0⟩:VC),.bool q]) (by simp[results,Tryz.results98,go_sem,E,F,G,H,VC.val,b9]) rfl ?_;exact bS (⟨⟨g,0,none⟩,m,[],.slice none 0 0⟩:VC) dG I d u z ⟨_,_,_,rfl⟩ (fun v hx=>by simp only[Option.map_eq_some_iff] at hx;obtain⟨b,P,rfl⟩:=hx;rw[L.o (cC b) (by rw[P];rfl)];exact VR.leaf (j.o.ae (d.o.mono (fun k _ e=>.inl (by have N:k=rb:=e;rw[N];exact hX))))) (by rw[<-M.o];simp)
theorem C7{ty:TypeId}(h:RB ty w rb s l)(hX:X rb)(aH:∀ b,X b->b<w.heap.size)(ht:TR w X a t)(hs:s.size<=maxLen)(hk:t.kind=3):
  Calls Tryz.prog 98 #[.pointer (some ⟨rb,0,none⟩),.pointer (some a)] w fun e w'=>cJ ty w X rb s ((bw 8 l).1.map (fun b=>fY t (toInt64 (fp b))),(bw 8 l).2) e w':=by
 have i:Hi (RB ty ((w.alloc bC).alloc (aR a)) rb s l):=h.ae ((Fr.alloc Zero _ _).trans (Fr.alloc _ _ _)) (fun h=>h);have dG:=h.lt;have I:=ab aH;have j:Hi (TR ((w.alloc bC).alloc (aR a)) (X2 X w.heap.size) a t):=ht.two ((Fr.alloc Zero _ _).trans (Fr.alloc _ _ _));obtain⟨g,Q,A,rfl,c,n,aE,p,r,aX,f⟩:=ht.open;have J:=lt_of_heap c;have P:w.cell? ⟨g,0,none⟩=some (.int .i64 3):=by rw[cell_of_heap c,hk];rfl
 clear h aH ht c n aE p r aX f hk;go_enter Tryz.func98,Tryz.ntmps98;go_wp2_with fail;refine(uy i hs).mono ?_;rintro e B ⟨ao,(u:Hi _),m,rfl,C⟩;obtain⟨x,D⟩:=bA dG ao;obtain⟨R,S,T,U,V,W,Y,Z⟩:=dc x;obtain⟨v0,v1,v2,v3,x0,x1,x2,x3⟩:=dc D;have K:=ab x;have d:=ab ao;have L:=ab C;clear ao C x D;generalize y:(Option.map (fun b=>toInt64 (fp b)) (bw 8 l).1).isSome=q at *;have M:=ab y;clear y;go_wp2_with fail;have z:Fr (One (w.heap.size+1)) B (B.setCell ⟨w.heap.size+1,1,none⟩ (.int .i64 m)):=Fr.setCell _ _ _ _ rfl;obtain⟨E,F,G,H⟩:=aW K.o z (⟨⟨g,0,none⟩,m,[],.slice none 0 0⟩:VC);simp only[ec,b9] at E F G H;refine bodyPost_ret (v:=.tuple #[VC.val (⟨⟨g,0,none⟩,m,[],.slice none 0 0⟩:VC),.bool q]) (by simp[results,Tryz.results98,go_sem,E,F,G,H,VC.val,b9]) rfl ?_;exact bS (⟨⟨g,0,none⟩,m,[],.slice none 0 0⟩:VC) dG I d u z ⟨_,_,_,rfl⟩ (fun v hx=>by simp only[Option.map_eq_some_iff] at hx;obtain⟨b,O,rfl⟩:=hx;rw[L.o (toInt64 (fp b)) (by rw[O];rfl)];exact VR.leaf (j.o.ae (d.o.mono (fun k _ e=>.inl (by have N:k=rb:=e;rw[N];exact hX))))) (by rw[<-M.o];simp)
theorem C6{ty:TypeId}(h:RB ty w rb s l)(hX:X rb)(aH:∀ b,X b->b<w.heap.size)(ht:TR w X a t)(hs:s.size<=maxLen)(hk:t.kind=4):
  Calls Tryz.prog 98 #[.pointer (some ⟨rb,0,none⟩),.pointer (some a)] w fun e w'=>cJ ty w X rb s ((aK 2 l).1.map (fun(n:Nat)=>fY t n),(aK 2 l).2) e w':=by
 have i:Hi (RB ty ((w.alloc bC).alloc (aR a)) rb s l):=h.ae ((Fr.alloc Zero _ _).trans (Fr.alloc _ _ _)) (fun h=>h);have dG:=h.lt;have J:=ab aH;have j:Hi (TR ((w.alloc bC).alloc (aR a)) (X2 X w.heap.size) a t):=ht.two ((Fr.alloc Zero _ _).trans (Fr.alloc _ _ _));obtain⟨g,R,B,rfl,c,p,aE,r,u,aX,f⟩:=ht.open;have K:=lt_of_heap c;have Q:w.cell? ⟨g,0,none⟩=some (.int .i64 4):=by rw[cell_of_heap c,hk];rfl
 clear h aH ht c p aE r u aX f hk;go_enter Tryz.func98,Tryz.ntmps98;go_wp2_with fail;refine(oH 2 (by omega) (by omega) i hs).mono ?_;rintro e C ⟨ao,(x:Hi _),m,rfl,D⟩;obtain⟨y,E⟩:=bA dG ao;obtain⟨S,T,U,V,W,Y,Z,y3⟩:=dc y;obtain⟨v0,v1,v2,v3,x0,x1,x2,x3⟩:=dc E;have L:=ab y;have d:=ab ao;have M:=ab D;clear ao D y E;generalize z:(Option.map Int.ofNat (aK 2 l).1).isSome=q at *;have N:=ab z;clear z;go_wp2_with fail;have A:Fr (One (w.heap.size+1)) C (C.setCell ⟨w.heap.size+1,1,none⟩ (.int .i64 m)):=Fr.setCell _ _ _ _ rfl;obtain⟨F,G,H,I⟩:=aW L.o A (⟨⟨g,0,none⟩,m,[],.slice none 0 0⟩:VC);simp only[ec,b9] at F G H I;refine bodyPost_ret (v:=.tuple #[VC.val (⟨⟨g,0,none⟩,m,[],.slice none 0 0⟩:VC),.bool q]) (by simp[results,Tryz.results98,go_sem,F,G,H,I,VC.val,b9]) rfl ?_;exact bS (⟨⟨g,0,none⟩,m,[],.slice none 0 0⟩:VC) dG J d x A ⟨_,_,_,rfl⟩ (fun v hx=>by simp only[Option.map_eq_some_iff] at hx;obtain⟨n,P,rfl⟩:=hx;rw[M.o n (by rw[P];rfl)];exact VR.leaf (j.o.ae (d.o.mono (fun k _ e=>.inl (by have O:k=rb:=e;rw[O];exact hX))))) (by rw[<-N.o];simp)
theorem C5{ty:TypeId}(h:RB ty w rb s l)(hX:X rb)(aH:∀ b,X b->b<w.heap.size)(ht:TR w X a t)(hs:s.size<=maxLen)(hk:t.kind=5):
  Calls Tryz.prog 98 #[.pointer (some ⟨rb,0,none⟩),.pointer (some a)] w fun e w'=>cJ ty w X rb s ((iq l).1.map (fC t),(iq l).2) e w':=by
 have i:Hi (RB ty ((w.alloc bC).alloc (aR a)) rb s l):=h.ae ((Fr.alloc Zero _ _).trans (Fr.alloc _ _ _)) (fun h=>h);have dG:=h.lt;have J:=ab aH;have j:Hi (TR ((w.alloc bC).alloc (aR a)) (X2 X w.heap.size) a t):=ht.two ((Fr.alloc Zero _ _).trans (Fr.alloc _ _ _));obtain⟨g,R,B,rfl,c,p,aE,r,u,aX,f⟩:=ht.open;have K:=lt_of_heap c;have Q:w.cell? ⟨g,0,none⟩=some (.int .i64 5):=by rw[cell_of_heap c,hk];rfl
 clear h aH ht c p aE r u aX f hk;go_enter Tryz.func98,Tryz.ntmps98;go_wp2_with fail;refine(AO i hs).mono ?_;rintro e C ⟨ao,(x:Hi _),m,rfl,D⟩;obtain⟨y,E⟩:=bA dG ao;obtain⟨S,T,U,V,W,Y,Z,y3⟩:=dc y;obtain⟨v0,v1,v2,v3,x0,x1,x2,x3⟩:=dc E;have L:=ab y;have d:=ab ao;have M:=ab D;clear ao D y E;generalize z:(iq l).1.isSome=q at *;have N:=ab z;clear z;go_wp2_with fail;have A:Fr (One (w.heap.size+1)) C (C.setCell ⟨w.heap.size+1,2,none⟩ (.string m)):=Fr.setCell _ _ _ _ rfl;obtain⟨F,G,H,I⟩:=aW L.o A (⟨⟨g,0,none⟩,0,m.data.toList,.slice none 0 0⟩:VC);simp only[ec,eC] at F G H I;refine bodyPost_ret (v:=.tuple #[VC.val (⟨⟨g,0,none⟩,0,m.data.toList,.slice none 0 0⟩:VC),.bool q]) (by simp[results,Tryz.results98,go_sem,F,G,H,I,VC.val,eC]) rfl ?_;exact bS (⟨⟨g,0,none⟩,0,m.data.toList,.slice none 0 0⟩:VC) dG J d x A ⟨_,_,_,rfl⟩ (fun v hx=>by simp only[Option.map_eq_some_iff] at hx;obtain⟨n,P,rfl⟩:=hx;rw[M.o n P,dk];exact VR.leaf (j.o.ae (d.o.mono (fun k _ e=>.inl (by have O:k=rb:=e;rw[O];exact hX))))) (by rw[<-N.o];simp)
theorem C4{ty:TypeId}(h:RB ty w rb s l)(hX:X rb)(aH:∀ b,X b->b<w.heap.size)(ht:TR w X a t)(hs:s.size<=maxLen)(hk:t.kind=6):
  Calls Tryz.prog 98 #[.pointer (some ⟨rb,0,none⟩),.pointer (some a)] w fun e w'=>cJ ty w X rb s ((fS l).1.map (fC t),(fS l).2) e w':=by
 have i:Hi (RB ty ((w.alloc bC).alloc (aR a)) rb s l):=h.ae ((Fr.alloc Zero _ _).trans (Fr.alloc _ _ _)) (fun h=>h);have dG:=h.lt;have J:=ab aH;have j:Hi (TR ((w.alloc bC).alloc (aR a)) (X2 X w.heap.size) a t):=ht.two ((Fr.alloc Zero _ _).trans (Fr.alloc _ _ _));obtain⟨g,R,B,rfl,c,p,aE,r,u,aX,f⟩:=ht.open;have K:=lt_of_heap c;have Q:w.cell? ⟨g,0,none⟩=some (.int .i64 6):=by rw[cell_of_heap c,hk];rfl
 clear h aH ht c p aE r u aX f hk;go_enter Tryz.func98,Tryz.ntmps98;go_wp2_with fail;refine(zD i hs).mono ?_;rintro e C ⟨ao,(x:Hi _),m,rfl,D⟩;obtain⟨y,E⟩:=bA dG ao;obtain⟨S,T,U,V,W,Y,Z,y3⟩:=dc y;obtain⟨v0,v1,v2,v3,x0,x1,x2,x3⟩:=dc E;have L:=ab y;have d:=ab ao;have M:=ab D;clear ao D y E;generalize z:(fS l).1.isSome=q at *;have N:=ab z;clear z;go_wp2_with fail;have A:Fr (One (w.heap.size+1)) C (C.setCell ⟨w.heap.size+1,2,none⟩ (.string m)):=Fr.setCell _ _ _ _ rfl;obtain⟨F,G,H,I⟩:=aW L.o A (⟨⟨g,0,none⟩,0,m.data.toList,.slice none 0 0⟩:VC);simp only[ec,eC] at F G H I;refine bodyPost_ret (v:=.tuple #[VC.val (⟨⟨g,0,none⟩,0,m.data.toList,.slice none 0 0⟩:VC),.bool q]) (by simp[results,Tryz.results98,go_sem,F,G,H,I,VC.val,eC]) rfl ?_;exact bS (⟨⟨g,0,none⟩,0,m.data.toList,.slice none 0 0⟩:VC) dG J d x A ⟨_,_,_,rfl⟩ (fun v hx=>by simp only[Option.map_eq_some_iff] at hx;obtain⟨n,P,rfl⟩:=hx;rw[M.o n P,dk];exact VR.leaf (j.o.ae (d.o.mono (fun k _ e=>.inl (by have O:k=rb:=e;rw[O];exact hX))))) (by rw[<-N.o];simp)
theorem C3{ty:TypeId}(hW:c8 (k+1) t)(hT:∀ u∈t.subs,gW ty 98 (aS k) u s)(h:RB ty w rb s l)(hX:X rb)(aH:∀ b,X b->b<w.heap.size)(ht:TR w X a t)(hs:s.size<=maxLen)(hk:t.kind=7):
  Calls Tryz.prog 98 #[.pointer (some ⟨rb,0,none⟩),.pointer (some a)] w fun e w'=>cJ ty w X rb s ((ir (aS k (t.sub 0)) l).1.map (bE t 0),(ir (aS k (t.sub 0)) l).2) e w':=by
 have z:Hi (RB ty ((w.alloc bC).alloc (aR a)) rb s l):=h.ae ((Fr.alloc Zero _ _).trans (Fr.alloc _ _ _)) (fun h=>h);have dG:=h.lt;have A:=ab aH;have B:Hi (TR ((w.alloc bC).alloc (aR a)) (X2 X w.heap.size) a t):=ht.two ((Fr.alloc Zero _ _).trans (Fr.alloc _ _ _));obtain⟨i,sv,c,rfl,d,E,aE,F,G,aX,f⟩:=ht.open;have T:=lt_of_heap d;have k0:w.cell? ⟨i,0,none⟩=some (.int .i64 7):=by rw[cell_of_heap d,hk];rfl
 have U:t.subs.length=1:=hW.2.2.2.2.1 (by omega);obtain⟨y,fQ,rfl⟩:=dz aE (by omega);have r:c.length=1:=by omega
 rw[r] at d aE;have k1:w.cell? ⟨i,1,none⟩=some (.slice (some ⟨y,0,none⟩) 1 fQ):=by rw[cell_of_heap d];rfl
 obtain⟨p,H⟩:∃ p,c[0]?=some p:=⟨c[0]'(by omega),by simp⟩;have jq:y<w.heap.size:=(aE.lt y rfl).2;have kp:w.cell? ⟨y,1,none⟩=some (.pointer (some p.2)):=by rw[aE.cellAt 1 (by omega)];exact(a8 c 0 p H).2
 have C:Hi (TR ((w.alloc bC).alloc (aR ⟨i,0,none⟩)) (X2 X w.heap.size) p.2 (t.sub 0)):=(f 0 p _ H (PT.cO (by omega))).two ((Fr.alloc Zero _ _).trans (Fr.alloc _ _ _));have D:Hi (gW ty 98 (aS k) (t.sub 0) s):=hT _ (List.mem_of_getElem? (PT.cO (by omega)));clear h aH ht d E aE F G aX f hk hT hW U r H;go_enter Tryz.func98,Tryz.ntmps98;go_wp2_with fail;refine(BJ D z (.inl hX) (X2.lt A (by simp)) C hs).mono ?_;rintro e M ⟨ao,(I:Hi _),m,⟨o,n,j,rfl⟩,rfl,N⟩;obtain⟨J,O⟩:=bA dG ao;obtain⟨z0,z1,z2,z3,y0,y1,y2,y3⟩:=dc J;obtain⟨v0,v1,v2,v3,x0,x1,x2,x3⟩:=dc O;have V:=ab J;have x:=ab ao;have W:=ab N;clear ao N J O;generalize L:(ir (aS k (t.sub 0)) l).1.isSome=q at *;have Y:=ab L;clear L;go_wp2_with fail;have hW:Fr (One (w.heap.size+1)) M (M.setCell ⟨w.heap.size+1,3,none⟩ (.slice o n j)):=Fr.setCell _ _ _ _ rfl;obtain⟨P,Q,R,S⟩:=aW V.o hW (⟨⟨i,0,none⟩,0,[],.slice o n j⟩:VC);simp only[ec,b9] at P Q R S;refine bodyPost_ret (v:=.tuple #[VC.val (⟨⟨i,0,none⟩,0,[],.slice o n j⟩:VC),.bool q]) (by simp[results,Tryz.results98,go_sem,P,Q,R,S,VC.val,b9]) rfl ?_;exact bS (⟨⟨i,0,none⟩,0,[],.slice o n j⟩:VC) dG A x I hW ⟨_,_,_,rfl⟩ (fun v hx=>by simp only[Option.map_eq_some_iff] at hx;obtain⟨vs,hn,rfl⟩:=hx;obtain⟨K,hO,hg,hL⟩:=W.o vs hn;exact VR.make (B.o.ae (x.o.mono (fun k _ e=>.inl (by have Z:k=rb:=e;rw[Z];exact hX)))) rfl rfl hO (fun g hg'=>X2.no A (by have:=hg g hg';simpa using this)) (hL.aY (fun b _ hb=>.inl hb))) (by rw[<-Y.o];simp)
theorem C2{ty:TypeId}(hW:c8 (k+1) t)(hT:∀ u∈t.subs,gW ty 98 (aS k) u s)(h:RB ty w rb s l)(hX:X rb)(aH:∀ b,X b->b<w.heap.size)(ht:TR w X a t)(hs:s.size<=maxLen)(hk:t.kind=8):
  Calls Tryz.prog 98 #[.pointer (some ⟨rb,0,none⟩),.pointer (some a)] w fun e w'=>cJ ty w X rb s ((kZ (aS k (t.sub 0)) l).1.map (bE t 0),(kZ (aS k (t.sub 0)) l).2) e w':=by
 have z:Hi (RB ty ((w.alloc bC).alloc (aR a)) rb s l):=h.ae ((Fr.alloc Zero _ _).trans (Fr.alloc _ _ _)) (fun h=>h);have dG:=h.lt;have A:=ab aH;have B:Hi (TR ((w.alloc bC).alloc (aR a)) (X2 X w.heap.size) a t):=ht.two ((Fr.alloc Zero _ _).trans (Fr.alloc _ _ _));obtain⟨i,sv,c,rfl,d,E,aE,F,G,aX,f⟩:=ht.open;have T:=lt_of_heap d;have k0:w.cell? ⟨i,0,none⟩=some (.int .i64 8):=by rw[cell_of_heap d,hk];rfl
 have U:t.subs.length=1:=hW.2.2.2.2.1 (by omega);obtain⟨y,fQ,rfl⟩:=dz aE (by omega);have r:c.length=1:=by omega
 rw[r] at d aE;have k1:w.cell? ⟨i,1,none⟩=some (.slice (some ⟨y,0,none⟩) 1 fQ):=by rw[cell_of_heap d];rfl
 obtain⟨p,H⟩:∃ p,c[0]?=some p:=⟨c[0]'(by omega),by simp⟩;have jq:y<w.heap.size:=(aE.lt y rfl).2;have kp:w.cell? ⟨y,1,none⟩=some (.pointer (some p.2)):=by rw[aE.cellAt 1 (by omega)];exact(a8 c 0 p H).2
 have C:Hi (TR ((w.alloc bC).alloc (aR ⟨i,0,none⟩)) (X2 X w.heap.size) p.2 (t.sub 0)):=(f 0 p _ H (PT.cO (by omega))).two ((Fr.alloc Zero _ _).trans (Fr.alloc _ _ _));have D:Hi (gW ty 98 (aS k) (t.sub 0) s):=hT _ (List.mem_of_getElem? (PT.cO (by omega)));clear h aH ht d E aE F G aX f hk hT hW U r H;go_enter Tryz.func98,Tryz.ntmps98;go_wp2_with fail;refine(wP D z (.inl hX) (X2.lt A (by simp)) C hs).mono ?_;rintro e M ⟨ao,(I:Hi _),m,⟨o,n,j,rfl⟩,rfl,N⟩;obtain⟨J,O⟩:=bA dG ao;obtain⟨z0,z1,z2,z3,y0,y1,y2,y3⟩:=dc J;obtain⟨v0,v1,v2,v3,x0,x1,x2,x3⟩:=dc O;have V:=ab J;have x:=ab ao;have W:=ab N;clear ao N J O;generalize L:(kZ (aS k (t.sub 0)) l).1.isSome=q at *;have Y:=ab L;clear L;go_wp2_with fail;have hW:Fr (One (w.heap.size+1)) M (M.setCell ⟨w.heap.size+1,3,none⟩ (.slice o n j)):=Fr.setCell _ _ _ _ rfl;obtain⟨P,Q,R,S⟩:=aW V.o hW (⟨⟨i,0,none⟩,0,[],.slice o n j⟩:VC);simp only[ec,b9] at P Q R S;refine bodyPost_ret (v:=.tuple #[VC.val (⟨⟨i,0,none⟩,0,[],.slice o n j⟩:VC),.bool q]) (by simp[results,Tryz.results98,go_sem,P,Q,R,S,VC.val,b9]) rfl ?_;exact bS (⟨⟨i,0,none⟩,0,[],.slice o n j⟩:VC) dG A x I hW ⟨_,_,_,rfl⟩ (fun v hx=>by simp only[Option.map_eq_some_iff] at hx;obtain⟨vs,hn,rfl⟩:=hx;obtain⟨K,hO,hg,hL⟩:=W.o vs hn;exact VR.make (B.o.ae (x.o.mono (fun k _ e=>.inl (by have Z:k=rb:=e;rw[Z];exact hX)))) rfl rfl hO (fun g hg'=>X2.no A (by have:=hg g hg';simpa using this)) (hL.aY (fun b _ hb=>.inl hb))) (by rw[<-Y.o];simp)
theorem C1{ty:TypeId}(hW:c8 (k+1) t)(hT:∀ u∈t.subs,gW ty 98 (aS k) u s)(h:RB ty w rb s l)(hX:X rb)(aH:∀ b,X b->b<w.heap.size)(ht:TR w X a t)(_hs:s.size<=maxLen)(hk:t.kind=9):
  Calls Tryz.prog 98 #[.pointer (some ⟨rb,0,none⟩),.pointer (some a)] w fun e w'=>cJ ty w X rb s ((cw (aS k) t.subs [] l).1.map (bE t 0),(cw (aS k) t.subs [] l).2) e w':=by
 have C:Hi (RB ty ((w.alloc bC).alloc (aR a)) rb s l):=h.ae ((Fr.alloc Zero _ _).trans (Fr.alloc _ _ _)) (fun h=>h);have dG:=h.lt;have D:=ab aH;have E:Hi (TR ((w.alloc bC).alloc (aR a)) (X2 X w.heap.size) a t):=ht.two ((Fr.alloc Zero _ _).trans (Fr.alloc _ _ _));obtain⟨i,sv,c,rfl,d,I,aE,B,J,aX,f⟩:=ht.open;have V:=lt_of_heap d;have k0:w.cell? ⟨i,0,none⟩=some (.int .i64 9):=by rw[cell_of_heap d,hk];rfl
 have W:0<t.subs.length:=hW.2.2.2.1 (by omega);have Y:=hW.2.2.2.2.2.1.1;obtain⟨r,fQ,rfl⟩:=dz aE (by omega);have k1:w.cell? ⟨i,1,none⟩=some (.slice (some ⟨r,0,none⟩) c.length fQ):=by rw[cell_of_heap d];rfl
 have jq:r<w.heap.size:=(aE.lt r rfl).2
 have y:¬X2 X w.heap.size r:=fun x=>by
  rcases x with x|x
  ·exact B r rfl x
  ·omega
 have F:=ab y;have G:Hi (((w.alloc bC).alloc (aR ⟨i,0,none⟩)).ownsRow 0 198 2 (.slice (some ⟨r,0,none⟩) c.length fQ) c.length (aU c)):=(aE.alloc _).alloc _;have H:Hi (∀(j:Nat) (p:ByteArray×Addr) (u:PT),c[j]?=some p->t.subs[j]?=some u->TR ((w.alloc bC).alloc (aR ⟨i,0,none⟩)) (X2 X w.heap.size) p.2 u):=fun j p u hp hu=>(f j p u hp hu).two ((Fr.alloc Zero _ _).trans (Fr.alloc _ _ _))
 have z:=ab aX;have Z:=ab hT;clear h aH ht d I aE B J aX f hk hT hW W y;go_enter Tryz.func98,Tryz.ntmps98;go_wp2_with fail;refine(vW r fQ c Z C (.inl hX) (X2.lt D (by simp)) G F z Y H).mono ?_;rintro e O ⟨ao,(K:Hi _),m,⟨o,n,j,rfl⟩,rfl,P⟩;obtain⟨L,Q⟩:=bA dG ao;obtain⟨z0,z1,z2,z3,y0,y1,y2,y3⟩:=dc L;obtain⟨v0,v1,v2,v3,x0,x1,x2,x3⟩:=dc Q;have HZ:=ab L;have A:=ab ao;have HM:=ab P;clear ao P L Q;generalize N:(cw (aS k) t.subs [] l).1.isSome=q at *;have HQ:=ab N;clear N;go_wp2_with fail;have hW:Fr (One (w.heap.size+1)) O (O.setCell ⟨w.heap.size+1,3,none⟩ (.slice o n j)):=Fr.setCell _ _ _ _ rfl;obtain⟨R,S,T,U⟩:=aW HZ.o hW (⟨⟨i,0,none⟩,0,[],.slice o n j⟩:VC);simp only[ec,b9] at R S T U;refine bodyPost_ret (v:=.tuple #[VC.val (⟨⟨i,0,none⟩,0,[],.slice o n j⟩:VC),.bool q]) (by simp[results,Tryz.results98,go_sem,R,S,T,U,VC.val,b9]) rfl ?_;exact bS (⟨⟨i,0,none⟩,0,[],.slice o n j⟩:VC) dG D A K hW ⟨_,_,_,rfl⟩ (fun v hx=>by simp only[Option.map_eq_some_iff] at hx;obtain⟨vs,hn,rfl⟩:=hx;obtain⟨M,hO,hg,hL⟩:=HM.o vs hn;exact VR.make (E.o.ae (A.o.mono (fun k _ e=>.inl (by have e':k=rb:=e;rw[e'];exact hX)))) rfl rfl hO (fun g hg'=>X2.no D (by have:=hg g hg';simpa using this)) (hL.aY (fun b _ x=>.inl x))) (by rw[<-HQ.o];simp)
theorem A6{ty:TypeId}(hW:c8 (k+1) t)(hT:∀ u∈t.subs,gW ty 98 (aS k) u s)(h:RB ty w rb s l)(hX:X rb)(aH:∀ b,X b->b<w.heap.size)(ht:TR w X a t)(hs:s.size<=maxLen)(hk:t.kind=10):
  Calls Tryz.prog 98 #[.pointer (some ⟨rb,0,none⟩),.pointer (some a)] w fun e w'=>cJ ty w X rb s ((iu (aS k) t l).1.map (fun p=>bE t p.1 [p.2]),(iu (aS k) t l).2) e w':=by
 have D:Hi (RB ty ((w.alloc bC).alloc (aR a)) rb s l):=h.ae ((Fr.alloc Zero _ _).trans (Fr.alloc _ _ _)) (fun h=>h);have dG:=h.lt;have E:=ab aH;have F:Hi (TR ((w.alloc bC).alloc (aR a)) (X2 X w.heap.size) a t):=ht.two ((Fr.alloc Zero _ _).trans (Fr.alloc _ _ _));obtain⟨r,sv,c,rfl,d,L,aE,C,M,aX,f⟩:=ht.open;have Z:=lt_of_heap d;have k0:w.cell? ⟨r,0,none⟩=some (.int .i64 10):=by rw[cell_of_heap d,hk];rfl
 have h1:0<t.subs.length:=hW.2.2.2.1 (by omega);have h6:=hW.2.2.2.2.2.1.1;obtain⟨x,fQ,rfl⟩:=dz aE (by omega);have k1:w.cell? ⟨r,1,none⟩=some (.slice (some ⟨x,0,none⟩) c.length fQ):=by rw[cell_of_heap d];rfl
 have jq:x<w.heap.size:=(aE.lt x rfl).2
 have z:¬X2 X w.heap.size x:=fun y=>by
  rcases y with y|y
  ·exact C x rfl y
  ·omega
 have G:=ab z;have H:Hi (((w.alloc bC).alloc (aR ⟨r,0,none⟩)).ownsRow 0 198 2 (.slice (some ⟨x,0,none⟩) c.length fQ) c.length (aU c)):=(aE.alloc _).alloc _;have I:Hi (∀(j:Nat) (p:ByteArray×Addr) (u:PT),c[j]?=some p->t.subs[j]?=some u->TR ((w.alloc bC).alloc (aR ⟨r,0,none⟩)) (X2 X w.heap.size) p.2 u):=fun j p u hp hu=>(f j p u hp hu).two ((Fr.alloc Zero _ _).trans (Fr.alloc _ _ _))
 have A:=ab aX;have HT:=ab hT;have J:0<c.length:=by omega
 have K:c.length<=6:=by omega
 clear h aH ht d L aE C M aX f hk hT hW h1 z h6;go_enter Tryz.func98,Tryz.ntmps98;go_wp2_with fail;refine(xH x fQ c HT D (.inl hX) (X2.lt E (by simp)) H G A J K I hs).mono ?_;rintro e R ⟨ao,(N:Hi _),m,E0,⟨o,n,j,rfl⟩,rfl,S⟩;obtain⟨O,T⟩:=bA dG ao;obtain⟨z0,z1,z2,z3,y0,y1,y2,y3⟩:=dc O;obtain⟨v0,v1,v2,v3,x0,x1,x2,x3⟩:=dc T;have HZ:=ab O;have B:=ab ao;have HM:=ab S;clear ao S O T;generalize Q:(iu (aS k) t l).1.isSome=q at *;have HQ:=ab Q;clear Q;go_wp2_with fail;have hW:Fr (One (w.heap.size+1)) R ((R.setCell ⟨w.heap.size+1,1,none⟩ (.int .i64 m)).setCell ⟨w.heap.size+1,3,none⟩ (.slice o n j)):=(Fr.setCell (One (w.heap.size+1)) _ ⟨w.heap.size+1,1,none⟩ _ rfl).trans (Fr.setCell (One (w.heap.size+1)) _ ⟨w.heap.size+1,3,none⟩ _ rfl);obtain⟨U,V,W,Y⟩:=aW HZ.o hW (⟨⟨r,0,none⟩,m,[],.slice o n j⟩:VC);simp only[ec,b9] at U V W Y;refine bodyPost_ret (v:=.tuple #[VC.val (⟨⟨r,0,none⟩,m,[],.slice o n j⟩:VC),.bool q]) (by simp[results,Tryz.results98,go_sem,U,V,W,Y,VC.val,b9]) rfl ?_;exact bS (⟨⟨r,0,none⟩,m,[],.slice o n j⟩:VC) dG E B N hW ⟨_,_,_,rfl⟩ (fun v hx=>by simp only[Option.map_eq_some_iff] at hx;obtain⟨⟨i,v'⟩,hn,rfl⟩:=hx;obtain⟨rfl,P,hO,hg,hL⟩:=HM.o i v' hn;exact VR.make (F.o.ae (B.o.mono (fun k _ e=>.inl (by have e':k=rb:=e;rw[e'];exact hX)))) rfl rfl hO (fun g hg'=>X2.no E (by have:=hg g hg';simpa using this)) (hL.aY (fun b _ y=>.inl y))) (by rw[<-HQ.o];simp)
theorem yr{ty:TypeId}(hs:s.size<=maxLen):∀(k:Nat) (t:PT),c8 k t->gW ty 98 (aS k) t s:=by
 intro k
 induction k with
 | zero=>intro t h;exact h.elim
 | succ k ih =>
  intro t d w X g a l h b aH c;have e:∀ u∈t.subs,gW ty 98 (aS k) u s:=fun u hu=>ih u (d.2.2.1 u hu)
  have f:=d.1;simp only[aS];rcases hk:t.kind with _|_|_|_|_|_|_|_|_|_|_|m
  ·exact Da h b aH c hs hk
  ·exact C9 h b aH c hs hk
  ·exact C8 h b aH c hs hk
  ·exact C7 h b aH c hs hk
  ·exact C6 h b aH c hs hk
  ·exact C5 h b aH c hs hk
  ·exact C4 h b aH c hs hk
  ·exact C3 d e h b aH c hs hk
  ·exact C2 d e h b aH c hs hk
  ·exact C1 d e h b aH c hs hk
  ·exact A6 d e h b aH c hs hk
  ·omega
theorem jH(w:World)(a:Addr)(t:PT)(s:ByteArray)(ht:TR w Zero a t)(hW:c8 12 t)(dJ:s.size<=1000):
  Calls Tryz.prog 71 #[.pointer (some a),.string s] w fun e w'=>xU w 6 s (aS 12 t s.data.toList) e w':=by
 have hs:s.size<=maxLen:=by unfold maxLen;omega
 have aa:¬(1000:Int)<(s.size:Int):=by omega
 have HT:=ab (yr (ty:=188) hs 12 t hW);go_enter Tryz.func71,Tryz.ntmps71;go_wp2_with fail;refine(jP s _).mono ?_;rintro e c ⟨rfl,C⟩;have F:Hi (Fr Zero w c):=(Fr.alloc _ _ _).trans C;have x:c.heap[w.heap.size]?=some (.cells #[.pointer none,.int .i64 0,.string ⟨#[]⟩,.slice none 0 0] 133 (0,0)):=C.ae (af rfl _) (fun h=>h);have il:=lt_of_heap x;go_wp2_with fail
 have G:Hi (TR (c.alloc (.cells #[.int .i64 0,.string s] 188)) (fun b=>b=w.heap.size\/b=c.heap.size) a t):=by
  have h1:TR w (fun b=>w.heap.size<=b) a t:=ht.aY (fun b hb Q=>by omega);have h2:TR c (fun b=>w.heap.size<=b) a t:=h1.ae F.o.dV;exact(h2.ae (Fr.alloc _ _ _)).aY (fun b _ Q=>by rcases Q with Q|Q<;>omega)
 refine(HT.o _ (fun b=>b=w.heap.size\/b=c.heap.size) c.heap.size a s.data.toList (RB.start _ c s) (.inr rfl) (fun b hb=>by simp;omega) G).mono ?_;rcases hq:aS 12 t s.data.toList with⟨q,r⟩;rintro e j ⟨ao,(D:Hi _),⟨f,g,i,ac⟩,⟨o,n,k,P⟩,rfl,hv⟩;simp only at P;subst P;have cF:w.heap.size≠c.heap.size:=by omega
 have H:j.heap[w.heap.size]?=some (.cells #[.pointer none,.int .i64 0,.string ⟨#[]⟩,.slice none 0 0] 133 (0,0)):=ao.ae (by rw[Below.heap_alloc _ _ _ il];exact x) (fun e=>cF e);have y:Hi (Fr Zero w j):=(F.o.trans (Fr.alloc _ _ _)).past (ao.mono (fun k _ e=>by have J:k=c.heap.size:=e;omega));have K:Hi (Fr Zero j (j.alloc (.cells #[.pointer (some f),.int .i64 g,.string (ba i),.slice o n k] 133))):=Fr.alloc _ _ _;have L:=ab (D.o.ae K (fun h=>h));have z:(j.alloc (.cells #[.pointer (some f),.int .i64 g,.string (ba i),.slice o n k] 133)).heap[w.heap.size]?=_:=K.o.ae H (fun h=>h);simp only[VC.val];rcases q with _|v
 ·go_wp2_with fail;have V:=ab (y.o.trans K.o);generalize j.alloc (.cells #[.pointer (some f),.int .i64 g,.string (ba i),.slice o n k] 133)=W at *;obtain⟨z0,z1,z2,z3,y0,y1,y2,y3⟩:=dc z;refine(AL L).mono ?_;rintro e E ⟨rfl,e4⟩;obtain rfl:=e4.symm;go_wp2;obtain⟨l,m,p,u⟩:=kC z;simp only[mf] at l m p u;refine bodyPost_ret (v:=.tuple #[.agg #[.pointer none,.int .i64 0,.string ⟨#[]⟩,.slice none 0 0],.int .i64 6,.int .i64 (pos s r)]) (by simp[results,Tryz.results71,go_sem,l,m,p,u]) rfl ?_;rw[hq];refine⟨V.o.past ((Fr.setZ _ w.heap.size).mono (fun k _ e=>by have J:k=w.heap.size:=e;omega)),.inr ⟨(fun h=>by obtain⟨v,h⟩:=h;cases h),rfl⟩⟩
 ·have X:=ab (hv v rfl);go_wp2_with fail;refine(CO L hs).mono ?_;rintro e E ⟨rfl,(Z:Hi _),d⟩;have qE:¬One c.heap.size w.heap.size:=fun e=>cF e
  have B:=d.ae z qE;obtain⟨z0,z1,z2,z3,y0,y1,y2,y3⟩:=dc B;have N:E.heap[j.heap.size]?=some (.cells #[.pointer (some f),.int .i64 g,.string (ba i),.slice o n k] 133 (0,0)):=d.ae (af rfl _) (fun e=>by have J:j.heap.size=c.heap.size:=e;have:=D.o.lt;omega);obtain⟨v0,v1,v2,v3,x0,x1,x2,x3⟩:=dc N;have O:Hi (Fr Zero w E):=(y.o.trans (Fr.alloc _ _ _)).past (d.mono (fun k _ e=>by have J:k=c.heap.size:=e;omega));have Y:=ab ((X.o.ae K.o.dV).ae (d.mono (fun k _ e=>.inr e)));rcases r with _|⟨b,r⟩
  ·go_wp2;have hW:Fr (One (w.heap.size+1)) E E:=Fr.refl _ _;obtain⟨l,m,p,u⟩:=aW B hW (⟨f,g,i,.slice o n k⟩:VC);simp only[ec] at l m p u;refine bodyPost_ret (v:=.tuple #[VC.val (⟨f,g,i,.slice o n k⟩:VC),.int .i64 0,.int .i64 0]) (by simp[results,Tryz.results71,go_sem,l,m,p,u,VC.val]) rfl ?_;rw[hq];refine⟨O.o.past ((Fr.set4 E w.heap.size ⟨f,g,i,.slice o n k⟩).mono (fun k _ e=>by have J:k=w.heap.size:=e;omega)),.inl ⟨v,⟨f,g,i,.slice o n k⟩,rfl,⟨_,_,_,rfl⟩,rfl,?_⟩⟩;exact(Y.o.ae ((Fr.set4 E w.heap.size ⟨f,g,i,.slice o n k⟩).mono (fun k _ e=>.inl e))).aY (fun b _ hb=>hb.elim)
  ·go_wp2_with fail;refine(AL Z).mono ?_;rintro e w5 ⟨rfl,e5⟩;obtain rfl:=e5.symm;go_wp2;obtain⟨l,m,p,u⟩:=kC B;simp only[mf] at l m p u;refine bodyPost_ret (v:=.tuple #[.agg #[.pointer none,.int .i64 0,.string ⟨#[]⟩,.slice none 0 0],.int .i64 6,.int .i64 (pos s (b::r))]) (by simp[results,Tryz.results71,go_sem,l,m,p,u]) rfl ?_;rw[hq];refine⟨O.o.past ((Fr.setZ _ w.heap.size).mono (fun k _ e=>by have J:k=w.heap.size:=e;omega)),.inr ⟨fun h=>by obtain⟨v,h⟩:=h;simp at h,rfl⟩⟩
theorem kh(w:World)(a:Addr)(s:ByteArray)(hs:s.size<=maxLen)(hl:1000<s.size):
  Calls Tryz.prog 71 #[.pointer (some a),.string s] w fun e w'=>Fr Zero w w'/\e=.returned (.tuple #[.agg #[.pointer none,.int .i64 0,.string ⟨#[]⟩,.slice none 0 0],.int .i64 1,.int .i64 0]):=by
 unfold maxLen at hs;have b:(1000:Int)<(s.size:Int):=by omega
 go_enter Tryz.func71,Tryz.ntmps71;go_wp2;refine bodyPost_ret (v:=.tuple #[.agg #[.pointer none,.int .i64 0,.string ⟨#[]⟩,.slice none 0 0],.int .i64 1,.int .i64 0]) (by simp[results,Tryz.results71,go_sem]) rfl ?_;exact⟨Fr.alloc _ _ _,rfl⟩
end Go.Proofs.YtpffifpbpmlhdaaGreatDoor
