import Derived.Deep.OwnRows
import Derived.Laws.OwnMore
import Derived.Test.YtpffifpbpmlhdaaGreatDoorBsQPut
set_option maxHeartbeats 32000000
set_option maxRecDepth 100000
namespace Go.Proofs.YtpffifpbpmlhdaaGreatDoor.Q
open Go.RowKit
variable {l:List PF}{i s rb yb k sb m g:Nat}{f:PF}{w:World}{R:PR}{fv:Value}{d row:Bs}
def aZ(l:List PF)(i s:Nat):List PF:=l.modify i (fun f=>{ f with st:=s })
theorem eH(l:List PF)(i s:Nat):(aZ l i s).length=l.length:=by simp[aZ]
theorem pQ{j:Nat}(h:l[j]?=some f):(aZ l i s)[j]?=some (if i=j then { f with st:=s } else f):=by
 unfold aZ;rw[List.getElem?_modify]
 by_cases e:i=j<;>simp[e,h]
theorem vK(hi:i<l.length):cH (aZ l i s)=(cH l).set (i*3+2) (.int .i64 s):=by
 induction l generalizing i with
 | nil=>simp at hi
 | cons x l ih =>
  have e:cH (x::l)=.int .i64 x.at_::.int .i64 x.takes::.int .i64 x.st::cH l:=rfl;rcases i with _|i
  ·rfl
  ·have a:i<l.length:=by simpa using hi
   have b:aZ (x::l) (i+1) s=x::aZ l i s:=by simp[aZ]
   rw[b,show cH (x::aZ l i s)=.int .i64 x.at_::.int .i64 x.takes::.int .i64 x.st::cH (aZ l i s) from rfl,ih a,e,show(i+1)*3+2=i*3+2+1+1+1 by omega];simp only[List.set_cons_succ]
theorem RM.GQ{fb off au:Nat}(h:RM w rb yb R (.slice (some ⟨fb,off,none⟩) R.fs.length au))(hi:i<R.fs.length)(s:Nat):
  RM (w.setCell ⟨fb,off+i*3+2,none⟩ (.int .i64 s)) rb yb { R with fs:=aZ R.fs i s } (.slice (some ⟨fb,off,none⟩) R.fs.length au)/\iA rb yb w (w.setCell ⟨fb,off+i*3+2,none⟩ (.int .i64 s)):=by
 have b:Fr (One fb) w (w.setCell ⟨fb,off+i*3+2,none⟩ (.int .i64 s)):=Fr.setCell _ _ _ _ rfl
 have c:RM (w.setCell ⟨fb,off+i*3+2,none⟩ (.int .i64 s)) rb yb { R with fs:=aZ R.fs i s } (.slice (some ⟨fb,off,none⟩) R.fs.length au):=by
  refine⟨b.ae h.r (fun e=>h.zQ (g:=fb) rfl (by have a:rb=fb:=e;exact a.symm)),b.ae h.y (fun e=>h.I6 (g:=fb) rfl (by have a:yb=fb:=e;exact a.symm)),?_,h.g2,h.g64,h.len⟩;rcases h.f with⟨q,_⟩|⟨n,d,l,o,m,p,t,v,x,z⟩
  ·simp at q
  ·simp at m;obtain⟨⟨rfl,rfl⟩,rfl⟩:=m;refine .inr ⟨fb,off,au,_,by rw[eH],heap_setCell_same p,by rw[eH];exact t,by simpa using v,x,fun j u hj=>?_⟩;rw[vK hi,List.getElem?_set] at hj;rw[Array.getElem?_setIfInBounds]
   by_cases e:i*3+2=j
   ·subst e;rw[if_pos rfl] at hj;rw[eO,if_pos (by omega)] at hj;rw[if_pos (by omega),if_pos (by omega)];exact hj
   ·rw[if_neg e] at hj;rw[if_neg (by omega)];exact z j u hj
 exact⟨c,iA.of h c (b.mono (fun k _ e=>.inr (.inr (by have a:k=fb:=e;rw[a];rfl)))) (fun _ _ e=>e)⟩
theorem RM.Gx(h:RM w rb yb R fv)(b:Bool):RM (w.setCell ⟨rb,4,none⟩ (.bool b)) rb yb { R with shut:=b } fv/\iA rb yb w (w.setCell ⟨rb,4,none⟩ (.bool b)):=by
 have a:Fr (One rb) w (w.setCell ⟨rb,4,none⟩ (.bool b)):=Fr.setCell _ _ _ _ rfl;have c:RM (w.setCell ⟨rb,4,none⟩ (.bool b)) rb yb { R with shut:=b } fv:=⟨by rw[heap_setCell_same h.r];rfl,a.ae h.y (fun e=>h.ne (by have d:yb=rb:=e;exact d.symm)),h.f.ae a (fun g hg e=>h.zQ hg e),h.g2,h.g64,h.len⟩;exact⟨c,iA.of h c (a.mono (fun k _ e=>.inl e)) (fun _ _ e=>e)⟩
def aN(R:PR):Nat×Nat×PR:=match iI R.fs with
 | some i=>(R.first+i,0,{ R with fs:=aZ R.fs i 1 })
 | none=>(0,if R.shut then 12 else 11,R)
theorem jZ(h:RM w rb yb R fv)(hl:R.fs.length<=1000000)(jt:R.first<=3000000000000):
  Calls Tryz.prog 41 #[.pointer (some ⟨rb,0,none⟩)] w fun e w'=>e=.returned (.tuple #[.int .i64 (aN R).1,.int .i64 (aN R).2.1])/\iA rb yb w w'/\∃ fh,RM w' rb yb (aN R).2.2 fh:=by
 have p:=h.cE;have b:=h.lt;obtain⟨r,s,rfl⟩:=h.f.len;go_enter Tryz.func41,Tryz.ntmps41;go_wp2_with fail;refine(rT h.f hl).mono ?_;rintro e t ⟨rfl,(a:Hi _)⟩;have c:=ab (h.quiet a);have v:=c.o.cE;have l:=c.o.gS;rcases hq:iI R.fs with _|i
 ·have d:Hi (aN R=(0,if R.shut then 12 else 11,R)):=ab (by unfold aN;rw[hq]);simp only[G7];cases hs:R.shut with
  | true =>
   rw[hs] at l d;go_wp2_with fail;go_ret2;rw[d.o];exact⟨rfl,iA.quiet a.o b,_,c.o⟩
  | false =>
   rw[hs] at l d;go_wp2_with fail;go_ret2;rw[d.o];exact⟨rfl,iA.quiet a.o b,_,c.o⟩
 ·have d:Hi (aN R=(R.first+i,0,{ R with fs:=aZ R.fs i 1 })):=ab (by unfold aN;rw[hq]);obtain⟨u,_,_⟩:=List.findIdx?_eq_some_iff_getElem.1 hq;obtain⟨f,m⟩:∃ f,R.fs[i]?=some f:=⟨R.fs[i],by simp⟩;obtain⟨n,g,au,j,z,A,B,C⟩:=c.o.f.at_ m;obtain⟨rfl,_,rfl⟩:r=some ⟨n,g,none⟩/\True/\s=au:=by simp at j;exact⟨j.1,trivial,j.2⟩
  have k:=ab (c.o.GQ u 1);have x:(i:Int)<(R.fs.length:Int):=by omega
  have q:(0:Int)<=(i:Int):=by omega
  have y:(t.setCell ⟨n,g+i*3+2,none⟩ (.int .i64 1)).cell? ⟨rb,2,none⟩=some (.int .i64 R.first):=k.o.1.fM;simp only[G7];go_wp2_with fail;go_ret2;rw[d.o];exact⟨by simp,(iA.quiet a.o b).trans k.o.2,_,k.o.1⟩
def gT(R:PR):Nat×PR:=if R.shut then(12,R) else(0,{ R with shut:=true })
theorem vH(h:RM w rb yb R fv):
  Calls Tryz.prog 45 #[.pointer (some ⟨rb,0,none⟩)] w fun e w'=>e=.returned (.int .i64 (gT R).1)/\iA rb yb w w'/\∃ fh,RM w' rb yb (gT R).2 fh:=by
 have b:=h.gS;have c:=h.free 4;cases hs:R.shut with
 | true =>
  have a:Hi (gT R=(12,R)):=if_pos hs;rw[hs] at b;go_enter Tryz.func45,Tryz.ntmps45;go_wp2_with fail;go_ret;rw[a.o];exact⟨rfl,iA.refl _ _ _,fv,h⟩
 | false =>
  have a:Hi (gT R=(0,{ R with shut:=true })):=if_neg (by rw[hs];decide);rw[hs] at b;go_enter Tryz.func45,Tryz.ntmps45;go_wp2_with fail;go_ret;rw[a.o];exact⟨rfl,(h.Gx true).2,fv,(h.Gx true).1⟩
def Kept(R:PR):Prop:=∀(i:Nat) (f:PF),R.fs[i]?=some f->iG R.row f.at_ f.data/\f.data.length<=1000
def fH(R:PR)(n from_ ik:Int):Bs×Nat:=match dL R n with
 | none=>([],13)
 | some i=>match R.fs[i]? with
  | none=>([],13)
  | some f=>if from_<0\/ik<from_\/(f.data.length:Int)<ik then([],8) else((f.data.drop from_.toNat).take (ik-from_).toNat,0)
theorem lD{n:Int}(h:dL R n=some i):∃ f,R.fs[i]?=some f/\f.st=1:=by
 unfold dL at h
 split at h
 ·simp at h
 ·split at h
  ·rename_i f a
   split at h
   ·rename_i c;have b:=Option.some.inj h;rw[b] at a;exact⟨f,a,c⟩
   ·simp at h
  ·simp at h
theorem Cc(h:RM w rb yb R fv){at_:Nat}(iz:iG R.row at_ d)(a n c:Nat)(Jr:a+n<=d.length):
  (convert 118 9 (.slice (some ⟨yb,at_*8+2+a,none⟩) n c)).run Tryz.prog w=.ok (.string (ba ((d.drop a).take n))) w:=by
 have f:((d.drop a).take n).length=n:=by rw[List.length_take,List.length_drop];omega
 have:=run_convert_bytes_back (P:=Tryz.prog) w 118 9 5 ⟨yb,at_*8+2+a,none⟩ c ((d.drop a).take n) Tryz.underlying118 Tryz.underlying5 Tryz.underlying9 (fun j hj=>by
  have e:(⟨yb,at_*8+2+a,none⟩:Addr).add j=⟨yb,at_*8+2+a+j,none⟩:=by simp[Addr.add]
  rw[e,cell_of_heap h.y];obtain⟨p,s,aE,g⟩:=iz;rw[f] at hj;have b:a+j<d.length:=by omega
  simp only[Lib.byteCells,List.getElem?_toArray,List.getElem?_map];rw[aE,show at_*8+2+a+j=(p++mX d.length).length+(a+j) by simp[mX];omega,List.append_assoc,List.getElem?_append_right (Nat.le_add_right _ _),Nat.add_sub_cancel_left,List.getElem?_append_left b]
  simp[List.getElem_take,List.getElem_drop,b])
 rw[f] at this;exact this
def cD(R:PR)(n:Int):Bs×Nat:=match dL R n with
 | none=>([],13)
 | some i=>match R.fs[i]? with
  | none=>([],13)
  | some f=>(f.data,0)
theorem tk(h:RM w rb yb R fv)(hK:Kept R)(hl:R.fs.length<=1000000)(nM:1<=R.first)(jt:R.first<=3000000000000)(n:Int)(eQ:-9223372036854775808<=n)(ka:n<=9223372036854775807):
  Calls Tryz.prog 50 #[.pointer (some ⟨rb,0,none⟩),.int .i64 n] w fun e w'=>e=.returned (.tuple #[.string (ba (cD R n).1),.int .i64 (cD R n).2])/\Fr Zero w w':=by
 obtain⟨A,B,rfl⟩:=h.f.len;go_enter Tryz.func50,Tryz.ntmps50;go_wp2_with fail;refine(qF h hl nM jt n eQ ka).mono ?_;rintro e J ⟨⟨i,rfl,a⟩,(b:Hi _)⟩;have d:=ab (h.quiet b);rcases hq:dL R n with _|j
 ·have l:Hi (cD R n=([],13)):=ab (by unfold cD;rw[hq]);simp only[Option.isSome_none];go_wp2_with fail;go_ret2;rw[l.o];exact⟨rfl,b⟩
 ·obtain⟨f,c,iz⟩:=lD hq;have v:i=j:=a j hq;subst v;have l:Hi (cD R n=(f.data,0)):=ab (by unfold cD;rw[hq];simp only[c]);have x:=d.o.cE;obtain⟨C,q,au,k,D,E,F,G⟩:=d.o.f.at_ c;obtain⟨rfl,_,rfl⟩:A=some ⟨C,q,none⟩/\True/\B=au:=by simp at k;exact⟨k.1,trivial,k.2⟩
  obtain⟨t,r⟩:=hK j f c;have y:j<R.fs.length:=(List.getElem?_eq_some_iff.1 c).1;have I:(j:Int)<(R.fs.length:Int):=by omega
  simp only[Option.isSome_some];go_wp2_with fail;refine(Ce d.o f.at_ f.data t r).mono ?_;rintro e K ⟨rfl,ao⟩;have m:=ab (b.o.trans ao);have z:=ab (d.o.quiet ao);have p:=Cc z.o t 0 f.data.length (8*R.g-f.at_*8-2) (by omega);rw[List.drop_zero,List.take_length,Nat.add_zero] at p;go_wp2_with fail;go_ret2;rw[l.o];exact⟨rfl,m⟩
theorem EB(d:Bs)(a b:Nat):(ba d).extract a b=ba ((d.drop a).take (b-a)):=by
 apply ef;rw[ByteArray.data_extract,Array.toList_extract,List.extract_eq_take_drop,dk,dk]
theorem CJ(h:RM w rb yb R fv)(hK:Kept R)(hl:R.fs.length<=1000000)(nM:1<=R.first)(jt:R.first<=3000000000000)(n from_ ik:Int)(eQ:-9223372036854775808<=n)(ka:n<=9223372036854775807)(xq:-9223372036854775808<=from_)(lh:from_<=9223372036854775807)(D6:-9223372036854775808<=ik)(Cp:ik<=9223372036854775807):
  Calls Tryz.prog 42 #[.pointer (some ⟨rb,0,none⟩),.int .i64 n,.int .i64 from_,.int .i64 ik] w fun e w'=>e=.returned (.tuple #[.string (ba (fH R n from_ ik).1),.int .i64 (fH R n from_ ik).2])/\Fr Zero w w':=by
 go_enter Tryz.func42,Tryz.ntmps42;go_wp2_with fail;refine(tk h hK hl nM jt n eQ ka).mono ?_;rintro e z ⟨rfl,(c:Hi _)⟩;rcases hq:dL R n with _|j
 ·have g:Hi (fH R n from_ ik=([],13)):=ab (by unfold fH;rw[hq]);have k:Hi (cD R n=([],13)):=ab (by unfold cD;rw[hq]);rw[k.o];go_wp2_with fail;go_ret2;rw[g.o];exact⟨rfl,c⟩
 ·obtain⟨f,i,iz⟩:=lD hq;have g:Hi (fH R n from_ ik=if from_<0\/ik<from_\/(f.data.length:Int)<ik then([],8) else((f.data.drop from_.toNat).take (ik-from_).toNat,0)):=ab (by unfold fH;rw[hq];simp only[i]);have k:Hi (cD R n=(f.data,0)):=ab (by unfold cD;rw[hq];simp only[i]);obtain⟨y,l⟩:=hK j f i;have dJ:=aI f.data;have s:∀ a b,Hi ((ba f.data).extract a b=ba ((f.data.drop a).take (b-a))):=fun a b=>EB f.data a b
  rw[k.o];simp only;generalize ba f.data=S at *;rw[<-dJ] at g l
  by_cases p:from_<0
  ·have d:Hi (fH R n from_ ik=([],8)):=g.o.trans (if_pos (.inl p));go_wp2_with fail;go_ret2;rw[d.o];exact⟨rfl,c⟩
  ·have t:decide (from_<0)=false:=decide_eq_false p
   by_cases q:ik<from_
   ·have d:Hi (fH R n from_ ik=([],8)):=g.o.trans (if_pos (.inr (.inl q)));go_wp2_with fail;go_ret2;rw[d.o];exact⟨rfl,c⟩
   ·have u:decide (ik<from_)=false:=decide_eq_false q
    by_cases r:(S.size:Int)<ik
    ·have d:Hi (fH R n from_ ik=([],8)):=g.o.trans (if_pos (.inr (.inr r)));go_wp2_with fail;go_ret2;rw[d.o];exact⟨rfl,c⟩
    ·have v:decide ((S.size:Int)<ik)=false:=decide_eq_false r;have d:Hi (fH R n from_ ik=((f.data.drop from_.toNat).take (ik-from_).toNat,0)):=g.o.trans (if_neg (by omega));obtain⟨a,rfl⟩:∃ a:Nat,from_=a:=⟨from_.toNat,by omega⟩;obtain⟨b,rfl⟩:∃ b:Nat,ik=b:=⟨ik.toNat,by omega⟩;have x:(a:Int)<=(b:Int):=by omega
     have eQ:a<=b:=by omega
     have ka:b<=S.size:=by omega
     rw[show((b:Int)-(a:Int)).toNat=b-a by omega,Int.toNat_natCast] at d;go_wp2_with fail;go_ret2;rw[d.o];refine⟨?_,c⟩;simp only;rw[<-(s a b).o];rfl
theorem kS.tail{v:Value}(h:kS w v (f::l)):∃ fb off au,v=.slice (some ⟨fb,off,none⟩) (l.length+1) au/\0<au/\w.cell? ⟨fb,off+2,none⟩=some (.int .i64 f.st)/\(au=1->kS w (.slice (some ⟨fb,off,none⟩) l.length 0) l)/\(1<au->kS w (.slice (some ⟨fb,off+3,none⟩) l.length (au-1)) l):=by
 rcases h with⟨_,h⟩|⟨fb,off,au,a,rfl,b,g,i,k,c⟩
 ·simp at h
 ·have e:cH (f::l)=.int .i64 f.at_::.int .i64 f.takes::.int .i64 f.st::cH l:=rfl;simp only[List.length_cons] at g;refine⟨fb,off,au,by simp,by omega,?_,fun hc=>?_,fun hc=>?_⟩
  ·rw[cell_of_heap b];exact c 2 _ (by rw[e];rfl)
  ·have d:l=[]:=List.eq_nil_of_length_eq_zero (by omega);subst d;exact .inr ⟨fb,off,0,a,rfl,b,by simp,by omega,by unfold maxLen;omega,fun j u hj=>by simp[cH] at hj⟩
  ·refine .inr ⟨fb,off+3,au-1,a,rfl,b,by omega,by omega,by omega,fun j u hj=>?_⟩
   have:=c (j+3) u (by rw[e];exact hj)
   rw[show off+3+j=off+(j+3) by omega];exact this
theorem RM.xY(h:RM w rb yb R fv)(n:Nat):RM (w.setCell ⟨rb,2,none⟩ (.int .i64 n)) rb yb { R with first:=n } fv/\iA rb yb w (w.setCell ⟨rb,2,none⟩ (.int .i64 n)):=by
 have a:Fr (One rb) w (w.setCell ⟨rb,2,none⟩ (.int .i64 n)):=Fr.setCell _ _ _ _ rfl;have b:RM (w.setCell ⟨rb,2,none⟩ (.int .i64 n)) rb yb { R with first:=n } fv:=⟨by rw[heap_setCell_same h.r];rfl,a.ae h.y (fun e=>h.ne (by have c:yb=rb:=e;exact c.symm)),h.f.ae a (fun g hg e=>h.zQ hg e),h.g2,h.g64,h.len⟩;exact⟨b,iA.of h b (a.mono (fun k _ e=>.inl e)) (fun _ _ e=>e)⟩
def iP:List PF->Nat->List PF×Nat
 | [],n=>([],n)
 | f::l,n=>if f.st=2 then iP l (n+1) else(f::l,n)
def gx(R:PR)(n:Int):Nat×PR:=match dL R n with
 | none=>(13,R)
 | some i=>(0,{ R with fs:=(iP (aZ R.fs i 2) R.first).1,first:=(iP (aZ R.fs i 2) R.first).2 })
def xh(rb:Nat)(w:World):Nat:=match w.cell? ⟨rb,1,none⟩ with
 | some (.slice _ n _)=>n
 | _=>0
theorem RM.lenF(h:RM w rb yb R fv):xh rb w=R.fs.length:=by
 unfold Go.Proofs.YtpffifpbpmlhdaaGreatDoor.Q.xh;rw[h.cE];obtain⟨a,c,rfl⟩:=h.f.len;rfl
theorem lk(h:RM w rb yb R fv)(hl:R.fs.length<=1000000)(nM:1<=R.first)(jt:R.first<=3000000000000)(n:Int)(eQ:-9223372036854775808<=n)(ka:n<=9223372036854775807):
  Calls Tryz.prog 44 #[.pointer (some ⟨rb,0,none⟩),.int .i64 n] w fun e w'=>e=.returned (.int .i64 (gx R n).1)/\iA rb yb w w'/\∃ fh,RM w' rb yb (gx R n).2 fh:=by
 have t:=h.lt;obtain⟨fa,fc,rfl⟩:=h.f.len;go_enter Tryz.func44,Tryz.ntmps44;go_wp2_with fail;refine(qF h hl nM jt n eQ ka).mono ?_;rintro e w1 ⟨⟨i,rfl,r⟩,(s:Hi _)⟩;have z:=ab (h.quiet s);rcases hq:dL R n with _|j
 ·have A:Hi (gx R n=(13,R)):=ab (by unfold gx;rw[hq]);simp only[Option.isSome_none];go_wp2_with fail;go_ret;rw[A.o];exact⟨rfl,iA.quiet s.o t,_,z.o⟩
 ·obtain⟨f,P,iz⟩:=lD hq;have Y:i=j:=r j hq;subst Y;have A:Hi (gx R n=(0,{ R with fs:=(iP (aZ R.fs j 2) R.first).1,first:=(iP (aZ R.fs j 2) R.first).2 })):=ab (by unfold gx;rw[hq]);have B:=z.o.cE;obtain⟨fb,Q,au,g,c1,c2,c3,c4⟩:=z.o.f.at_ P;obtain⟨rfl,_,rfl⟩:fa=some ⟨fb,Q,none⟩/\True/\fc=au:=by simp at g;exact⟨g.1,trivial,g.2⟩
  have C:j<R.fs.length:=(List.getElem?_eq_some_iff.1 P).1;have hI:(j:Int)<(R.fs.length:Int):=by omega
  have D:=ab (z.o.GQ C 2);have E:=ab ((iA.quiet s.o t).trans D.o.2);have F:=ab D.o.1;have G:Hi ((aZ R.fs j 2).length=R.fs.length):=eH _ _ _;simp only[Option.isSome_some];go_wp2_with fail
  go_loopw [] (fun wr=>∃(l:List PF) (m:Nat) (v:Value),l.length<=1000000/\m+l.length<=4000000000000/\Hi (RM wr rb yb { R with fs:=l,first:=m } v)/\Hi (iP l m=iP (aZ R.fs j 2) R.first)/\Hi (iA rb yb w wr)) (fun wr=>xh rb wr)
  case atStart =>
   have:=G.o
   exact⟨aZ R.fs j 2,R.first,_,by omega,by omega,F.o,rfl,E.o⟩
  case round =>
   obtain⟨l,m,v,S,T,a,U,d⟩:=hrel;have B:=a.o.cE;have k2:=a.o.fM;have Z:=a.o.free 1;rcases l with _|⟨x,l⟩
   ·obtain⟨va,vc,rfl⟩:=a.o.f.len;have I:Hi (iP (aZ R.fs j 2) R.first=([],m)):=U.o.symm;simp only[List.length_nil] at B;go_wp2_with fail;go_ret;rw[A.o,I.o];exact⟨rfl,d,_,a.o⟩
   ·obtain⟨xb,xo,V,rfl,qU,W,D6,Cp⟩:=a.o.f.tail;have k9:(0:Int)<((l.length+1:Nat):Int):=by omega
    have X:(1:Int)<=((l.length+1:Nat):Int):=by omega
    have aa:l.length+1<=V:=by
     rcases a.o.f with⟨q,_⟩|⟨_,_,_,_,q1,_,q3,_⟩
     ·simp at q
     ·simp at q1;simp only[List.length_cons] at q3;omega
    have u:Hi (xh rb wr=l.length+1):=ab (by rw[a.o.lenF];rfl)
    by_cases y:x.st=2
    ·rw[y] at W;have c:Hi (iP l (m+1)=iP (aZ R.fs j 2) R.first):=ab (by rw[<-U.o];simp only[iP];rw[if_pos y]);simp only[List.length_cons] at S T
     by_cases L:V=1
     ·subst L;obtain rfl:l=[]:=List.eq_nil_of_length_eq_zero (by omega);have b:=a.o.Cm (D6 rfl) (Fr.refl _ _) (fun k _ e=>by simpa[al] using e);simp only[List.length_nil] at b;have z2:=b.1.fM;have N:=b.1.free 2;have p:=ab (b.1.xY (m+1));go_wp2_with fail;refine⟨⟨[],m+1,_,by simp,by simp;omega,p.o.1,c,(d.o.trans b.2).trans p.o.2⟩,?_⟩;have g:=p.o.1.lenF;rw[u.o];refine Nat.lt_of_le_of_lt (Nat.le_of_eq g) ?_;simp
     ·have O:1<V:=by omega
      have b:=a.o.Cm (Cp O) (Fr.refl _ _) (fun k _ e=>by simpa[al] using e);have z2:=b.1.fM;have N:=b.1.free 2;have p:=ab (b.1.xY (m+1));go_wp2_with fail;refine⟨⟨l,m+1,_,by omega,by omega,p.o.1,c,(d.o.trans b.2).trans p.o.2⟩,?_⟩;have g:=p.o.1.lenF;rw[u.o];refine Nat.lt_of_le_of_lt (Nat.le_of_eq g) ?_;simp
    ·have ac:((x.st:Int)==2)=false:=beq_eq_false_iff_ne.2 (by omega);have c:Hi (iP (aZ R.fs j 2) R.first=(x::l,m)):=ab (by rw[<-U.o];simp only[iP];rw[if_neg y]);go_wp2_with fail;go_ret;rw[A.o,c.o];exact⟨rfl,d,_,a.o⟩
theorem Fr.four(X:Nat->Prop)(w:World)(b:Nat)(v0 v1 v2 v3:Value)(hx:X b):Fr X w ((((w.setCell ⟨b,0,none⟩ v0).setCell ⟨b,1,none⟩ v1).setCell ⟨b,2,none⟩ v2).setCell ⟨b,3,none⟩ v3) :=
 (((Fr.setCell X w ⟨b,0,none⟩ v0 hx).trans (Fr.setCell X _ ⟨b,1,none⟩ v1 hx)).trans (Fr.setCell X _ ⟨b,2,none⟩ v2 hx)).trans (Fr.setCell X _ ⟨b,3,none⟩ v3 hx)
theorem eL{b:Nat}{a0 a1 a2 a3:Value}{t:TypeId}{f:Nat×Nat}(h:w.heap[b]?=some (.cells #[a0,a1,a2,a3] t f))(v0 v1 v2 v3:Value):
  ((((w.setCell ⟨b,0,none⟩ v0).setCell ⟨b,1,none⟩ v1).setCell ⟨b,2,none⟩ v2).setCell ⟨b,3,none⟩ v3).heap[b]?=some (.cells #[v0,v1,v2,v3] t f):=by
 rw[heap_setCell_same (heap_setCell_same (heap_setCell_same (heap_setCell_same h)))];rfl
theorem cN{b:Nat}(hk:k≠b)(v0 v1 v2 v3:Value):
  ((((w.setCell ⟨b,0,none⟩ v0).setCell ⟨b,1,none⟩ v1).setCell ⟨b,2,none⟩ v2).setCell ⟨b,3,none⟩ v3).heap[k]?=w.heap[k]?:=by
 rw[Below.heap_setCell _ _ _ _ hk,Below.heap_setCell _ _ _ _ hk,Below.heap_setCell _ _ _ _ hk,Below.heap_setCell _ _ _ _ hk]
theorem fw{fn:Func}{p:Tmp}{t1:TypeId}(h:fn.results=#[.cell p t1])(tmps:Array Value)(P:Program)(w:World):
  (results fn tmps).run P w=((asAddr (tmps.getD p undef)).run P w).andThen fun a w₁=>(loadVar t1 a).run P w₁:=by
 simp only[results,h];simp[Sem.run_bind,Result.andThen]
def jA(R:PR):Value:=.agg #[.int .i64 (taken R.fs),.int .i64 (aQ 0 R.fs),.int .i64 (aQ 1 R.fs),.bool R.shut]
theorem vS(h:RM w rb yb R fv)(ht:taken R.fs<=1000000)(hl:R.fs.length<=1000000):
  Calls Tryz.prog 46 #[.pointer (some ⟨rb,0,none⟩)] w fun e w'=>e=.returned (jA R)/\Fr Zero w w':=by
 have k:Hi (Fr Zero w (w.alloc (.cells #[.int .i64 0,.int .i64 0,.int .i64 0,.bool false] 68)).drew):=(Fr.alloc _ _ _).trans (Fr.drew _ _);have l:Hi ((w.alloc (.cells #[.int .i64 0,.int .i64 0,.int .i64 0,.bool false] 68)).drew.heap[w.heap.size]?=some (.cells #[.int .i64 0,.int .i64 0,.int .i64 0,.bool false] 68 (0,0))):=af rfl _;have f:=ab (h.quiet k.o);have d:=f.o.gS;go_enter Tryz.func46,Tryz.ntmps46;go_wp2_with fail;refine wp_region_held_drew (S:=fun W=>W.cell? ⟨rb,4,none⟩=some (.bool R.shut)) (by kernel_rfl) d (fun hT=>?_);refine wt 0 d ?_
 refine wt 2 d ?_
 refine wt 4 d ?_
 refine wt 6 d ?_
 refine wt 7 d ?_
 refine wt 8 d ?_
 refine wt 9 d ?_
 generalize (w.alloc (.cells #[.int .i64 0,.int .i64 0,.int .i64 0,.bool false] 68)).drew=w0 at *;refine wpAnyH_ready (rs:=[1]) (by kernel_rfl) (by simp) ?_;refine wc 1 (fun K hK=>?_) AllReadyH.nil
 go_simp
 refine(oq f.o ht hl).mono ?_;rintro e I ⟨rfl,a⟩;have m:=ab (k.o.trans a);have n:=ab (a.ae l.o (fun h=>h));have g:=ab (f.o.quiet a);have u:=g.o.gS;go_wp2_with fail;refine hK.out _ _ u (fun _=>?_)
 refine wpAnyH_ready (rs:=[3]) (by kernel_rfl) (by simp) ?_;refine wc 3 (fun K hK=>?_) AllReadyH.nil
 go_simp
 refine(iY g.o hl 0 (by omega)).mono ?_;rintro e J ⟨rfl,a⟩;have p:=ab (m.o.trans a);have q:=ab (a.ae n.o (fun h=>h));have i:=ab (g.o.quiet a);have x:=i.o.gS;go_wp2_with fail;refine hK.out _ _ x (fun _=>?_)
 refine wpAnyH_ready (rs:=[5]) (by kernel_rfl) (by simp) ?_;refine wc 5 (fun K hK=>?_) AllReadyH.nil
 go_simp
 refine(iY i.o hl 1 (by omega)).mono ?_;rintro e j ⟨rfl,a⟩;have r:=ab (p.o.trans a);have c:=ab (a.ae q.o (fun h=>h));have s:=ab (i.o.quiet a);have t:=s.o.gS;go_wp2_with fail;refine hK.out _ _ t (fun _=>?_)
 have y:j.cell? ⟨w.heap.size,0,none⟩=some (.int .i64 0):=by rw[cell_of_heap c.o];rfl
 have z:j.cell? ⟨w.heap.size,1,none⟩=some (.int .i64 0):=by rw[cell_of_heap c.o];rfl
 have A:j.cell? ⟨w.heap.size,2,none⟩=some (.int .i64 0):=by rw[cell_of_heap c.o];rfl
 have B:j.cell? ⟨w.heap.size,3,none⟩=some (.bool false):=by rw[cell_of_heap c.o];rfl
 have C:∀ o,j.frozen? ⟨w.heap.size,o,none⟩=false:=fun o=>ak c.o
 refine wt 10 t ?_
 refine wpAnyH_ready (rs:=[11]) (by kernel_rfl) (by simp) ?_;refine wc 11 (fun K hK=>?_) AllReadyH.nil
 go_simp
 refine hK.out _ _ (by rw[World.cell?_of_block (cN (show rb≠w.heap.size by have:=h.lt;omega) _ _ _ _)];exact t) (fun _=>?_)
 refine wpAnyH_done (by kernel_rfl) ?_ _;go_wp2_with fail;refine bodyPost_ret (v:=jA R) ?_ rfl ⟨rfl,?_⟩
 ·rw[fw rfl];have e:=eL c.o (.int .i64 (taken R.fs)) (.int .i64 (aQ 0 R.fs)) (.int .i64 (aQ 1 R.fs)) (.bool R.shut);have D:=cell_of_heap (o:=0) e;have E:=cell_of_heap (o:=1) e;have F:=cell_of_heap (o:=2) e;have G:=cell_of_heap (o:=3) e
  go_simp
  try rfl
 ·exact r.o.past (Fr.four (fun b=>w.heap.size<=b) j w.heap.size _ _ _ _ (Nat.le_refl _))
def jQ(g:Nat):PR:=⟨g,List.replicate (8*g) 0,[],1,0,false⟩
structure SM(w:World)(sb rb yb:Nat)(R:PR):Prop where
 s:w.heap[sb]?=some (.cells #[.pointer (some ⟨rb,0,none⟩)] 94 (0,0))
 r:∃ fv,RM w rb yb R fv
theorem SM.dM(h:SM w sb rb yb R):w.cell? ⟨sb,0,none⟩=some (.pointer (some ⟨rb,0,none⟩)):=by rw[cell_of_heap h.s];rfl
theorem SM.lt(h:SM w sb rb yb R):rb<w.heap.size:=by obtain⟨fv,h1⟩:=h.r;exact h1.lt
theorem SM.quiet{w':World}(h:SM w sb rb yb R)(hf:Fr Zero w w'):SM w' sb rb yb R:=by
 obtain⟨a,b⟩:=h.r;exact⟨hf.ae h.s (fun h=>h),a,b.quiet hf⟩
theorem RM.eh(h:RM w rb yb R fv){cs:Array Value}{t:TypeId}{f:Nat×Nat}(hk:w.heap[k]?=some (.cells cs t f))(h1:t≠121)(h2:t≠5)(h3:t≠125):¬RX w rb yb k:=fun e=>by
 rcases RX.of h e with e|e|e
 ·rw[e,h.r] at hk;simp at hk;exact h1 hk.2.1.symm
 ·rw[e,h.y] at hk;simp at hk;exact h2 hk.2.1.symm
 ·rcases h.f with⟨q,_⟩|⟨fb,off,au,cur,q1,q2,_⟩
  ·rw[q] at e;simp[al] at e
  ·rw[q1] at e;simp[al] at e;rw[<-e,q2] at hk;simp at hk;exact h3 hk.2.1.symm
theorem SM.next{w':World}{R':PR}{fh:Value}(h:SM w sb rb yb R)(hf:iA rb yb w w')(h':RM w' rb yb R' fh):SM w' sb rb yb R':=by
 obtain⟨b,a⟩:=h.r;exact⟨hf.fr.ae h.s (a.eh h.s (by decide) (by decide) (by decide)),fh,h'⟩
theorem z6(g:Nat)(h2:2<=g)(tj:g<=64)(w:World):
  Calls Tryz.prog 53 #[.int .i64 g] w fun e w'=>e=.returned (.tuple #[.pointer (some ⟨w.heap.size+1,0,none⟩),.int .i64 0])/\Fr Zero w w'/\RM w' (w.heap.size+1) w.heap.size (jQ g) (.slice none 0 0):=by
 have b:¬(g:Int)<2:=by omega
 have c:¬(64:Int)<(g:Int):=by omega
 have a:=run_make_row' (P:=Tryz.prog) 118 5 (.int .u8 0) 1 Tryz.underlying118 (by kernel_rfl) rfl .i64 .i64 (8*g) (by omega) (by omega) w;rw[show(((8*g:Nat)):Int)=(g:Int)*8 by omega] at a
 have d:Hi (madeCells #[Value.int .u8 0] (8*g)=(Lib.byteCells (List.replicate (8*g) 0)).toArray):=by
  show _=_;apply Array.ext';rw[toList_madeCells_one];simp[Lib.byteCells]
 rw[d.o] at a;go_enter Tryz.func53,Tryz.ntmps53;go_wp2_with fail;go_ret2;refine⟨rfl,(Fr.alloc _ _ _).trans (Fr.alloc _ _ _),⟨af (by simp) _,?_,.inl ⟨rfl,rfl⟩,h2,tj,by simp[jQ]⟩⟩;rw[Below.heap_alloc _ _ _ (by simp)];exact af rfl _
theorem zZ(g:Int)(h:g<2\/64<g)(w:World):
  Calls Tryz.prog 53 #[.int .i64 g] w fun e w'=>e=.returned (.tuple #[.pointer none,.int .i64 8])/\w'=w:=by
 by_cases a:g<2
 ·go_enter Tryz.func53,Tryz.ntmps53;go_wp2_with fail;go_ret2;exact⟨rfl,rfl⟩
 ·have b:decide (g<2)=false:=decide_eq_false a;have c:64<g:=by omega
  go_enter Tryz.func53,Tryz.ntmps53;go_wp2_with fail;go_ret2;exact⟨rfl,rfl⟩
theorem CV(h:SM w sb rb yb R)(hT:Tidy R)(data:ByteArray)(hd:data.size<=1000000000000000):
  Calls Tryz.prog 11 #[.pointer (some ⟨sb,0,none⟩),.string data] w fun e w'=>e=.returned (.int .i64 (eu R data.data.toList).1)/\iA rb yb w w'/\SM w' sb rb yb (eu R data.data.toList).2:=by
 have f:=h.dM;obtain⟨g,c⟩:=h.r;go_enter Tryz.func11,Tryz.ntmps11;go_wp2_with fail;refine(lX c hT data hd).mono ?_;rintro e i ⟨rfl,(a:Hi _),fh,eU⟩;have b:=ab (h.next a eU);go_wp2_with fail;go_ret;exact⟨rfl,a,b⟩
theorem sC(h:SM w sb rb yb R)(hl:R.fs.length<=1000000)(jt:R.first<=3000000000000):
  Calls Tryz.prog 14 #[.pointer (some ⟨sb,0,none⟩)] w fun e w'=>e=.returned (.tuple #[.int .i64 (aN R).1,.int .i64 (aN R).2.1])/\iA rb yb w w'/\SM w' sb rb yb (aN R).2.2:=by
 have f:=h.dM;obtain⟨g,c⟩:=h.r;go_enter Tryz.func14,Tryz.ntmps14;go_wp2_with fail;refine(jZ c hl jt).mono ?_;rintro e i ⟨rfl,(a:Hi _),fh,eU⟩;have b:=ab (h.next a eU);go_wp2_with fail;go_ret2;exact⟨rfl,a,b⟩
theorem tT(h:SM w sb rb yb R)(hl:R.fs.length<=1000000)(nM:1<=R.first)(jt:R.first<=3000000000000)(n:Int)(eQ:-9223372036854775808<=n)(ka:n<=9223372036854775807):
  Calls Tryz.prog 18 #[.pointer (some ⟨sb,0,none⟩),.int .i64 n] w fun e w'=>e=.returned (.int .i64 (gx R n).1)/\iA rb yb w w'/\SM w' sb rb yb (gx R n).2:=by
 have f:=h.dM;obtain⟨g,c⟩:=h.r;go_enter Tryz.func18,Tryz.ntmps18;go_wp2_with fail;refine(lk c hl nM jt n eQ ka).mono ?_;rintro e i ⟨rfl,(a:Hi _),fh,eU⟩;have b:=ab (h.next a eU);go_wp2_with fail;go_ret;exact⟨rfl,a,b⟩
theorem AY(h:SM w sb rb yb R):
  Calls Tryz.prog 20 #[.pointer (some ⟨sb,0,none⟩)] w fun e w'=>e=.returned (.int .i64 (gT R).1)/\iA rb yb w w'/\SM w' sb rb yb (gT R).2:=by
 have f:=h.dM;obtain⟨g,c⟩:=h.r;go_enter Tryz.func20,Tryz.ntmps20;go_wp2_with fail;refine(vH c).mono ?_;rintro e i ⟨rfl,(a:Hi _),fh,eU⟩;have b:=ab (h.next a eU);go_wp2_with fail;go_ret;exact⟨rfl,a,b⟩
theorem AV(h:SM w sb rb yb R)(hK:Kept R)(hl:R.fs.length<=1000000)(nM:1<=R.first)(jt:R.first<=3000000000000)(n from_ ik:Int)(eQ:-9223372036854775808<=n)(ka:n<=9223372036854775807)(xq:-9223372036854775808<=from_)(lh:from_<=9223372036854775807)(D6:-9223372036854775808<=ik)(Cp:ik<=9223372036854775807):
  Calls Tryz.prog 16 #[.pointer (some ⟨sb,0,none⟩),.int .i64 n,.int .i64 from_,.int .i64 ik] w fun e w'=>e=.returned (.tuple #[.string (ba (fH R n from_ ik).1),.int .i64 (fH R n from_ ik).2])/\Fr Zero w w':=by
 have d:=h.dM;obtain⟨f,b⟩:=h.r;go_enter Tryz.func16,Tryz.ntmps16;go_wp2_with fail;refine(CJ b hK hl nM jt n from_ ik eQ ka xq lh D6 Cp).mono ?_;rintro e g ⟨rfl,(a:Hi _)⟩;go_wp2_with fail;go_ret2;exact⟨rfl,a⟩
theorem CW(g:Int)(h:g<2\/64<g)(w:World):
  Calls Tryz.prog 35 #[.int .i64 g] w fun e w'=>e=.returned (.tuple #[.pointer none,.int .i64 8])/\w'=w:=by
 go_enter Tryz.func35,Tryz.ntmps35;go_wp2_with fail;refine(zZ g h _).mono ?_;rintro e b ⟨rfl,a⟩;obtain rfl:=a.symm;go_wp2_with fail;go_ret2;exact⟨rfl,rfl⟩
theorem AZ(h:SM w sb rb yb R)(ht:taken R.fs<=1000000)(hl:R.fs.length<=1000000):
  Calls Tryz.prog 22 #[.pointer (some ⟨sb,0,none⟩)] w fun e w'=>e=.returned (jA R)/\Fr Zero w w':=by
 have j:=h.dM;have g:sb<w.heap.size:=lt_of_heap h.s;obtain⟨y,f⟩:=h.r;go_enter Tryz.func22,Tryz.ntmps22;go_wp2_with fail;refine(vS (f.quiet (Fr.alloc _ _ _)) ht hl).mono ?_;rintro e a ⟨rfl,(d:Hi _)⟩;have c:Hi (a.heap[w.heap.size]?=some (.cells #[.int .i64 0,.int .i64 0,.int .i64 0,.bool false] 68 (0,0))):=d.o.ae (af rfl _) (fun h=>h);have k:a.cell? ⟨w.heap.size,0,none⟩=some (.int .i64 0):=by rw[cell_of_heap c.o];rfl
 have l:a.cell? ⟨w.heap.size,1,none⟩=some (.int .i64 0):=by rw[cell_of_heap c.o];rfl
 have m:a.cell? ⟨w.heap.size,2,none⟩=some (.int .i64 0):=by rw[cell_of_heap c.o];rfl
 have n:a.cell? ⟨w.heap.size,3,none⟩=some (.bool false):=by rw[cell_of_heap c.o];rfl
 have p:∀ o,a.frozen? ⟨w.heap.size,o,none⟩=false:=fun o=>ak c.o
 unfold jA;go_wp2_with fail;refine bodyPost_ret (v:=jA R) ?_ rfl ⟨rfl,?_⟩
 ·rw[fw rfl];have e:=eL c.o (.int .i64 (taken R.fs)) (.int .i64 (aQ 0 R.fs)) (.int .i64 (aQ 1 R.fs)) (.bool R.shut);have q:=cell_of_heap (o:=0) e;have t:=cell_of_heap (o:=1) e;have u:=cell_of_heap (o:=2) e;have x:=cell_of_heap (o:=3) e
  go_simp
  try rfl
 ·exact((Fr.alloc Zero w _).trans d.o).past (Fr.four (fun b=>w.heap.size<=b) a w.heap.size _ _ _ _ (Nat.le_refl _))
def cA(w:World)(ty:TypeId)(sz:Nat)(v:Value)(n:Nat)(xs:List Value):Prop :=
 xs.length=n*sz/\((v=.slice none 0 0/\n=0)\/∃(fb off au:Nat) (cur:Array Value),v=.slice (some ⟨fb,off,none⟩) n au/\w.heap[fb]?=some (.cells cur ty (0,0))/\n<=au/\off+au*sz<=cur.size/\au<=maxLen/\∀ j u,xs[j]?=some u->cur[off+j]?=some u)
section
variable {w w':World} {ty:TypeId} {sz:Nat} {v:Value} {n:Nat} {xs:List Value}
theorem cA.ae{X:Nat->Prop}(h:cA w ty sz v n xs)(hf:Fr X w w')(hx:∀ g,al v=some g->¬X g):cA w' ty sz v n xs:=by
 obtain⟨e,h⟩:=h;refine⟨e,?_⟩;rcases h with h|⟨c,a,au,b,d,f,i⟩
 ·exact .inl h
 ·exact .inr ⟨c,a,au,b,d,hf.ae f (hx c (by rw[d];rfl)),i⟩
theorem cA.nil(w:World)(ty:TypeId)(sz:Nat):cA w ty sz (.slice none 0 0) 0 []:=⟨by simp,.inl ⟨rfl,rfl⟩⟩
theorem cA.len(h:cA w ty sz v n xs):∃ a au,v=.slice a n au:=by
 rcases h.2 with⟨rfl,rfl⟩|⟨d,b,au,c,rfl,_⟩
 ·exact⟨none,0,rfl⟩
 ·exact⟨_,au,rfl⟩
theorem cA.at_(h:cA w ty sz v n xs){j:Nat}{u:Value}(hj:xs[j]?=some u):∃ fb off au,v=.slice (some ⟨fb,off,none⟩) n au/\w.cell? ⟨fb,off+j,none⟩=some u:=by
 obtain⟨d,h⟩:=h;rcases h with⟨_,rfl⟩|⟨fb,off,au,a,rfl,b,_,_,_,c⟩
 ·have:=(List.getElem?_eq_some_iff.1 hj).1
  omega
 ·exact⟨fb,off,au,rfl,by rw[cell_of_heap b];exact c _ _ hj⟩
theorem cA.ne(h:cA w ty sz v n xs){cs:Array Value}{t:TypeId}{f:Nat×Nat}(hk:w.heap[k]?=some (.cells cs t f))(ht:ty≠t):al v≠some k:=fun e=>by
 rcases h.2 with⟨q,_⟩|⟨fb,off,au,cur,q1,q2,_⟩
 ·rw[q] at e;simp[al] at e
 ·rw[q1] at e;simp[al] at e;rw[e,hk] at q2;simp at q2;exact ht q2.2.1.symm
theorem cA.take(h:cA w ty sz v n xs)(hm:m<=n):∃ a au,v=.slice a n au/\(0<n->n<=au/\cA w ty sz (.slice a m au) m (xs.take (m*sz))):=by
 obtain⟨d,h⟩:=h;rcases h with⟨rfl,rfl⟩|⟨e,b,au,c,rfl,f,g,i,k,l⟩
 ·exact⟨none,0,rfl,fun h=>by omega⟩
 ·refine⟨_,au,rfl,fun _=>⟨g,?_,.inr ⟨e,b,au,c,rfl,f,by omega,i,k,fun j u hj=>?_⟩⟩⟩
  ·rw[List.length_take,d];exact Nat.min_eq_left (Nat.mul_le_mul_right _ hm)
  ·rw[List.getElem?_take] at hj
   split at hj
   ·exact l j u hj
   ·simp at hj
theorem cA.drop(h:cA w ty sz v n xs)(hm:m<=n)(Jt:0<n):∃ fb off au,v=.slice (some ⟨fb,off,none⟩) n au/\n<=au/\(m<au->cA w ty sz (.slice (some ⟨fb,off+m*sz,none⟩) (n-m) (au-m)) (n-m) (xs.drop (m*sz)))/\(m=au->cA w ty sz (.slice (some ⟨fb,off,none⟩) 0 0) 0 (xs.drop (m*sz))):=by
 obtain⟨b,h⟩:=h;rcases h with⟨_,h⟩|⟨fb,off,au,a,rfl,c,f,k,l,g⟩
 ·omega
 ·have d:m*sz<=n*sz:=Nat.mul_le_mul_right _ hm;refine⟨fb,off,au,rfl,f,fun hmc=>⟨?_,.inr ⟨fb,off+m*sz,au-m,a,rfl,c,by omega,?_,by omega,fun j u hj=>?_⟩⟩,fun hmc=>⟨?_,.inr ⟨fb,off,0,a,rfl,c,by omega,by omega,by unfold maxLen;omega,fun j u hj=>?_⟩⟩⟩
  ·rw[List.length_drop,b,Nat.sub_mul]
  ·have e:(au-m)*sz=au*sz-m*sz:=Nat.sub_mul _ _ _
   have:m*sz<=au*sz:=Nat.mul_le_mul_right _ (by omega)
   omega
  ·rw[List.getElem?_drop] at hj
   have:=g _ u hj
   rw[show off+m*sz+j=off+(m*sz+j) by omega];exact this
  ·rw[List.length_drop,b]
   have:m=n:=by omega
   subst this;simp
  ·rw[List.getElem?_drop] at hj;have i:=(List.getElem?_eq_some_iff.1 hj).1
   have:m=n:=by omega
   subst this;omega
theorem cA.src(h:cA w ty sz v n xs){t e':TypeId}(hk:Tryz.prog.underlying t=some (.slice e'))(h1:∀ u∈xs,u.oneCell'=true):Src Tryz.prog sz t v n xs w:=by
 obtain⟨c,h⟩:=h;rcases h with⟨rfl,rfl⟩|⟨b,a,au,d,rfl,f,i,k,l,g⟩
 ·have:xs=[]:=List.eq_nil_of_length_eq_zero (by omega)
  subst this;exact Src.ofNil w hk 0
 ·refine Src.ofSlice w hk _ _ _ _ c (fun j u hj=>?_) h1;have e:(⟨b,a,none⟩:Addr).add j=⟨b,a+j,none⟩:=by simp[Addr.add]
  rw[e,cell_of_heap f];exact g j u hj
end
theorem vO{t ty:TypeId}{sz bytes:Nat}{z:Value}(ht:Tryz.prog.underlying t=some (.slice ty))(D9:(Tryz.prog.info? ty).map (fun i=>(i.zero,i.size,i.bytes))=some (some z,sz,bytes))(IK:z.cells.size=sz){v:Value}{n:Nat}{xs:List Value}(h:cA w ty sz v n xs)(tx tr:TypeId)(x:Value)(m:Nat)(fE:List Value)(hs:Src Tryz.prog sz tx x m fE w)(hl:(n+m)*bytes<=140737488355328)(Ai:n+m<=4000000000000):
  ∃ v' w',(Builtin.append_ #[t,tx] tr #[v,x]).run Tryz.prog w=.ok v' w'/\cA w' ty sz v' (n+m) (xs++fE)/\Fr (px v) w w'/\(∀ k,k<w.heap.size->al v'=some k->al v=some k):=by
 obtain⟨i,K,T,b,L⟩:=info_parts D9;have c:=hs;rw[<-b] at c;have il:=hs.newsLen;obtain⟨A,h⟩:=h;have s:(xs++fE).length=(n+m)*sz:=by rw[List.length_append,A,il,Nat.add_mul]
 have l:∀(g:Option Addr) (au:Nat),au<n+m->v=.slice g n au->(Builtin.firstCells i.size n (.slice g n au)).run Tryz.prog w.drew=.ok xs.toArray w.drew ->
   ∃ v' w',(Builtin.append_ #[t,tx] tr #[v,x]).run Tryz.prog w=.ok v' w'/\cA w' ty sz v' (n+m) (xs++fE)/\Fr (px v) w w'/\(∀ k,k<w.heap.size->al v'=some k->al v=some k):=by
  intro g au r M B;subst M;have C:=run_append_grow_src (P:=Tryz.prog) w t tx tr ty i z ht K T g n au xs B x m fE c r (by omega) (by rw[L];exact growslice_fits r hl);have y:=grownCap_ge w (n+m) au ty;have D:grownCap w (n+m) au ty<=maxLen:=grownCap_le_maxLen w (n+m) au ty (by unfold maxLen;omega);refine⟨_,_,C,⟨s,.inr ⟨w.heap.size,0,grownCap w (n+m) au ty,_,rfl,heap_alloc_new w.drew _,y,?_,D,fun j u hj=>?_⟩⟩,⟨rfl,rfl,rfl,by simp,fun k o _=>Below.heap_alloc w.drew _ _ o⟩,fun k o e=>by simp[al] at e;omega⟩
  ·simp only[Array.size_append,List.size_toArray,size_zeroCells,s,IK];have e:(grownCap w (n+m) au ty-(n+m))*sz=grownCap w (n+m) au ty*sz-(n+m)*sz:=Nat.sub_mul _ _ _;have W:(n+m)*sz<=grownCap w (n+m) au ty*sz:=Nat.mul_le_mul_right _ y;omega
  ·rw[Nat.zero_add];have E:j<(xs++fE).length:=(List.getElem?_eq_some_iff.1 hj).1;rw[Array.getElem?_append_left (by simpa using E)];simpa using hj
 rcases h with⟨rfl,rfl⟩|⟨p,a,au,d,rfl,N,X,Y,U,O⟩
 ·have F:xs=[]:=List.eq_nil_of_length_eq_zero (by omega);subst F
  by_cases Q:m=0
  ·subst Q;have G:fE=[]:=List.eq_nil_of_length_eq_zero (by omega);subst G;refine⟨.slice none 0 0,w,?_,cA.nil _ _ _,Fr.refl _ _,fun k _ e=>e⟩;have R:=c.cells;have H:=c.len w;rcases c.kind with⟨V,o⟩|o<;>simp[Builtin.append_,run_underlying ht,run_underlying o,sizeOf,typeInfo,K,H,R]
  ·exact l none 0 (by omega) rfl (run_firstCells_none w.drew i.size 0 0 0)
 ·by_cases f:n+m<=au
  ·have I:n*i.size+fE.length=(n+m)*i.size:=by rw[il,b,Nat.add_mul]
   have J:(n+m)*i.size<=au*i.size:=Nat.mul_le_mul_right _ f;have ph:a+n*i.size+fE.length<=d.size:=by rw[b] at I J ⊢;omega
   have iz:=run_storeCells_at Tryz.prog p (a+n*i.size) ty fE 0 d w N (by simpa using ph) hs.one;simp only[Nat.add_zero] at iz
   have C:(Builtin.append_ #[t,tx] tr #[.slice (some ⟨p,a,none⟩) n au,x]).run Tryz.prog w=.ok (.slice (some ⟨p,a,none⟩) (n+m) au) (w.setRow p (d.toList.take (a+n*i.size)++fE++d.toList.drop (a+n*i.size+fE.length)).toArray):=by
    rcases c.kind with⟨V,o⟩|o<;>simp[Builtin.append_,run_underlying ht,run_underlying o,sizeOf,typeInfo,K,c.len,f,c.cells,Addr.add_lit,iz]
   refine⟨_,_,C,⟨s,.inr ⟨p,a,au,_,rfl,setRow_heap w p d _ ty _ N,f,?_,U,fun j u hj=>?_⟩⟩,⟨rfl,rfl,rfl,by simp,fun k _ o=>setRow_other w p k _ (fun e=>o (by subst e;rfl))⟩,fun k _ e=>by simpa[al] using e⟩
   ·simp only[List.size_toArray,List.length_append,List.length_take,List.length_drop,Array.length_toList];omega
   ·rw[b] at ph ⊢
    have pC:(d.toList.take (a+n*sz)).length=a+n*sz:=by
     have e:d.toList.length=d.size:=Array.length_toList;rw[List.length_take,e];exact Nat.min_eq_left (by omega)
    rw[List.getElem?_toArray];rcases Nat.lt_or_ge j (n*sz) with q|q
    ·rw[List.getElem?_append_left (by rw[List.length_append,pC];omega),List.getElem?_append_left (by rw[pC];omega),List.getElem?_take_of_lt (by omega)];rw[List.getElem?_append_left (by rw[A];exact q)] at hj;rw[Array.getElem?_toList];exact O j u hj
    ·rw[List.getElem?_append_right (by rw[A];exact q),A] at hj;have S:j-n*sz<fE.length:=(List.getElem?_eq_some_iff.1 hj).1;rw[List.getElem?_append_left (by rw[List.length_append,pC];omega),List.getElem?_append_right (by rw[pC];omega),pC,show a+j-(a+n*sz)=j-n*sz by omega];exact hj
  ·exact l _ au (by omega) rfl (run_firstCells_some w.drew i.size n _ _ _ xs (by rw[A,b]) (fun j u hj=>by
    have e:(⟨p,a,none⟩:Addr).add j=⟨p,a+j,none⟩:=by simp[Addr.add]
    rw[e];show w.cell? _=_;rw[cell_of_heap N]
    exact O j u hj))
theorem eE{oU:Array Oper}{rest:List Oper}{o:Oper}{a:Act}{Q:Exit->Act->World->Prop}
  (hg:o.guard=none) (s x:Operand) (t tx:TypeId) (hop:o.op=Op.call { callee:=Callee.builtin Builtin.append,args:=#[s,x],argTypes:=#[t,tx] })
  {ty:TypeId} {sz bytes:Nat} {z:Value} (ht:Tryz.prog.underlying t=some (.slice ty)) (D9:(Tryz.prog.info? ty).map (fun i=>(i.zero,i.size,i.bytes))=some (some z,sz,bytes)) (IK:z.cells.size=sz)
  {sv xv:Value} {n:Nat} {xs:List Value} (m:Nat) (fE:List Value) (hs:a.eval s=sv) (hx:a.eval x=xv) (h:cA w ty sz sv n xs) (hsrc:Src Tryz.prog sz tx xv m fE w) (hl:(n+m)*bytes<=140737488355328) (Ai:n+m<=4000000000000)
  (hK:∀ v' w',cA w' ty sz v' (n+m) (xs++fE)->Fr (px sv) w w'->(∀ k,k<w.heap.size->al v'=some k->al sv=some k)->wpList Tryz.prog oU Q rest (a.put o.dst v') w') :
  wpList Tryz.prog oU Q (o::rest) a w:=by
 refine wpList_plain hg fun K hK'=>?_
 obtain⟨v',w',b,c,d,e⟩:=vO ht D9 IK h tx o.type xv m fE hsrc hl Ai;unfold Oper.wp;simp[execOp,hop,resolve,invoke,builtin,hs,hx,b,Result.andThen];exact hK' _ _ (hK v' w' c d e)
theorem sX(n:Nat):1<=a7 n:=by unfold a7;omega
theorem qu(n:Nat):n+2<=8*a7 n:=by unfold a7;omega
def iy(g:Nat):Nat->List PF->Nat->Prop
 | v,[],e=>v=e
 | v,f::l,e=>∃ GF,f.takes=GF+a7 f.data.length/\f.at_=(v+GF)%g/\f.at_+a7 f.data.length<=g/\iy g (v+f.takes) l e
theorem iy.sum:∀(l:List PF) (v e:Nat),iy g v l e->e=v+taken l:=by
 intro l
 induction l with
 | nil=>intro v e h;simp[iy] at h;simp[taken,h]
 | cons f l ih =>
  intro v e h;obtain⟨GF,_,_,_,a⟩:=h
  have:=ih _ _ a
  simp only[taken,List.map_cons,List.sum_cons] at this ⊢;omega
theorem iy.len:∀(l:List PF) (v e:Nat),iy g v l e->l.length<=taken l:=by
 intro l
 induction l with
 | nil=>intro v e _;simp
 | cons f l ih =>
  intro v e h;obtain⟨GF,b,_,_,a⟩:=h
  have:=ih _ _ a
  have:=sX f.data.length
  simp only[taken,List.map_cons,List.sum_cons,List.length_cons] at this ⊢;simp only[taken] at *;omega
theorem iy.snoc(f:PF)(GF:Nat)(h1:f.takes=GF+a7 f.data.length)(h3:f.at_+a7 f.data.length<=g):∀(l:List PF) (v e:Nat),iy g v l e->f.at_=(e+GF)%g->iy g v (l++[f]) (e+f.takes):=by
 intro l
 induction l with
 | nil=>intro v e h a;simp[iy] at h;subst h;exact⟨GF,h1,a,h3,rfl⟩
 | cons x l ih =>
  intro v e h a;obtain⟨b,c,d,i,j⟩:=h;exact⟨b,c,d,i,ih _ _ j a⟩
theorem iy.st(s:Nat):∀(l:List PF) (i v e:Nat),iy g v l e->iy g v (aZ l i s) e:=by
 intro l
 induction l with
 | nil=>intro i v e h;simpa[aZ] using h
 | cons x l ih =>
  intro i v e h;obtain⟨a,b,c,d,f⟩:=h;rcases i with _|i
  ·exact⟨a,b,c,d,f⟩
  ·have:aZ (x::l) (i+1) s=x::aZ l i s:=by simp[aZ]
   rw[this];exact⟨a,b,c,d,ih i _ _ f⟩
theorem iy.pos:∀(l:List PF) (v e:Nat),iy g v l e->f∈l->∃ x,v<=x/\x+a7 f.data.length<=e/\f.at_=x%g/\f.at_+a7 f.data.length<=g:=by
 intro l
 induction l with
 | nil=>intro v e _ h;simp at h
 | cons y l ih =>
  intro v e h a;obtain⟨c,n,d,i,b⟩:=h;have m:=iy.sum _ _ _ b;rcases List.mem_cons.1 a with rfl|a
  ·exact⟨v+c,by omega,by omega,d,i⟩
  ·obtain⟨x,o,j,k⟩:=ih _ _ b a;exact⟨x,by omega,j,k⟩
theorem apart{x n y:Nat}(hg:0<g)(h1:x+n<=y)(h2:y+m<=x+g)(_hx:x%g+n<=g)(hm:0<m):x%g+n<=y%g\/y%g+m<=x%g:=by
 obtain⟨d,rfl⟩:∃ d,y=x+d:=⟨y-x,by omega⟩;have hd:d<g:=by omega
 have a:x%g<g:=Nat.mod_lt _ hg;rcases Nat.lt_or_ge (x%g+d) g with h|h
 ·left;rw[Nat.add_mod,Nat.mod_eq_of_lt hd,Nat.mod_eq_of_lt h];omega
 ·right
  have e:(x+d)%g=x%g+d-g:=by
   rw[Nat.add_mod,Nat.mod_eq_of_lt hd];rw[Nat.mod_eq_sub_mod h,Nat.mod_eq_of_lt (by omega)]
  rw[e];omega
theorem iG.ahead{at_:Nat}(h:iG row at_ d){o:Nat}(x:Bs)(h1:8*at_+2+d.length<=o):iG (putRow row o x) at_ d:=by
 obtain⟨p,s,rfl,b⟩:=h;refine⟨p,s.take (o-(8*at_+2+d.length))++x++(p++mX d.length++d++s).drop (o+x.length),?_,b⟩;unfold putRow;have a:(p++mX d.length++d).length=8*at_+2+d.length:=by simp[mX,b];omega
 rw[List.take_append,List.take_of_length_le (by rw[a];exact h1),a];simp
theorem iG.behind{at_:Nat}(h:iG row at_ d){o:Nat}(x:Bs)(h1:o+x.length<=8*at_):iG (putRow row o x) at_ d:=by
 obtain⟨p,s,rfl,a⟩:=h;refine⟨p.take o++x++p.drop (o+x.length),s,?_,?_⟩
 ·unfold putRow;simp only[List.append_assoc];rw[List.take_append_of_le_length (by omega),List.drop_append_of_le_length (by omega)]
 ·simp only[List.length_append,List.length_take,List.length_drop];omega
theorem iG.new{at_:Nat}(h:8*at_<=row.length):iG (putRow row (8*at_) (mX d.length++d)) at_ d :=
 ⟨row.take (8*at_),row.drop (8*at_+(mX d.length++d).length),by unfold putRow;simp,by rw[List.length_take];omega⟩
structure Fit(R:PR):Prop where
 g2:2<=R.g
 g64:R.g<=64
 len:R.row.length=8*R.g
 next:R.next<R.g
 lies:∃ base e,iy R.g base R.fs e/\e<=base+R.g/\e%R.g=R.next
 kept:Kept R
 first:1<=R.first
 order:∃ A B:List PF,R.fs=A++B/\(∀ f∈A,f.st≠0)/\(∀ f∈B,f.st=0)
 head:∀ f l,R.fs=f::l->f.st≠2
 sts:∀ f∈R.fs,f.st<=2
theorem vJ(h:∀ f∈l,f.st<=2)(i:Nat)(hs:s<=2):∀ f∈aZ l i s,f.st<=2:=by
 intro f e;obtain⟨j,c,d⟩:=List.mem_iff_getElem.1 e;have a:(aZ l i s)[j]?=some f:=by rw[List.getElem?_eq_getElem c,d]
 have b:j<l.length:=by rw[eH] at c;exact c
 rw[pQ (List.getElem?_eq_getElem b)] at a;have cF:=h l[j] (List.getElem_mem b)
 split at a
 ·simp at a;rw[<-a];exact hs
 ·simp at a;rw[<-a];exact cF
theorem Fit.tidy(h:Fit R):Tidy R:=by
 obtain⟨a,e,b,f,_⟩:=h.lies;have c:=iy.sum _ _ _ b;have d:=iy.len _ _ _ b
 have:=h.g64
 exact⟨h.next,by omega,by omega⟩
theorem Fit.new(h2:2<=g)(tj:g<=64):Fit (jQ g) :=
 ⟨h2,tj,by simp[jQ],by simp[jQ];omega,⟨0,0,rfl,by omega,by simp[jQ]⟩,fun i f h=>by simp[jQ] at h,by simp[jQ],⟨[],[],rfl,by simp,by simp⟩,fun f l h=>by simp[jQ] at h,fun f h=>by simp[jQ] at h⟩
theorem Fit.put(h:Fit R)(d:Bs):Fit (eu R d).2:=by
 unfold eu
 by_cases t:R.shut=true
 ·rw[if_pos t];exact h
 rw[if_neg t]
 by_cases u:R.g<2*a7 d.length
 ·rw[if_pos u];exact h
 rw[if_neg u]
 by_cases v:R.g<taken R.fs+fU R.g R.next (a7 d.length)+a7 d.length
 ·rw[if_pos v];exact h
 rw[if_neg v];obtain⟨c,e,s,O,F⟩:=h.lies;have w:=iy.sum _ _ _ s;have o:0<R.g:=by have:=h.g2;omega
 have ph:=p9 (n:=a7 d.length) h.next (by omega)
 have iX:putAt R (a7 d.length)=(e+fU R.g R.next (a7 d.length))%R.g:=by
  unfold putAt;rw[<-F,Nat.mod_add_mod]
 have il:=qu d.length;have C:=sX d.length;have tj:=h.g64;have D:=h.len;generalize fU R.g R.next (a7 d.length)=G at *;generalize N:putAt R (a7 d.length)=A at *;have p:(mX d.length++d).length=2+d.length:=by simp[mX];omega
 have j:=iy.snoc ⟨A,G+a7 d.length,0,d⟩ G rfl ph R.fs c e s iX;refine⟨h.g2,h.g64,?_,Nat.mod_lt _ o,⟨c,_,j,by simp only;omega,?_⟩,fun i f a=>?_,h.first,?_,fun f l a=>?_,fun f a=>?_⟩
 ·show(putRow R.row (8*A) (mX d.length++d)).length=8*R.g
  unfold putRow;simp only[List.length_append,List.length_take,List.length_drop,mX,List.length_cons,List.length_nil];omega
 ·show(e+(G+a7 d.length))%R.g=(A+a7 d.length)%R.g
  rw[iX,Nat.mod_add_mod]
  congr 1
  omega
 ·simp only at a;rcases Nat.lt_or_ge i R.fs.length with q|q
  ·rw[List.getElem?_append_left q] at a;obtain⟨z,H⟩:=h.kept i f a;refine⟨?_,H⟩;obtain⟨x,P,Q,B,I⟩:=iy.pos _ _ _ s (List.mem_of_getElem? a);have b:=apart (g:=R.g) (x:=x) (n:=a7 f.data.length) (y:=e+G) (m:=a7 d.length) o (by omega) (by omega) (by rw[<-B];exact I) (by omega);rw[<-B,<-iX] at b;have E:=qu f.data.length;rcases b with b|b
   ·exact z.ahead _ (by omega)
   ·exact z.behind _ (by rw[p];omega)
  ·rw[List.getElem?_append_right q] at a
   have r:i-R.fs.length=0:=by
    rcases hq:i-R.fs.length with _|k
    ·rfl
    ·rw[hq] at a;simp at a
   rw[r] at a;simp at a;subst a;exact⟨iG.new (by omega),by simp only;omega⟩
 ·obtain⟨A1,B1,J,K,L⟩:=h.order;refine⟨A1,B1++[⟨A,G+a7 d.length,0,d⟩],by simp only;rw[J];simp,K,fun f a=>?_⟩;rcases List.mem_append.1 a with a|a
  ·exact L f a
  ·simp at a;subst a;rfl
 ·simp only at a;rcases hR:R.fs with _|⟨y,M⟩
  ·rw[hR] at a;simp at a;rw[<-a.1];simp
  ·rw[hR] at a;simp at a;rw[<-a.1];exact h.head y M hR
 ·rcases List.mem_append.1 a with a|a
  ·exact h.sts f a
  ·simp at a;subst a;simp
theorem Kept.st(h:Kept R)(i s:Nat):Kept { R with fs:=aZ R.fs i s }:=by
 intro j f a;simp only at a;rcases hq:R.fs[j]? with _|y
 ·have:(aZ R.fs i s)[j]?=none:=by
   rw[List.getElem?_eq_none_iff,eH];exact List.getElem?_eq_none_iff.1 hq
  rw[this] at a;simp at a
 ·rw[pQ hq] at a;obtain⟨b,c⟩:=h j y hq
  split at a
  ·simp at a;subst a;exact⟨b,c⟩
  ·simp at a;subst a;exact⟨b,c⟩
theorem sF(A B:List PF)(x:PF)(s:Nat):aZ (A++x::B) A.length s=A++{ x with st:=s }::B:=by
 induction A with
 | nil=>simp[aZ]
 | cons a A ih =>
  have:aZ (a::(A++x::B)) (A.length+1) s=a::aZ (A++x::B) A.length s:=by simp[aZ]
  rw[List.cons_append,List.length_cons,this,ih];rfl
theorem yp:∀(A B:List PF) (i s:Nat),i<A.length->aZ (A++B) i s=aZ A i s++B:=by
 intro A
 induction A with
 | nil=>intro B i s h;simp at h
 | cons a A ih =>
  intro B i s h;rcases i with _|i
  ·simp[aZ]
  ·have b:aZ (a::(A++B)) (i+1) s=a::aZ (A++B) i s:=by simp[aZ]
   have c:aZ (a::A) (i+1) s=a::aZ A i s:=by simp[aZ]
   rw[List.cons_append,b,c,ih B i s (by simpa using h)];rfl
theorem vu{A B:List PF}{x:PF}(hA:∀ f∈A,f.st≠0)(hx:x.st=0):iI (A++x::B)=some A.length:=by
 unfold iI;refine jn (x:=x) (by simp) (by simp[hx]) (fun j y hj hy=>?_);rw[List.getElem?_append_left hj] at hy;exact decide_eq_false (hA y (List.mem_of_getElem? hy))
theorem sf(h:∀ f∈l,f.st≠0):iI l=none:=by
 unfold iI;exact jm (fun j y _ hy=>decide_eq_false (h y (List.mem_of_getElem? hy)))
theorem Fit.take(h:Fit R):Fit (aN R).2.2:=by
 obtain⟨A,B,c,g,i⟩:=h.order;unfold aN;rcases B with _|⟨x,B⟩
 ·have:iI R.fs=none:=by rw[c];simp only[List.append_nil];exact sf g
  rw[this];exact h
 ·have j:iI R.fs=some A.length:=by rw[c];exact vu g (i x (by simp))
  rw[j];simp only;obtain⟨d,e,k,m,n⟩:=h.lies;refine⟨h.g2,h.g64,h.len,h.next,⟨d,e,iy.st 1 _ _ _ _ k,m,n⟩,h.kept.st _ _,h.first,⟨A++[{ x with st:=1 }],B,by simp only;rw[c,sF];simp,fun f b=>?_,fun f b=>i f (by simp[b])⟩,fun f l b=>?_,vJ h.sts _ (by omega)⟩
  ·rcases List.mem_append.1 b with b|b
   ·exact g f b
   ·simp at b;subst b;simp
  ·simp only at b;rw[c,sF] at b;rcases A with _|⟨a,A⟩
   ·simp at b;rw[<-b.1];simp
   ·simp at b;rw[<-b.1];exact h.head a (A++x::B) (by rw[c];rfl)
theorem Fit.shut(h:Fit R):Fit (gT R).2:=by
 unfold gT
 split
 ·exact h
 ·exact⟨h.g2,h.g64,h.len,h.next,h.lies,h.kept,h.first,h.order,h.head,h.sts⟩
theorem Dm:∀(l:List PF) (n v e:Nat),iy g v l e->∃ v',v<=v'/\iy g v' (iP l n).1 e/\n<=(iP l n).2:=by
 intro l
 induction l with
 | nil=>intro n v e h;exact⟨v,Nat.le_refl _,h,Nat.le_refl _⟩
 | cons f l ih =>
  intro n v e h;simp only[iP]
  split
  ·obtain⟨c,_,_,_,a⟩:=h;obtain⟨v',d,b,i⟩:=ih (n+1) _ _ a;exact⟨v',by omega,b,by omega⟩
  ·exact⟨v,Nat.le_refl _,h,Nat.le_refl _⟩
theorem kH:∀(l:List PF) (n:Nat),∃ k,(iP l n).1=l.drop k/\(iP l n).2=n+k/\k<=l.length/\∀(j:Nat) (f:PF),j<k->l[j]?=some f->f.st=2:=by
 intro l
 induction l with
 | nil=>intro n;exact⟨0,rfl,rfl,Nat.le_refl _,fun j f h=>by omega⟩
 | cons x l ih =>
  intro n;simp only[iP]
  split
  ·rename_i a;obtain⟨k,b,c,e,d⟩:=ih (n+1);refine⟨k+1,by rw[b];simp,by rw[c];omega,by simp;omega,fun j f hj hf=>?_⟩;rcases j with _|j
   ·simp at hf;subst hf;exact a
   ·exact d j f (by omega) (by simpa using hf)
  ·exact⟨0,rfl,rfl,by simp,fun j f h=>by omega⟩
theorem Dp:∀(l:List PF) (n:Nat) (f:PF) (l':List PF),(iP l n).1=f::l'->f.st≠2:=by
 intro l
 induction l with
 | nil=>intro n f l' h;simp[iP] at h
 | cons x l ih =>
  intro n f l' h;simp only[iP] at h
  split at h
  ·exact ih _ _ _ h
  ·rename_i a;simp at h;rw[<-h.1];exact a
theorem Fit.release(h:Fit R)(n:Int):Fit (gx R n).2:=by
 unfold gx;rcases hq:dL R n with _|i
 ·exact h
 ·simp only;obtain⟨f,u,iz⟩:=lD hq;obtain⟨v,e,x,G,z⟩:=h.lies;obtain⟨C,H,D,I⟩:=Dm _ R.first _ _ (iy.st 2 R.fs i _ _ x);obtain⟨k,m,J,K,E⟩:=kH (aZ R.fs i 2) R.first;have b:=h.kept.st i 2;refine⟨h.g2,h.g64,h.len,h.next,⟨C,e,D,by have:=h.g2;simp only;omega,z⟩,fun j y hy=>?_,by have:=h.first;simp only;omega,?_,fun y l' hy=>Dp _ _ _ _ hy,fun y hy=>vJ h.sts i (Nat.le_refl 2) y (by rw[m] at hy;exact List.mem_of_mem_drop hy)⟩
  ·simp only at hy;rw[m,List.getElem?_drop] at hy;exact b _ y hy
  ·obtain⟨A,B,w,F,o⟩:=h.order
   have g:i<A.length:=by
    rcases Nat.lt_or_ge i A.length with q|q
    ·exact q
    ·rw[w,List.getElem?_append_right q] at u
     have:=o f (List.mem_of_getElem? u)
     omega
   have s:aZ R.fs i 2=aZ A i 2++B:=by
    rw[w];exact yp A B i 2 g
   have l:k<=(aZ A i 2).length:=by
    rcases Nat.lt_or_ge (aZ A i 2).length k with q|q
    ·have c:(aZ A i 2).length<(aZ R.fs i 2).length:=by omega
     have:=E (aZ A i 2).length _ q (List.getElem?_eq_getElem c)
     have t:(aZ R.fs i 2)[(aZ A i 2).length]?=B[0]?:=by rw[s,List.getElem?_append_right (Nat.le_refl _),Nat.sub_self]
     rw[List.getElem?_eq_getElem c] at t
     have:=o _ (List.mem_of_getElem? t.symm)
     omega
    ·exact q
   refine⟨(aZ A i 2).drop k,B,by simp only;rw[m,s,List.drop_append_of_le_length l],fun y hy=>?_,o⟩;obtain⟨j,p,r⟩:=List.mem_iff_getElem.1 (List.mem_of_mem_drop hy);have a:(aZ A i 2)[j]?=some y:=by rw[List.getElem?_eq_getElem p,r]
   have d:j<A.length:=by rw[eH] at p;exact p
   rw[pQ (List.getElem?_eq_getElem d)] at a;have cF:=F A[j] (List.getElem_mem d)
   split at a
   ·simp at a;rw[<-a];simp
   ·simp at a;rw[<-a];exact cF
end Go.Proofs.YtpffifpbpmlhdaaGreatDoor.Q
