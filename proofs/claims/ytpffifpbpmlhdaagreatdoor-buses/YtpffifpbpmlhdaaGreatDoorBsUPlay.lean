import Derived.Test.YtpffifpbpmlhdaaGreatDoorBsGRef
import Derived.Test.YtpffifpbpmlhdaaGreatDoorBsEEnc
import Derived.Test.YtpffifpbpmlhdaaGreatDoorBsUBusNew
set_option maxHeartbeats 32000000
set_option maxRecDepth 100000
namespace Go.Proofs.YtpffifpbpmlhdaaGreatDoor.Q
open Go.RowKit
variable {w:World}{q:BP}{R:PR}{Q:RR}{fv:Value}{i k:Nat}
structure CM(w:World)(q:BP)(R:PR)(Q:RR)(fv:Value):Prop where
 c:w.heap[q.cb]?=some (.cells #[.pointer (some ⟨q.db,0,none⟩),.pointer (some ⟨q.qb,0,none⟩)] 44 (0,0))
 d:DG w q.db q.tab q.roots
 rq:RQ w q.qb Q fv
 same:dO R Q
 fit:Fit R
 good:GO q
section
variable {w w':World} {q:BP} {R R':PR} {Q Q':RR} {fv fh:Value}
theorem CM.dM(h:CM w q R Q fv):w.cell? ⟨q.cb,0,none⟩=some (.pointer (some ⟨q.db,0,none⟩)):=by rw[cell_of_heap h.c];rfl
theorem CM.cE(h:CM w q R Q fv):w.cell? ⟨q.cb,1,none⟩=some (.pointer (some ⟨q.qb,0,none⟩)):=by rw[cell_of_heap h.c];rfl
theorem CM.quiet(h:CM w q R Q fv)(hf:Fr Zero w w'):CM w' q R Q fv:=⟨hf.ae h.c (fun h=>h),h.d.ae hf (dR.zero w),h.rq.quiet hf,h.same,h.fit,h.good⟩
theorem CM.next(h:CM w q R Q fv)(hf:kq q.qb w w')(hq:RQ w' q.qb Q' fh)(hS:dO R' Q')(hF:Fit R'):CM w' q R' Q' fh:=by
 have a:=QX.loose h.rq;exact⟨hf.fr.ae h.c (a.not h.c (by decide)),h.d.ae hf.fr a,hq,hS,hF,h.good⟩
end
def GN(w:World)(q:BP)(R':PR)(w':World):Prop:=kq q.qb w w'/\∃ Q' fh,RQ w' q.qb Q' fh/\dO R' Q'
theorem uL(h:CM w q R Q fv)(hl:Q.fs.length<=10000000)(value:ByteArray)(hv:value.size<=1048576):
  Calls Tryz.prog 26 #[.pointer (some ⟨q.cb,0,none⟩),.string value] w fun e w'=>e=.returned (.tuple #[.int .i64 (mg q.t R value).1,.int .i64 (mg q.t R value).2.1])/\GN w q (mg q.t R value).2.2 w':=by
 have s:=h.dM
 have a:Hi (mg q.t R value=if(gm ⟨#[]⟩ value (ay 12 q.t value.data.toList)).2.1=0 then((eu R (gm ⟨#[]⟩ value (ay 12 q.t value.data.toList)).1.data.toList).1,0,(eu R (gm ⟨#[]⟩ value (ay 12 q.t value.data.toList)).1.data.toList).2)
  else((gm ⟨#[]⟩ value (ay 12 q.t value.data.toList)).2.1,(gm ⟨#[]⟩ value (ay 12 q.t value.data.toList)).2.2,R)):=rfl
 have bZ:=Al ⟨#[]⟩ value (ay 12 q.t value.data.toList);have dJ:=tt ⟨#[]⟩ value (ay 12 q.t value.data.toList);go_enter Tryz.func26,Tryz.ntmps26;go_wp2_with fail;refine(xz h.d.df h.good.hp h.good.hl h.good.htl q.t h.good.hI h.good.hW ⟨#[]⟩ value hv).mono ?_;rintro e v ⟨(f:Hi _),rfl⟩;have b:=ab (h.quiet f);have c:=ab (kq.quiet h.rq f);have u:=b.o.cE;rcases hx:gm ⟨#[]⟩ value (ay 12 q.t value.data.toList) with⟨m,l,x⟩;rw[hx] at a bZ dJ;simp only at a bZ dJ ⊢
 by_cases i:l=0
 ·rw[if_pos i] at a;subst i;go_wp2_with fail;refine(pT b.o.rq b.o.same b.o.fit m (by omega) (by omega)).mono ?_;rintro e r ⟨rfl,ao,Q',fh,iD,g⟩;have j:=ab (c.o.trans ao);have n:=ab (⟨Q',fh,iD,g⟩:∃ Q' fh,RQ r q.qb Q' fh/\dO (eu R m.data.toList).2 Q');go_wp2;go_ret2;rw[a.o];exact⟨rfl,j.o,n.o⟩
 ·rw[if_neg i] at a;have k:(l:Int)≠0:=by omega
  have p:((l:Int)==0)=false:=beq_eq_false_iff_ne.2 k;go_wp2;go_ret2;rw[a.o];exact⟨rfl,c.o,_,_,b.o.rq,b.o.same⟩
theorem o8{n:Int}{f:PF}(h:dL R n=some i)(hf:R.fs[i]?=some f):cD R n=(f.data,0):=by
 unfold cD;rw[h];simp only;rw[hf]
theorem xI{n:Int}(h:dL R n=none):cD R n=([],13):=by
 unfold cD;rw[h]
theorem wrap_small{z:Int}(h1:-9223372036854775808<=z)(h2:z<=9223372036854775807):IntKind.i64.wrap z=z:=by
 simp only[IntKind.wrap,IntKind.bits,IntKind.signed];simp;omega
theorem zC(h:CM w q R Q fv)(hl:Q.fs.length<=10000000)(n:Int)(eQ:-9223372036854775808<=n)(ka:n<=9223372036854775807)(path:ByteArray)(hp:path.size<=maxLen):
  Calls Tryz.prog 31 #[.pointer (some ⟨q.cb,0,none⟩),.int .i64 n,.string path] w fun e w'=>jM w (dt q.t R n path) e w':=by
 have L:=h.dM;have M:=h.cE;have GA:=h.rq.cE;have x:=h.fit.kept;rcases hi:dL R n with _|i
 ·have D:Hi (dt q.t R n path=(⟨#[]⟩,13,0)):=by
   show _=_;unfold dt;rw[xI hi];rfl
  have E:Hi ((dL R n).isSome=false):=ab (by rw[hi];rfl);go_enter Tryz.func31,Tryz.ntmps31;go_wp2_with fail;refine(lT h.rq h.same (by omega) n eQ ka).mono ?_;rintro e X ⟨rfl,B⟩;obtain rfl:=B.symm;rw[E.o];go_wp2;go_ret3;rw[D.o];exact⟨Fr.refl _ _,rfl⟩
 ·obtain⟨m,f,rfl,J,iz,z,rV,Y⟩:=h.same.at_ hi;have I:Hi (cD R ((m:Int)+1)=(f.data,0)):=o8 hi J
  have jt:f.data.length<=1000:=by
   have:=m5 x ((m:Int)+1)
   rw[I.o] at this;exact this
  have D:Hi (dt q.t R ((m:Int)+1) path=kg q.t (ba f.data) path):=by
   show _=_;unfold dt;rw[I.o];rfl
  have E:Hi ((dL R ((m:Int)+1)).isSome=true):=ab (by rw[hi];rfl);obtain⟨l,k,au,rfl,A,_,_⟩:=h.rq.frame z;have N:w.cell? ⟨l,k+m*3,none⟩=some (.string (ba f.data)):=A;have F:(m:Int)<(Q.fs.length:Int):=by omega
  have O:(ba f.data).size<=1000:=by rw[aI];exact jt
  have P:q.qb<w.heap.size:=h.rq.lt;have B:(m:Int)+1-1=(m:Int):=by omega
  have T:IntKind.i64.wrap (m:Int)=(m:Int):=wrap_small (by omega) (by omega);have U:(0:Int)<=(m:Int)/\(m:Int)<(Q.fs.length:Int):=⟨by omega,F⟩;have V:((m:Int)).toNat=m:=by omega
  go_enter Tryz.func31,Tryz.ntmps31;go_wp2_with fail;refine(lT h.rq h.same (by omega) _ eQ ka).mono ?_;rintro e X ⟨rfl,B⟩;obtain rfl:=B.symm;rw[E.o];go_wp2;have b:w.drew.cell? ⟨q.cb,0,none⟩=some (.pointer (some ⟨q.db,0,none⟩)):=L;have c:w.drew.cell? ⟨q.cb,1,none⟩=some (.pointer (some ⟨q.qb,0,none⟩)):=M;have g:w.drew.cell? ⟨q.qb,1,none⟩=some (.slice (some ⟨l,k,none⟩) Q.fs.length au):=GA;have j:w.drew.cell? ⟨l,k+m*3,none⟩=some (.string (ba f.data)):=N;refine wp_region_held_drew (S:=fun W=>W.cell? ⟨q.cb,0,none⟩=some (.pointer (some ⟨q.db,0,none⟩))/\W.cell? ⟨q.cb,1,none⟩=some (.pointer (some ⟨q.qb,0,none⟩))/\W.cell? ⟨q.qb,1,none⟩=some (.slice (some ⟨l,k,none⟩) Q.fs.length au)/\W.cell? ⟨l,k+m*3,none⟩=some (.string (ba f.data))) (by kernel_rfl) ⟨b,c,g,j⟩ (fun hT=>?_);have y:Hi (Fr Zero w w.drew):=Fr.drew _ _;have p:=ab (h.quiet y.o);generalize w.drew=wd at *;refine wt 0 ⟨b,c,g,j⟩ ?_
  refine wt 1 ⟨b,c,g,j⟩ ?_
  refine wt 2 ⟨b,c,g,j⟩ ?_
  refine wt 3 ⟨b,c,g,j⟩ ?_
  refine wt 4 ⟨b,c,g,j⟩ ?_
  refine wt 5 ⟨b,c,g,j⟩ ?_
  refine wt 6 ⟨b,c,g,j⟩ ?_
  refine wt 7 ⟨b,c,g,j⟩ ?_
  refine wt 8 ⟨b,c,g,j⟩ ?_
  refine wt 9 ⟨b,c,g,j⟩ ?_
  refine wt 10 ⟨b,c,g,j⟩ ?_
  refine wt 11 ⟨b,c,g,j⟩ ?_
  refine wt 12 ⟨b,c,g,j⟩ ?_
  refine wt 13 ⟨b,c,g,j⟩ ?_
  refine wt 14 ⟨b,c,g,j⟩ ?_
  refine wt 15 ⟨b,c,g,j⟩ ?_
  refine wt 16 ⟨b,c,g,j⟩ ?_
  refine wpAnyH_ready (rs:=[17]) (by kernel_rfl) (by simp) ?_;refine wc 17 (fun K x=>?_) AllReadyH.nil
  go_simp
  refine(Eo p.o.d.df p.o.good.hp p.o.good.hl p.o.good.htl q.t p.o.good.hI p.o.good.hW p.o.good.hN (ba f.data) path (by unfold maxLen;omega) hp).mono ?_;rintro e C ⟨ao,rfl⟩;have r:C.cell? ⟨q.cb,0,none⟩=some (.pointer (some ⟨q.db,0,none⟩)):=(ao.cell (a:=⟨q.cb,0,none⟩) (World.block_lt_of_cell? _ _ b) (fun h=>h)).trans b;have s:C.cell? ⟨q.cb,1,none⟩=some (.pointer (some ⟨q.qb,0,none⟩)):=(ao.cell (a:=⟨q.cb,1,none⟩) (World.block_lt_of_cell? _ _ c) (fun h=>h)).trans c;have u:C.cell? ⟨q.qb,1,none⟩=some (.slice (some ⟨l,k,none⟩) Q.fs.length au):=(ao.cell (a:=⟨q.qb,1,none⟩) (World.block_lt_of_cell? _ _ g) (fun h=>h)).trans g;have v:C.cell? ⟨l,k+m*3,none⟩=some (.string (ba f.data)):=(ao.cell (a:=⟨l,k+m*3,none⟩) (World.block_lt_of_cell? _ _ j) (fun h=>h)).trans j;have G:=ab (y.o.trans ao);go_wp2;refine x.out _ _ ⟨r,s,u,v⟩ (fun _=>?_)
  refine wt 18 ⟨r,s,u,v⟩ ?_
  refine wt 19 ⟨r,s,u,v⟩ ?_
  refine wt 20 ⟨r,s,u,v⟩ ?_
  refine wt 21 ⟨r,s,u,v⟩ ?_
  refine wt 22 ⟨r,s,u,v⟩ ?_
  refine wt 23 ⟨r,s,u,v⟩ ?_
  refine wpAnyH_done (by kernel_rfl) ?_ _;go_wp2;go_ret3;rw[D.o];exact⟨G.o,rfl⟩
theorem AU(h:(aN R).2.1=0):∃ i,dL (aN R).2.2 (aN R).1=some i:=by
 unfold aN at h ⊢;rcases hw:iI R.fs with _|i
 ·rw[hw] at h;simp only at h
  split at h<;>omega
 ·have a:=vw hw;refine⟨i,?_⟩;unfold dL;simp only;have b:(((R.first+i:Nat):Int)-(R.first:Int)).toNat=i:=by omega
  rw[if_neg (by simp only[eH];omega),b]
  have c:(aZ R.fs i 1)[i]?=some { R.fs[i] with st:=1 }:=by
   unfold aZ;rw[List.getElem?_modify];simp[List.getElem?_eq_getElem a]
  rw[c];simp
theorem uQ(h:CM w q R Q fv)(hl:Q.fs.length<=10000000):
  Calls Tryz.prog 29 #[.pointer (some ⟨q.cb,0,none⟩)] w fun e w'=>e=.returned (.tuple #[.int .i64 (kO q.t R).1,.string (kO q.t R).2.1,.int .i64 (kO q.t R).2.2.1])/\GN w q (kO q.t R).2.2.2 w':=by
 have H:=ab h;have h1:=h.cE;obtain⟨P,lh,ka,D⟩:=sx R
 have b:Hi (kO q.t R=if(aN R).2.1=0 then
  if(dt q.t (aN R).2.2 (aN R).1 ⟨#[]⟩).2.1=0 then((aN R).1,(dt q.t (aN R).2.2 (aN R).1 ⟨#[]⟩).1,0,(aN R).2.2)
  else((aN R).1,⟨#[]⟩,6,(gx (aN R).2.2 (aN R).1).2)
 else(0,⟨#[]⟩,(aN R).2.1,R)):=rfl
 have A:Hi ((aN R).2.1≠0->(aN R).2.2=R):=by
  unfold aN
  split
  ·exact fun h=>absurd rfl h
  ·exact fun _=>rfl
 have z:=ab (fun h=>AU (R:=R) h);have B:=ab h.fit.take;have ae:=ab h.same.len;clear h;go_enter Tryz.func29,Tryz.ntmps29;go_wp2_with fail;refine(ow H.o.rq H.o.same (by omega)).mono ?_;rintro e E ⟨rfl,(G:Hi _),Q1,az,T,U⟩;have y:=ab (H.o.next G T U B.o);clear T U;rcases hx:aN R with⟨n,er,R1⟩;rw[hx] at y b A z B P lh ka D;clear hx;simp only at P lh ka D y b A z B ⊢
 by_cases I:er=0
 ·obtain⟨i,hi⟩:=z.o I;obtain⟨m,f,ak,hf,iz,V,rV,al⟩:=y.o.same.at_ hi;have HB:Hi (cD R1 (n:Int)=(f.data,0)):=o8 hi hf
  have jt:f.data.length<=1000:=by
   have:=m5 B.o.kept (n:Int)
   rw[HB.o] at this;exact this
  obtain rfl:n=m+1:=by omega
  have af:Hi (dt q.t R1 ((m+1:Nat):Int) ⟨#[]⟩=B7 (ba f.data) (aS 12 q.t (ba f.data).data.toList)):=by
   show _=_;unfold dt;rw[HB.o];simp only;rw[if_pos trivial,qH];unfold uJ;rw[if_pos (by rw[aI];exact jt)]
  rw[if_pos I] at b;subst I;rw[af.o] at b;have d0:=y.o.dM;have d1:=y.o.cE;have GA:=y.o.rq.cE;obtain⟨F,p,au,rfl,X,_,_⟩:=y.o.rq.frame V;have fc:E.cell? ⟨F,p+m*3,none⟩=some (.string (ba f.data)):=X;have ag:(m:Int)<(Q1.fs.length:Int):=by omega
  have ah:(ba f.data).size<=1000:=by rw[aI];exact jt
  have an:Q1.fs.length<=10000001:=by have:=y.o.same.len;have:=ae.o;omega
  have e1:(((m+1:Nat):Int))-1=(m:Int):=by omega
  have e2:((m:Int)+1)-1=(m:Int):=by omega
  have aq:IntKind.i64.wrap (m:Int)=(m:Int):=wrap_small (by omega) (by omega);have ar:(0:Int)<=(m:Int)/\(m:Int)<(Q1.fs.length:Int):=⟨by omega,ag⟩;have av:((m:Int)).toNat=m:=by omega
  clear hi hf iz V X ak al z A;go_wp2;have c:E.drew.cell? ⟨q.cb,0,none⟩=some (.pointer (some ⟨q.db,0,none⟩)):=d0;have j:E.drew.cell? ⟨q.cb,1,none⟩=some (.pointer (some ⟨q.qb,0,none⟩)):=d1;have k:E.drew.cell? ⟨q.qb,1,none⟩=some (.slice (some ⟨F,p,none⟩) Q1.fs.length au):=GA;have l:E.drew.cell? ⟨F,p+m*3,none⟩=some (.string (ba f.data)):=fc;refine wp_region_held_drew (S:=fun W=>W.cell? ⟨q.cb,0,none⟩=some (.pointer (some ⟨q.db,0,none⟩))/\W.cell? ⟨q.cb,1,none⟩=some (.pointer (some ⟨q.qb,0,none⟩))/\W.cell? ⟨q.qb,1,none⟩=some (.slice (some ⟨F,p,none⟩) Q1.fs.length au)/\W.cell? ⟨F,p+m*3,none⟩=some (.string (ba f.data))) (by kernel_rfl) ⟨c,j,k,l⟩ (fun hT=>?_);have L:Hi (Fr Zero E E.drew):=Fr.drew _ _;have C:=ab (y.o.quiet L.o);generalize E.drew=wd at *;refine wt 0 ⟨c,j,k,l⟩ ?_
  try simp only[sA]
  refine wt 1 ⟨c,j,k,l⟩ ?_
  try simp only[sA]
  refine wt 2 ⟨c,j,k,l⟩ ?_
  try simp only[sA]
  refine wt 3 ⟨c,j,k,l⟩ ?_
  try simp only[sA]
  refine wt 4 ⟨c,j,k,l⟩ ?_
  try simp only[sA]
  refine wt 5 ⟨c,j,k,l⟩ ?_
  try simp only[sA]
  refine wt 6 ⟨c,j,k,l⟩ ?_
  try simp only[sA]
  refine wt 7 ⟨c,j,k,l⟩ ?_
  try simp only[sA]
  refine wt 8 ⟨c,j,k,l⟩ ?_
  try simp only[sA]
  refine wt 9 ⟨c,j,k,l⟩ ?_
  try simp only[sA]
  refine wt 10 ⟨c,j,k,l⟩ ?_
  try simp only[sA]
  refine wt 11 ⟨c,j,k,l⟩ ?_
  try simp only[sA]
  refine wt 12 ⟨c,j,k,l⟩ ?_
  try simp only[sA]
  refine wt 13 ⟨c,j,k,l⟩ ?_
  try simp only[sA]
  refine wt 14 ⟨c,j,k,l⟩ ?_
  try simp only[sA]
  refine wt 15 ⟨c,j,k,l⟩ ?_
  try simp only[sA]
  refine wpAnyH_ready (rs:=[16]) (by kernel_rfl) (by simp) ?_;refine wc 16 (fun K hK=>?_) AllReadyH.nil
  go_simp
  refine(mD C.o.d.df C.o.good.hp C.o.good.hl C.o.good.htl q.t C.o.good.hI C.o.good.hW (ba f.data) ah).mono ?_;rintro e Y ⟨ao,hq⟩;have r:Y.cell? ⟨q.cb,0,none⟩=some (.pointer (some ⟨q.db,0,none⟩)):=(ao.cell (a:=⟨q.cb,0,none⟩) (World.block_lt_of_cell? _ _ c) (fun h=>h)).trans c;have s:Y.cell? ⟨q.cb,1,none⟩=some (.pointer (some ⟨q.qb,0,none⟩)):=(ao.cell (a:=⟨q.cb,1,none⟩) (World.block_lt_of_cell? _ _ j) (fun h=>h)).trans j;have u:Y.cell? ⟨q.qb,1,none⟩=some (.slice (some ⟨F,p,none⟩) Q1.fs.length au):=(ao.cell (a:=⟨q.qb,1,none⟩) (World.block_lt_of_cell? _ _ k) (fun h=>h)).trans k;have x:Y.cell? ⟨F,p+m*3,none⟩=some (.string (ba f.data)):=(ao.cell (a:=⟨F,p+m*3,none⟩) (World.block_lt_of_cell? _ _ l) (fun h=>h)).trans l;have M:=ab ((G.o.trans (kq.quiet y.o.rq L.o)).trans (kq.quiet C.o.rq ao));have J:=ab (C.o.quiet ao);clear ao;rcases hq with⟨v,tb,hr,rfl,Z⟩|⟨dH,rfl⟩
  ·rw[hr] at b;have HM:Hi (kO q.t R=(m+1,ba (aw 12 v),0,R1)):=b;have N:KS Y wd.heap.size tb q.db (ba f.data) [] false (dI 12 [] v) ([]++([],aw 12 v)::iK 11 [] v):=Z;obtain⟨g,ap,c1,c2,c3,_⟩:=N.xX;have ax:(0:Int)<((([]++(([],aw 12 v)::iK 11 [] v):List (Bs×Bs)).length:Nat):Int):=by simp
   simp only[List.length_nil,Nat.zero_mul,Nat.zero_add] at c2;clear hr Z N b c3;generalize (([]++(([],aw 12 v)::iK 11 [] v):List (Bs×Bs)).length)=wl at *;go_wp2;refine hK.out _ _ ⟨r,s,u,x⟩ (fun _=>?_);clear hK K
   try simp only[sA]
   refine wt 17 ⟨r,s,u,x⟩ ?_
   try simp only[sA]
   refine wt 18 ⟨r,s,u,x⟩ ?_
   try simp only[sA]
   refine wt 19 ⟨r,s,u,x⟩ ?_
   try simp only[sA]
   refine wt 20 ⟨r,s,u,x⟩ ?_
   try simp only[sA]
   refine wt 21 ⟨r,s,u,x⟩ ?_
   try simp only[sA]
   refine wt 22 ⟨r,s,u,x⟩ ?_
   try simp only[sA]
   refine wt 23 ⟨r,s,u,x⟩ ?_
   try simp only[sA]
   refine wpAnyH_done (by kernel_rfl) ?_ _;go_wp2
   go_region
   go_wp2;go_ret3;rw[HM.o];exact⟨rfl,M.o.trans (kq.quiet J.o.rq (Fr.drew _ _)),_,_,(J.o.quiet (Fr.drew _ _)).rq,J.o.same⟩
  ·rw[Am dH,if_neg (by simp)] at b;have e1:=J.o.cE;clear dH;go_wp2;refine hK.out _ _ ⟨r,s,u,x⟩ (fun _=>?_);clear hK K
   try simp only[sA]
   refine wt 17 ⟨r,s,u,x⟩ ?_
   try simp only[sA]
   refine wt 18 ⟨r,s,u,x⟩ ?_
   try simp only[sA]
   refine wt 19 ⟨r,s,u,x⟩ ?_
   try simp only[sA]
   refine wt 20 ⟨r,s,u,x⟩ ?_
   try simp only[sA]
   refine wt 21 ⟨r,s,u,x⟩ ?_
   try simp only[sA]
   refine wt 22 ⟨r,s,u,x⟩ ?_
   try simp only[sA]
   refine wt 23 ⟨r,s,u,x⟩ ?_
   try simp only[sA]
   refine wpAnyH_done (by kernel_rfl) ?_ _;go_wp2_with fail;refine(kE J.o.rq J.o.same (by omega) ((m+1:Nat):Int) (by omega) (by omega)).mono ?_;rintro e w3 ⟨rfl,aa,Q3,am,ac,ad⟩;have ai:=ab (M.o.trans aa);have HN:=ab (⟨Q3,am,ac,ad⟩:∃ Q' fh,RQ w3 q.qb Q' fh/\dO (gx R1 ((m+1:Nat):Int)).2 Q');clear aa ac ad;go_wp2;go_ret3;rw[b.o];exact⟨rfl,ai.o,HN.o⟩
 ·rw[if_neg I] at b;have O:=A.o I;subst O;have aj:(er:Int)≠0:=by omega
  have ay:((er:Int)==0)=false:=beq_eq_false_iff_ne.2 aj;clear I z;go_wp2;go_ret3;rw[b.o];exact⟨rfl,G.o,_,_,y.o.rq,y.o.same⟩
def mc(w:World)(q:BP)(e:Ending)(w':World):Prop:=e=.returned (.bool true)/\∃ q',me w' q'/\Gu q q' w w'
theorem Dl(h:Fit R)(t:PT)(value:ByteArray):Fit (mg t R value).2.2:=by
 unfold mg
 split
 ·exact h.put _
 ·exact h
theorem Es(h:Fit R)(t:PT):Fit (kO t R).2.2.2:=by
 unfold kO
 split
 ·split
  ·exact h.take
  ·exact h.take.release _
 ·exact h
section
variable {R:PR} (t:PT) (value:ByteArray)
theorem Dk:(mg t R value).2.2.first+(mg t R value).2.2.fs.length<=R.first+R.fs.length+1:=by
 unfold mg
 split
 ·exact p8 _ _
 ·simp
theorem Fv(n:Int):(gx R n).2.first+(gx R n).2.fs.length<=R.first+R.fs.length:=by
 unfold gx
 split
 ·exact Nat.le_refl _
 ·rename_i i _;obtain⟨k,a,b,c,_⟩:=kH (aZ R.fs i 2) R.first;simp only;rw[a,b,List.length_drop];rw[eH] at c ⊢;omega
theorem xF:(kO t R).2.2.2.first+(kO t R).2.2.2.fs.length<=R.first+R.fs.length:=by
 have a:=vF R;unfold kO
 split
 ·split
  ·simp only;omega
  ·have:=Fv (R:=(aN R).2.2) (aN R).1
   simp only;omega
 ·simp
end
theorem xM(h:me w q)(hP:ey w)(hl:q.Q.fs.length<=5000000)(a b c g:Int)(s:ByteArray)(ho:iH 12 a b c g s)(dJ:s.size<=1048576):
  Calls Tryz.prog 8 #[.pointer (some ⟨q.bb,0,none⟩),.pointer (some ⟨q.cb,0,none⟩),gX 12 a b c g s] w fun e w'=>mc w q e w':=by
 have l:Hi ((w.alloc (.cells (eA 12 a b c g s) 34)).heap[w.heap.size]?=some (.cells (eA 12 a b c g s) 34 (0,0))):=af rfl _;have x:Hi (Fr Zero w (w.alloc (.cells (eA 12 a b c g s) 34))):=Fr.alloc _ _ _;have f:=ab (h.quiet x.o);have y:=ab (hP.ae x.o (fun h=>h));have H:=h.bounds hl;obtain⟨_,_,I,J,K,L,M,ju,_,_,oY⟩:=ho;unfold gX;go_enter Tryz.func8,Tryz.ntmps8;go_wp2_with fail;unfold eA at l x f y;generalize w.alloc (.cells #[.int .i64 12,.int .i64 a,.int .i64 b,.int .i64 c,.int .i64 g,.string s] 34)=w0 at *;refine(wi f.o.1.bm f.o.1.good.hW f.o.1.fit.tidy s (by omega)).mono ?_;rintro e G ⟨rfl,j,eU⟩;obtain⟨k,n,N,m,p⟩:=f.o.1.prog j eU;have i:Hi (CM G q q.R q.Q N):=⟨k,n,m,f.o.1.same,f.o.1.fit,f.o.1.good⟩;obtain⟨O,u⟩:=f.o.1.bm.r;have D:=ab (j.fr.ae l.o (u.eh l.o (by decide) (by decide) (by decide)));have S:=i.o.cE;have T:G.cell? ⟨w.heap.size,5,none⟩=some (.string s):=by rw[cell_of_heap D.o];rfl
 go_wp2_with fail;refine(uL i.o (by omega) s dJ).mono ?_;rintro e V ⟨rfl,ao,Q',fh,iD,v⟩;have F:=ab (f.o.1.ref j eU m p i.o.c i.o.d ao iD v (Dl f.o.1.fit _ _) (Dk _ _));generalize (mg q.t q.R s).1=E at *;generalize (mg q.t q.R s).2.1=E2 at *;have U:((E2:Int)==(E2:Int))=true:=by simp
 go_wp2_with fail;refine(da _ _).mono ?_;rintro e W ⟨rfl,P⟩;obtain rfl:=P.symm;go_wp2;go_ret;exact⟨by simp,_,F.o.1,f.o.2.jo x.o F.o.2⟩
theorem F9(h:me w q)(hP:ey w)(hl:q.Q.fs.length<=5000000)(a b c g:Int)(s:ByteArray)(ho:iH 13 a b c g s)(dJ:s.size<=1048576):
  Calls Tryz.prog 8 #[.pointer (some ⟨q.bb,0,none⟩),.pointer (some ⟨q.cb,0,none⟩),gX 13 a b c g s] w fun e w'=>mc w q e w':=by
 have l:Hi ((w.alloc (.cells (eA 13 a b c g s) 34)).heap[w.heap.size]?=some (.cells (eA 13 a b c g s) 34 (0,0))):=af rfl _;have F:Hi (Fr Zero w (w.alloc (.cells (eA 13 a b c g s) 34))):=Fr.alloc _ _ _;have f:=ab (h.quiet F.o);have G:=ab (hP.ae F.o (fun h=>h));have O:=h.bounds hl;obtain⟨_,_,U,V,X,Y,Z,ju,_,_,oY⟩:=ho;unfold gX;go_enter Tryz.func8,Tryz.ntmps8;go_wp2_with fail;unfold eA at l F f G;generalize w.alloc (.cells #[.int .i64 13,.int .i64 a,.int .i64 b,.int .i64 c,.int .i64 g,.string s] 34)=w0 at *;refine(Fw f.o.1.bm f.o.1.fit.tidy s (by omega)).mono ?_;rintro e u ⟨rfl,j,eU⟩;obtain⟨k,B,fq,v,C⟩:=f.o.1.prog j eU;have i:Hi (CM u q q.R q.Q fq):=⟨k,B,v,f.o.1.same,f.o.1.fit,f.o.1.good⟩;obtain⟨aa,D⟩:=f.o.1.bm.r;have z:=ab (j.fr.ae l.o (D.eh l.o (by decide) (by decide) (by decide)));have P:=i.o.cE;have T:u.cell? ⟨w.heap.size,5,none⟩=some (.string s):=by rw[cell_of_heap z.o];rfl
 go_wp2;have m:u.drew.cell? ⟨q.cb,1,none⟩=some (.pointer (some ⟨q.qb,0,none⟩)):=P;have n:u.drew.cell? ⟨w.heap.size,5,none⟩=some (.string s):=T;have p:Hi (Fr Zero u u.drew):=Fr.drew _ _;have t:=ab (i.o.quiet p.o);have A:=ab (p.o.ae z.o (fun h=>h));refine wp_region_held_drew (S:=fun W=>W.cell? ⟨q.cb,1,none⟩=some (.pointer (some ⟨q.qb,0,none⟩))/\W.cell? ⟨w.heap.size,5,none⟩=some (.string s)) (by kernel_rfl) ⟨m,n⟩ (fun hT=>?_);generalize u.drew=wd at *;refine wt 0 ⟨m,n⟩ ?_
 refine wt 1 ⟨m,n⟩ ?_
 refine wt 2 ⟨m,n⟩ ?_
 refine wt 3 ⟨m,n⟩ ?_
 refine wt 4 ⟨m,n⟩ ?_
 refine wt 5 ⟨m,n⟩ ?_
 refine wpAnyH_ready (rs:=[6]) (by kernel_rfl) (by simp) ?_;refine wc 6 (fun K hK=>?_) AllReadyH.nil
 go_simp
 refine(pT t.o.rq f.o.1.same f.o.1.fit s (by omega) (by omega)).mono ?_;rintro e w2 ⟨rfl,ao,Q',fh,iD,x⟩;have L:=ab (f.o.1.ref j eU v C i.o.c i.o.d ((kq.quiet v p.o).trans ao) iD x (f.o.1.fit.put _) (p8 _ _));have M:=(t.o.next ao iD x (f.o.1.fit.put _)).cE;have N:w2.cell? ⟨w.heap.size,5,none⟩=some (.string s):=by rw[cell_of_heap (ao.fr.ae A.o ((QX.loose t.o.rq).not A.o (by decide)))];rfl
 go_wp2;refine hK.out _ _ ⟨M,N⟩ (fun _=>?_)
 refine wt 7 ⟨M,N⟩ ?_
 refine wpAnyH_done (by kernel_rfl) ?_ _;generalize (eu q.R s.data.toList).1=E at *;go_wp2_with fail;refine(da _ _).mono ?_;rintro e w3 ⟨rfl,e3⟩;obtain rfl:=e3.symm;go_wp2;go_ret;exact⟨by simp,_,L.o.1,f.o.2.jo F.o L.o.2⟩
theorem o9(h:me w q)(hP:ey w)(hl:q.Q.fs.length<=5000000)(a b c g:Int)(s:ByteArray)(ho:iH 14 a b c g s)(_hsz:s.size<=1048576):
  Calls Tryz.prog 8 #[.pointer (some ⟨q.bb,0,none⟩),.pointer (some ⟨q.cb,0,none⟩),gX 14 a b c g s] w fun e w'=>e=.returned (.bool true)/\∃ q',me w' q'/\Gu q q' w w'/\q'.Q.fs.length<=q.Q.fs.length:=by
 have l:Hi ((w.alloc (.cells (eA 14 a b c g s) 34)).heap[w.heap.size]?=some (.cells (eA 14 a b c g s) 34 (0,0))):=af rfl _;have y:Hi (Fr Zero w (w.alloc (.cells (eA 14 a b c g s) 34))):=Fr.alloc _ _ _;have f:=ab (h.quiet y.o);have p:=ab (hP.ae y.o (fun h=>h));have H:=h.bounds hl;obtain⟨_,_,J,K,L,M,N,ju,_,_,oY⟩:=ho;unfold gX;go_enter Tryz.func8,Tryz.ntmps8;go_wp2_with fail;unfold eA at l y f p;generalize w.alloc (.cells #[.int .i64 14,.int .i64 a,.int .i64 b,.int .i64 c,.int .i64 g,.string s] 34)=w0 at *;refine(xE f.o.1.bm p.o f.o.1.good.hB.2 f.o.1.good.hW f.o.1.fit (by omega) (by omega)).mono ?_;rintro e O ⟨rfl,j,eU⟩;obtain⟨k,u,P,m,v⟩:=f.o.1.prog j eU;have i:Hi (CM O q q.R q.Q P):=⟨k,u,m,f.o.1.same,f.o.1.fit,f.o.1.good⟩;obtain⟨T,x⟩:=f.o.1.bm.r;have I:=ab (j.fr.ae l.o (x.eh l.o (by decide) (by decide) (by decide)));have U:=i.o.cE;go_wp2_with fail;refine(uQ i.o (by omega)).mono ?_;rintro e Z ⟨rfl,ao,Q',fh,iD,n⟩;have F:=ab (f.o.1.ref j eU m v i.o.c i.o.d ao iD n (Es f.o.1.fit _) (Nat.le_succ_of_le (xF _)))
 have D:Hi (Q'.fs.length<=q.Q.fs.length):=by
  have V:=n.len;have W:=f.o.1.same.len;have G:=xF (R:=q.R) q.t;show _<=_;omega
 generalize (kO q.t q.R).1=E at *;generalize (kO q.t q.R).2.1=S at *;generalize (kO q.t q.R).2.2.1=E2 at *;have X:((E:Int)==(E:Int))=true:=by simp
 have Y:(S.toList==S.toList)=true:=by simp
 go_wp2_with fail;refine(da _ _).mono ?_;rintro e w3 ⟨rfl,G⟩;obtain rfl:=G.symm;go_wp2;go_ret;exact⟨by simp,_,F.o.1,f.o.2.jo y.o F.o.2,D.o⟩
theorem tE(h:me w q)(hP:ey w)(hl:q.Q.fs.length<=5000000)(a b c g:Int)(s:ByteArray)(ho:iH 15 a b c g s)(dJ:s.size<=1048576):
  Calls Tryz.prog 8 #[.pointer (some ⟨q.bb,0,none⟩),.pointer (some ⟨q.cb,0,none⟩),gX 15 a b c g s] w fun e w'=>e=.returned (.bool true)/\Fr Zero w w':=by
 have k:Hi ((w.alloc (.cells (eA 15 a b c g s) 34)).heap[w.heap.size]?=some (.cells (eA 15 a b c g s) 34 (0,0))):=af rfl _;have u:Hi (Fr Zero w (w.alloc (.cells (eA 15 a b c g s) 34))):=Fr.alloc _ _ _;have i:=ab (h.quiet u.o);have l:=ab (hP.ae u.o (fun h=>h));have v:=h.bounds hl;obtain⟨_,_,n,p,C,D,F,ju,_,_,oY⟩:=ho;unfold gX;go_enter Tryz.func8,Tryz.ntmps8;go_wp2_with fail;unfold eA at k u i l;generalize w.alloc (.cells #[.int .i64 15,.int .i64 a,.int .i64 b,.int .i64 c,.int .i64 g,.string s] 34)=w0 at *;refine(tp i.o.1.bm l.o i.o.1.good.hW i.o.1.fit.kept (by omega) v.2.1 (by omega) a n p s (by unfold maxLen;omega)).mono ?_;rintro e A ⟨f,rfl⟩;have x:=ab (u.o.trans f);have j:=ab (i.o.1.quiet f);have m:=ab (f.ae k.o (fun h=>h));obtain⟨G,r⟩:=j.o.1.rq;have y:Hi (CM A q q.R q.Q G):=⟨j.o.1.c,j.o.1.d,r,i.o.1.same,i.o.1.fit,i.o.1.good⟩;have I:A.cell? ⟨w.heap.size,1,none⟩=some (.int .i64 a):=by rw[cell_of_heap m.o];rfl
 have J:A.cell? ⟨w.heap.size,5,none⟩=some (.string s):=by rw[cell_of_heap m.o];rfl
 go_wp2_with fail;refine(zC y.o (by omega) a n p s (by unfold maxLen;omega)).mono ?_;rintro e L ⟨ao,rfl⟩;have z:=ab (x.o.trans ao);generalize (dt q.t q.R a s).1=V at *;generalize (dt q.t q.R a s).2.1=E at *;generalize (dt q.t q.R a s).2.2=E2 at *;have B:(V.toList==V.toList)=true:=by simp
 have K:((E2:Int)==(E2:Int))=true:=by simp
 go_wp2_with fail;refine(da _ _).mono ?_;rintro e M ⟨rfl,H⟩;obtain rfl:=H.symm;go_wp2;go_ret;exact⟨by simp,z.o⟩
theorem xL(h:me w q)(hP:ey w)(hl:q.Q.fs.length<=5000000)(a b c g:Int)(s:ByteArray)(ho:iH 16 a b c g s)(_hsz:s.size<=1048576):
  Calls Tryz.prog 8 #[.pointer (some ⟨q.bb,0,none⟩),.pointer (some ⟨q.cb,0,none⟩),gX 16 a b c g s] w fun e w'=>mc w q e w':=by
 have l:Hi ((w.alloc (.cells (eA 16 a b c g s) 34)).heap[w.heap.size]?=some (.cells (eA 16 a b c g s) 34 (0,0))):=af rfl _;have H:Hi (Fr Zero w (w.alloc (.cells (eA 16 a b c g s) 34))):=Fr.alloc _ _ _;have f:=ab (h.quiet H.o);have I:=ab (hP.ae H.o (fun h=>h));have J:=h.bounds hl;obtain⟨_,_,B,C,X,Y,Z,ju,_,_,oY⟩:=ho;unfold gX;go_enter Tryz.func8,Tryz.ntmps8;go_wp2_with fail;unfold eA at l H f I;generalize w.alloc (.cells #[.int .i64 16,.int .i64 a,.int .i64 b,.int .i64 c,.int .i64 g,.string s] 34)=w0 at *;refine(uT f.o.1.bm (by omega) J.2.1 (by omega) a B C).mono ?_;rintro e u ⟨rfl,j,eU⟩;obtain⟨k,D,fq,v,F⟩:=f.o.1.prog j eU;have i:Hi (CM u q q.R q.Q fq):=⟨k,D,v,f.o.1.same,f.o.1.fit,f.o.1.good⟩;obtain⟨aa,G⟩:=f.o.1.bm.r;have z:=ab (j.fr.ae l.o (G.eh l.o (by decide) (by decide) (by decide)));have U:=i.o.cE;have V:u.cell? ⟨w.heap.size,1,none⟩=some (.int .i64 a):=by rw[cell_of_heap z.o];rfl
 go_wp2;have m:u.drew.cell? ⟨q.cb,1,none⟩=some (.pointer (some ⟨q.qb,0,none⟩)):=U;have n:u.drew.cell? ⟨w.heap.size,1,none⟩=some (.int .i64 a):=V;have p:Hi (Fr Zero u u.drew):=Fr.drew _ _;have t:=ab (i.o.quiet p.o);have A:=ab (p.o.ae z.o (fun h=>h));refine wp_region_held_drew (S:=fun W=>W.cell? ⟨q.cb,1,none⟩=some (.pointer (some ⟨q.qb,0,none⟩))/\W.cell? ⟨w.heap.size,1,none⟩=some (.int .i64 a)) (by kernel_rfl) ⟨m,n⟩ (fun hT=>?_);generalize u.drew=wd at *;refine wt 0 ⟨m,n⟩ ?_
 refine wt 1 ⟨m,n⟩ ?_
 refine wt 2 ⟨m,n⟩ ?_
 refine wt 3 ⟨m,n⟩ ?_
 refine wt 4 ⟨m,n⟩ ?_
 refine wt 5 ⟨m,n⟩ ?_
 refine wpAnyH_ready (rs:=[6]) (by kernel_rfl) (by simp) ?_;refine wc 6 (fun K hK=>?_) AllReadyH.nil
 go_simp
 refine(kE t.o.rq f.o.1.same (by omega) a B C).mono ?_;rintro e w2 ⟨rfl,ao,Q',fh,iD,x⟩;have O:=ab (f.o.1.ref j eU v F i.o.c i.o.d ((kq.quiet v p.o).trans ao) iD x (f.o.1.fit.release _) (vV _ _));have P:=(t.o.next ao iD x (f.o.1.fit.release _)).cE;have T:w2.cell? ⟨w.heap.size,1,none⟩=some (.int .i64 a):=by rw[cell_of_heap (ao.fr.ae A.o ((QX.loose t.o.rq).not A.o (by decide)))];rfl
 go_wp2;refine hK.out _ _ ⟨P,T⟩ (fun _=>?_)
 refine wt 7 ⟨P,T⟩ ?_
 refine wpAnyH_done (by kernel_rfl) ?_ _;generalize (gx q.R a).1=E at *;go_wp2_with fail;refine(da _ _).mono ?_;rintro e w3 ⟨rfl,e3⟩;obtain rfl:=e3.symm;go_wp2;go_ret;exact⟨by simp,_,O.o.1,f.o.2.jo H.o O.o.2⟩
theorem Ev(h:me w q)(hP:ey w)(hl:q.Q.fs.length<=5000000)(a b c g:Int)(s:ByteArray)(ho:iH 17 a b c g s)(_hsz:s.size<=1048576):
  Calls Tryz.prog 8 #[.pointer (some ⟨q.bb,0,none⟩),.pointer (some ⟨q.cb,0,none⟩),gX 17 a b c g s] w fun e w'=>mc w q e w':=by
 have k:Hi ((w.alloc (.cells (eA 17 a b c g s) 34)).heap[w.heap.size]?=some (.cells (eA 17 a b c g s) 34 (0,0))):=af rfl _;have x:Hi (Fr Zero w (w.alloc (.cells (eA 17 a b c g s) 34))):=Fr.alloc _ _ _;have f:=ab (h.quiet x.o);have y:=ab (hP.ae x.o (fun h=>h));have D:=h.bounds hl;obtain⟨_,_,G,H,I,J,K,ju,_,_,oY⟩:=ho;unfold gX;go_enter Tryz.func8,Tryz.ntmps8;go_wp2_with fail;unfold eA at k x f y;generalize w.alloc (.cells #[.int .i64 17,.int .i64 a,.int .i64 b,.int .i64 c,.int .i64 g,.string s] 34)=w0 at *;refine(Cj f.o.1.bm).mono ?_;rintro e L ⟨rfl,i,eU⟩;obtain⟨j,p,M,m,t⟩:=f.o.1.prog i eU;have l:Hi (CM L q q.R q.Q M):=⟨j,p,m,f.o.1.same,f.o.1.fit,f.o.1.good⟩;obtain⟨N,u⟩:=f.o.1.bm.r;have F:=ab (i.fr.ae k.o (u.eh k.o (by decide) (by decide) (by decide)));have P:=l.o.cE;go_wp2_with fail;refine(pY m f.o.1.same).mono ?_;rintro e S ⟨rfl,ao,Q',fh,iD,v⟩;have C:=ab (f.o.1.ref i eU m t l.o.c l.o.d ao iD v (f.o.1.fit.shut) (sE _));generalize (gT q.R).1=E at *;go_wp2_with fail;refine(da _ _).mono ?_;rintro e T ⟨rfl,O⟩;obtain rfl:=O.symm;go_wp2;go_ret;exact⟨by simp,_,C.o.1,f.o.2.jo x.o C.o.2⟩
theorem xK(h:me w q)(hP:ey w)(hl:q.Q.fs.length<=5000000)(a b c g:Int)(s:ByteArray)(ho:iH 18 a b c g s)(_hsz:s.size<=1048576):
  Calls Tryz.prog 8 #[.pointer (some ⟨q.bb,0,none⟩),.pointer (some ⟨q.cb,0,none⟩),gX 18 a b c g s] w fun e w'=>e=.returned (.bool true)/\Fr Zero w w':=by
 have r:Hi ((w.alloc (.cells (eA 18 a b c g s) 34)).heap[w.heap.size]?=some (.cells (eA 18 a b c g s) 34 (0,0))):=af rfl _;have n:Hi (Fr Zero w (w.alloc (.cells (eA 18 a b c g s) 34))):=Fr.alloc _ _ _;have t:=ab (h.quiet n.o);have u:=ab (hP.ae n.o (fun h=>h));have A:=h.bounds hl;obtain⟨_,_,D,E,F,G,H,ju,_,_,oY⟩:=ho;unfold gX;go_enter Tryz.func8,Tryz.ntmps8;go_wp2_with fail;unfold eA at r n t u;generalize w.alloc (.cells #[.int .i64 18,.int .i64 a,.int .i64 b,.int .i64 c,.int .i64 g,.string s] 34)=w0 at *;refine(Ck t.o.1.bm (by omega) (by omega)).mono ?_;rintro e f ⟨rfl,j⟩;have v:=ab (n.o.trans (j.trans (Fr.alloc Zero f (.cells #[.int .i64 (taken q.R.fs),.int .i64 (aQ 0 q.R.fs),.int .i64 (aQ 1 q.R.fs),.bool q.R.shut] 68))));have i:=ab (t.o.1.quiet (j.trans (Fr.alloc Zero f (.cells #[.int .i64 (taken q.R.fs),.int .i64 (aQ 0 q.R.fs),.int .i64 (aQ 1 q.R.fs),.bool q.R.shut] 68))));have B:Hi ((f.alloc (.cells #[.int .i64 (taken q.R.fs),.int .i64 (aQ 0 q.R.fs),.int .i64 (aQ 1 q.R.fs),.bool q.R.shut] 68)).heap[f.heap.size]?=some (.cells #[.int .i64 (taken q.R.fs),.int .i64 (aQ 0 q.R.fs),.int .i64 (aQ 1 q.R.fs),.bool q.R.shut] 68 (0,0))):=af rfl _;obtain⟨N,l⟩:=i.o.1.rq;have I:(f.alloc (.cells #[.int .i64 (taken q.R.fs),.int .i64 (aQ 0 q.R.fs),.int .i64 (aQ 1 q.R.fs),.bool q.R.shut] 68)).cell? ⟨q.cb,1,none⟩=some (.pointer (some ⟨q.qb,0,none⟩)):=by rw[cell_of_heap i.o.1.c];rfl
 unfold jA;go_wp2_with fail;generalize f.alloc (.cells #[.int .i64 (taken q.R.fs),.int .i64 (aQ 0 q.R.fs),.int .i64 (aQ 1 q.R.fs),.bool q.R.shut] 68)=w2 at *;refine(sH l i.o.1.same i.o.1.fit (by omega)).mono ?_;rintro e p ⟨rfl,k⟩;have y:=ab (v.o.trans k);have d:=ab (k.ae B.o (fun h=>h));have C:=lt_of_heap d.o;have J:p.cell? ⟨f.heap.size,0,none⟩=some (.int .i64 (taken q.R.fs)):=by rw[cell_of_heap d.o];rfl
 have K:p.cell? ⟨f.heap.size,1,none⟩=some (.int .i64 (aQ 0 q.R.fs)):=by rw[cell_of_heap d.o];rfl
 have L:p.cell? ⟨f.heap.size,2,none⟩=some (.int .i64 (aQ 1 q.R.fs)):=by rw[cell_of_heap d.o];rfl
 have M:p.cell? ⟨f.heap.size,3,none⟩=some (.bool q.R.shut):=by rw[cell_of_heap d.o];rfl
 unfold jA;go_wp2_with fail;refine(ns _ _ _ _ _).mono ?_;rintro e O ⟨rfl,m⟩;have z:=ab (y.o.trans ((Fr.alloc _ _ _).trans m));go_wp2;go_ret;exact⟨rfl,z⟩
theorem Ci(k a b c g:Int)(s:ByteArray)(hk:k≠12/\k≠13/\k≠14/\k≠15/\k≠16/\k≠17/\k≠18):
  Calls Tryz.prog 8 #[.pointer (some ⟨q.bb,0,none⟩),.pointer (some ⟨q.cb,0,none⟩),gX k a b c g s] w fun e w'=>e=.returned (.bool true)/\Fr Zero w w':=by
 obtain⟨d,f,h,i,j,l,m⟩:=hk;have n:(k==12)=false:=beq_eq_false_iff_ne.2 d;have o:(k==13)=false:=beq_eq_false_iff_ne.2 f;have p:(k==14)=false:=beq_eq_false_iff_ne.2 h;have r:(k==15)=false:=beq_eq_false_iff_ne.2 i;have t:(k==16)=false:=beq_eq_false_iff_ne.2 j;have u:(k==17)=false:=beq_eq_false_iff_ne.2 l;have v:(k==18)=false:=beq_eq_false_iff_ne.2 m;unfold gX;go_enter Tryz.func8,Tryz.ntmps8;go_wp2;go_ret;exact⟨rfl,Fr.alloc _ _ _⟩
theorem Ga(h:me w q)(hP:ey w)(hl:q.Q.fs.length<=5000000)(k a b c g:Int)(s:ByteArray)(ho:iH k a b c g s)(dJ:s.size<=1048576):
  Calls Tryz.prog 8 #[.pointer (some ⟨q.bb,0,none⟩),.pointer (some ⟨q.cb,0,none⟩),gX k a b c g s] w fun e w'=>mc w q e w':=by
 have d:∀ {e:Ending} {w':World},(e=.returned (.bool true)/\Fr Zero w w')->mc w q e w':=fun hh=>by
  have:=h.quiet hh.2
  exact⟨hh.1,q,this.1,this.2⟩
 by_cases f:k=12
 ·subst f;exact xM h hP hl a b c g s ho dJ
 by_cases i:k=13
 ·subst i;exact F9 h hP hl a b c g s ho dJ
 by_cases j:k=14
 ·subst j;exact(o9 h hP hl a b c g s ho dJ).mono (fun _ _ ⟨e1,q',e2,e3,_⟩=>⟨e1,q',e2,e3⟩)
 by_cases l:k=15
 ·subst l;exact(tE h hP hl a b c g s ho dJ).mono (fun _ _ hh=>d hh)
 by_cases m:k=16
 ·subst m;exact xL h hP hl a b c g s ho dJ
 by_cases n:k=17
 ·subst n;exact Ev h hP hl a b c g s ho dJ
 by_cases o:k=18
 ·subst o;exact(xK h hP hl a b c g s ho dJ).mono (fun _ _ hh=>d hh)
 exact(Ci k a b c g s ⟨f,i,j,l,m,n,o⟩).mono (fun _ _ hh=>d hh)
inductive Th where
 | r (p:RP)
 | b (q:BP)
def Th.len:Th->Nat
 | .r p=>p.Q.fs.length
 | .b q=>q.Q.fs.length
def TM(w:World):Th->Prop
 | .r p=>PM w p
 | .b q=>me w q
def TX(w:World):Th->Nat->Prop
 | .r p=>PX w p
 | .b q=>BX w q
def Hz:List TypeId:=[121,5,125,38,50]
def fj(L:List RP)(N:List BP):Bool×Nat->Option Th
 |(false,i)=>L[i]?.map .r
 |(true,j)=>N[j]?.map .b
section
variable {w w':World} {x x':Th} {Y:Nat->Prop}
theorem vL{rb yb:Nat}(h:RM w rb yb R fv)(hk:RX w rb yb k):∃ cs t,w.heap[k]?=some (.cells cs t (0,0))/\t∈Hz:=by
 rcases RX.of h hk with e|e|e
 ·rw[e];exact⟨_,_,h.r,by decide⟩
 ·rw[e];exact⟨_,_,h.y,by decide⟩
 ·rcases h.f with⟨a,_⟩|⟨g,b,au,c,a,d,_⟩
  ·rw[a] at e;simp[al] at e
  ·rw[a] at e;simp[al] at e;rw[<-e];exact⟨_,_,d,by decide⟩
theorem wh{qb:Nat}(h:RQ w qb Q fv)(hk:QX w qb k):∃ cs t,w.heap[k]?=some (.cells cs t (0,0))/\t∈Hz:=by
 obtain⟨cs,t,a,b⟩:=nz h hk;exact⟨cs,t,a,by rcases b with rfl|rfl<;>decide⟩
theorem TM.typed(h:TM w x)(hk:TX w x k):∃ cs t,w.heap[k]?=some (.cells cs t (0,0))/\t∈Hz:=by
 cases x with
 | r p =>
  have a:PM w p:=h;obtain⟨f,c⟩:=a.sm.r;obtain⟨g,d⟩:=a.rq;rcases hk with e|e
  ·exact vL c e
  ·exact wh d e
 | b q =>
  have a:me w q:=h;obtain⟨f,c⟩:=a.bm.r;obtain⟨g,d⟩:=a.rq;rcases hk with e|e
  ·exact vL c e
  ·exact wh d e
theorem TM.Iv(h:TM w x)(hk:TX w x k):k<w.heap.size:=by
 obtain⟨_,_,e,_⟩:=h.typed hk;exact lt_of_heap e
theorem TM.eh(h:TM w x){cs:Array Value}{t:TypeId}{f:Nat×Nat}(hk:w.heap[k]?=some (.cells cs t f))(ht:t∉Hz):¬TX w x k:=fun e=>by
 obtain⟨_,_,e1,e2⟩:=h.typed e;rw[e1] at hk;simp at hk;exact ht (hk.2.1 ▸ e2)
theorem TM.loose(h:TM w x):dR w (TX w x):=fun k cs t f hk hx=>by
 obtain⟨_,_,e1,e2⟩:=h.typed hx;rw[e1] at hk;simp at hk;rw[<-hk.2.1]
 have:∀ u∈Hz,u∈qC:=by decide
 exact this _ e2
theorem TM.ae(h:TM w x)(hf:Fr Y w w')(hY:dR w Y)(hx:∀ k,TX w x k->¬Y k):TM w' x/\∀ k,TX w' x k↔TX w x k:=by
 cases x with
 | r p =>
  have d:PM w p:=h;obtain⟨e,g⟩:=d.rq
  have a:=d.sm.ae hf (fun k cs t f e1 c=>by
   rcases c with c|c
   ·exact hY.not e1 (by rw[c];decide)
   ·exact hx k (.inl c))
  have b:=g.ae hf (fun k hk=>hx k (.inr hk));refine⟨⟨a.1,⟨e,b.1⟩,d.same,d.fit⟩,fun k=>?_⟩;show PX w' p k↔PX w p k;unfold PX;rw[a.2 k,b.2 k]
 | b q=>exact me.ae (q:=q) h hf hY hx
end
structure Sep(w:World)(B M:Nat)(T:Bool×Nat->Option Th):Prop where
 each:∀ κ x,T κ=some x->TM w x
 apart:∀ κ κ' x y,T κ=some x->T κ'=some y->κ≠κ'->∀ k,TX w x k->¬TX w y k
 own:∀ κ x,T κ=some x->∀ k,TX w x k->B<=k
 lens:∀ κ x,T κ=some x->x.len<=M
section
variable {w w':World} {B M M':Nat} {T T':Bool×Nat->Option Th} {x x':Th} {Y:Nat->Prop} {κ:Bool×Nat}
theorem Sep.mono(h:Sep w B M T)(hM:M<=M'):Sep w B M' T:=⟨h.each,h.apart,h.own,fun κ x hx=>Nat.le_trans (h.lens κ x hx) hM⟩
theorem Sep.ae(h:Sep w B M T)(hf:Fr Y w w')(hY:dR w Y)(hx:∀ κ x,T κ=some x->∀ k,TX w x k->¬Y k):Sep w' B M T:=by
 have a:∀ κ x,T κ=some x->TM w' x/\∀ k,TX w' x k↔TX w x k:=fun κ x hκ=>(h.each κ x hκ).ae hf hY (hx κ x hκ)
 exact⟨fun κ x hκ=>(a κ x hκ).1,fun κ κ' x y hκ hκ' cF k h1 h2=>h.apart κ κ' x y hκ hκ' cF k (((a κ x hκ).2 k).1 h1) (((a κ' y hκ').2 k).1 h2),fun κ x hκ k h1=>h.own κ x hκ k (((a κ x hκ).2 k).1 h1),h.lens⟩
theorem Sep.quiet(h:Sep w B M T)(hf:Fr Zero w w'):Sep w' B M T:=h.ae hf (dR.zero w) (fun _ _ _ _ _ e=>e)
theorem Sep.step(h:Sep w B M T)(hκ:T κ=some x)(hx:TM w' x')(hf:Fr (TX w x) w w')(ho:∀ k,k<w.heap.size->TX w' x' k->TX w x k)(hB:B<=w.heap.size)(hT:∀ κ',κ'≠κ->T' κ'=T κ')(Ij:T' κ=some x')(hM:M<=M')(hl:x'.len<=M'):Sep w' B M' T':=by
 have a:∀ κ' y,κ'≠κ->T κ'=some y->TM w' y/\∀ k,TX w' y k↔TX w y k:=fun κ' y cF hy=>(h.each κ' y hy).ae hf (h.each κ x hκ).loose (h.apart κ' κ y x hy hκ cF)
 have c:∀ κ' y,T' κ'=some y->(κ'=κ/\y=x')\/(κ'≠κ/\T κ'=some y):=fun κ' y hy=>by
  by_cases e:κ'=κ
  ·rw[e,Ij] at hy;exact .inl ⟨e,(Option.some.inj hy).symm⟩
  ·rw[hT κ' e] at hy;exact .inr ⟨e,hy⟩
 refine⟨fun κ' y hy=>?_,fun κ1 κ2 y z hy hz cF k h1 h2=>?_,fun κ' y hy k hk=>?_,fun κ' y hy=>?_⟩
 ·rcases c κ' y hy with⟨_,rfl⟩|⟨e,b⟩
  ·exact hx
  ·exact(a κ' y e b).1
 ·rcases c κ1 y hy with⟨l,rfl⟩|⟨l,b⟩
  ·rcases c κ2 z hz with⟨g,rfl⟩|⟨g,d⟩
   ·exact cF (l.trans g.symm)
   ·have i:=((a κ2 z g d).2 k).1 h2;have f:=(h.each κ2 z d).Iv i;exact h.apart κ κ2 x z hκ d (fun e=>g e.symm) k (ho k f h1) i
  ·rcases c κ2 z hz with⟨g,rfl⟩|⟨g,d⟩
   ·have j:=((a κ1 y l b).2 k).1 h1;have f:=(h.each κ1 y b).Iv j;exact h.apart κ κ1 x y hκ b (fun e=>l e.symm) k (ho k f h2) j
   ·exact h.apart κ1 κ2 y z b d cF k (((a κ1 y l b).2 k).1 h1) (((a κ2 z g d).2 k).1 h2)
 ·rcases c κ' y hy with⟨_,rfl⟩|⟨e,b⟩
  ·rcases Nat.lt_or_ge k w.heap.size with q|q
   ·exact h.own κ x hκ k (ho k q hk)
   ·exact Nat.le_trans hB q
  ·exact h.own κ' y b k (((a κ' y e b).2 k).1 hk)
 ·rcases c κ' y hy with⟨_,rfl⟩|⟨e,b⟩
  ·exact hl
  ·exact Nat.le_trans (h.lens κ' y b) hM
theorem Sep.push(h:Sep w B M T)(hx:TM w x)(hn:∀ k,TX w x k->B<=k)(ho:∀ κ' y,T κ'=some y->∀ k,TX w x k->¬TX w y k)(hl:x.len<=M)(hT:∀ κ',κ'≠κ->T' κ'=T κ')(Ij:T' κ=some x):Sep w B M T':=by
 have c:∀ κ' y,T' κ'=some y->(κ'=κ/\y=x)\/(κ'≠κ/\T κ'=some y):=fun κ' y hy=>by
  by_cases e:κ'=κ
  ·rw[e,Ij] at hy;exact .inl ⟨e,(Option.some.inj hy).symm⟩
  ·rw[hT κ' e] at hy;exact .inr ⟨e,hy⟩
 refine⟨fun κ' y hy=>?_,fun κ1 κ2 y z hy hz cF k h1 h2=>?_,fun κ' y hy k hk=>?_,fun κ' y hy=>?_⟩
 ·rcases c κ' y hy with⟨_,rfl⟩|⟨e,a⟩
  ·exact hx
  ·exact h.each κ' y a
 ·rcases c κ1 y hy with⟨f,rfl⟩|⟨f,a⟩
  ·rcases c κ2 z hz with⟨d,rfl⟩|⟨d,b⟩
   ·exact cF (f.trans d.symm)
   ·exact ho κ2 z b k h1 h2
  ·rcases c κ2 z hz with⟨d,rfl⟩|⟨d,b⟩
   ·exact ho κ1 y a k h2 h1
   ·exact h.apart κ1 κ2 y z a b cF k h1 h2
 ·rcases c κ' y hy with⟨_,rfl⟩|⟨e,a⟩
  ·exact hn k hk
  ·exact h.own κ' y a k hk
 ·rcases c κ' y hy with⟨_,rfl⟩|⟨e,a⟩
  ·exact hl
  ·exact h.lens κ' y a
end
theorem C0{α:Type}{l:List α}{x y:α}(h:l[i]?=some x):(l.set i y)[i]?=some y:=by
 have:=(List.getElem?_eq_some_iff.1 h).1
 simp[this]
theorem pA{α β:Type}{l:List α}{x y:α}(f:α->β)(h:l[i]?=some x)(e:f y=f x):(l.set i y).map f=l.map f:=by
 apply List.ext_getElem?;intro j;rw[List.getElem?_map,List.getElem?_set,List.getElem?_map]
 by_cases a:i=j
 ·subst a;rw[if_pos rfl,if_pos (List.getElem?_eq_some_iff.1 h).1,h];simp[e]
 ·rw[if_neg a]
def jN(p:RP):Value:=.pointer (some ⟨p.sb,0,none⟩)
def jO(p:RP):Value:=.pointer (some ⟨p.qb,0,none⟩)
def jU(q:BP):Value:=.pointer (some ⟨q.bb,0,none⟩)
def jT(q:BP):Value:=.pointer (some ⟨q.cb,0,none⟩)
structure WW(w:World)(B wb:Nat)(L:List RP)(N:List BP)(M:Nat)(rv qv bv cv:Value):Prop where
 blk:w.heap[wb]?=some (.cells #[rv,qv,bv,cv] 31 (0,0))
 rs:cA w 41 1 rv L.length (L.map jN)
 qs:cA w 39 1 qv L.length (L.map jO)
 bs:cA w 47 1 bv N.length (N.map jU)
 cs:cA w 45 1 cv N.length (N.map jT)
 rB:∀ g,al rv=some g->B<=g
 qB:∀ g,al qv=some g->B<=g
 bB:∀ g,al bv=some g->B<=g
 cB:∀ g,al cv=some g->B<=g
 wB:B<=wb
 sep:Sep w B M (fj L N)
 pow:ey w
 wrd:Words w
 err:m8 w
 gB:5<B/\4<B
section
variable {w w':World} {B wb M M':Nat} {L:List RP} {N:List BP} {rv qv bv cv:Value} {Y:Nat->Prop}
theorem WW.dM(h:WW w B wb L N M rv qv bv cv):w.cell? ⟨wb,0,none⟩=some rv:=by rw[cell_of_heap h.blk];rfl
theorem WW.cE(h:WW w B wb L N M rv qv bv cv):w.cell? ⟨wb,1,none⟩=some qv:=by rw[cell_of_heap h.blk];rfl
theorem WW.fM(h:WW w B wb L N M rv qv bv cv):w.cell? ⟨wb,2,none⟩=some bv:=by rw[cell_of_heap h.blk];rfl
theorem WW.dw(h:WW w B wb L N M rv qv bv cv):w.cell? ⟨wb,3,none⟩=some cv:=by rw[cell_of_heap h.blk];rfl
theorem WW.lt(h:WW w B wb L N M rv qv bv cv):wb<w.heap.size:=lt_of_heap h.blk
theorem WW.size(h:WW w B wb L N M rv qv bv cv):B<=w.heap.size:=Nat.le_of_lt (Nat.lt_of_le_of_lt h.wB h.lt)
theorem WW.each(h:WW w B wb L N M rv qv bv cv)(i:Nat)(p:RP)(hp:L[i]?=some p):PM w p:=h.sep.each (false,i) (.r p) (by simp[fj,hp])
theorem WW.x6(h:WW w B wb L N M rv qv bv cv)(i:Nat)(q:BP)(hq:N[i]?=some q):me w q:=h.sep.each (true,i) (.b q) (by simp[fj,hq])
theorem WW.lens(h:WW w B wb L N M rv qv bv cv)(i:Nat)(p:RP)(hp:L[i]?=some p):p.Q.fs.length<=M:=h.sep.lens (false,i) (.r p) (by simp[fj,hp])
theorem WW.Av(h:WW w B wb L N M rv qv bv cv)(i:Nat)(q:BP)(hq:N[i]?=some q):q.Q.fs.length<=M:=h.sep.lens (true,i) (.b q) (by simp[fj,hq])
theorem WW.mono(h:WW w B wb L N M rv qv bv cv)(hM:M<=M'):WW w B wb L N M' rv qv bv cv :=
 ⟨h.blk,h.rs,h.qs,h.bs,h.cs,h.rB,h.qB,h.bB,h.cB,h.wB,h.sep.mono hM,h.pow,h.wrd,h.err,h.gB⟩
theorem WW.kY(h:WW w B wb L N M rv qv bv cv)(hf:Fr (bk B) w w'):ey w'/\Words w'/\m8 w' :=
 ⟨h.pow.ae hf (fun e=>by unfold bk at e;have:=h.gB;omega),h.wrd.ae hf (fun e=>by unfold bk at e;have:=h.gB;omega),h.err.ae hf (fun e=>by unfold bk at e;have:=h.gB;omega)⟩
theorem WW.quiet(h:WW w B wb L N M rv qv bv cv)(hf:Fr Zero w w'):WW w' B wb L N M rv qv bv cv :=
 ⟨hf.ae h.blk (fun h=>h),h.rs.ae hf (fun _ _ h=>h),h.qs.ae hf (fun _ _ h=>h),h.bs.ae hf (fun _ _ h=>h),h.cs.ae hf (fun _ _ h=>h),h.rB,h.qB,h.bB,h.cB,h.wB,h.sep.quiet hf,(h.kY hf.dV).1,(h.kY hf.dV).2.1,(h.kY hf.dV).2.2,h.gB⟩
theorem WW.stepT{κ:Bool×Nat}{x x':Th}{L':List RP}{N':List BP}(h:WW w B wb L N M rv qv bv cv)(hκ:fj L N κ=some x)(hx:TM w' x')(hf:Fr (TX w x) w w')(ho:∀ k,k<w.heap.size->TX w' x' k->TX w x k)(hT:∀ κ',κ'≠κ->fj L' N' κ'=fj L N κ')(Ij:fj L' N' κ=some x')(hM:M<=M')(hl:x'.len<=M')
  (l1:L'.length=L.length) (l2:N'.length=N.length) (e1:L'.map jN=L.map jN) (e2:L'.map jO=L.map jO) (e3:N'.map jU=N.map jU) (e4:N'.map jT=N.map jT):WW w' B wb L' N' M' rv qv bv cv/\Fr (bk B) w w':=by
 have d:=h.sep.each κ x hκ;have a:Fr (bk B) w w':=hf.mono (fun k _ e=>h.sep.own κ x hκ k e)
 have b:∀ {ty:TypeId} {n:Nat} {v:Value} {xs:List Value},cA w ty 1 v n xs->ty∉Hz->cA w' ty 1 v n xs:=fun hr ht=>hr.ae hf (fun g hg=>by
  obtain⟨c,e⟩:=hr.typed hg
  exact d.eh e ht)
 refine⟨⟨hf.ae h.blk (d.eh h.blk (by decide)),?_,?_,?_,?_,h.rB,h.qB,h.bB,h.cB,h.wB,h.sep.step hκ hx hf ho h.size hT Ij hM hl,(h.kY a).1,(h.kY a).2.1,(h.kY a).2.2,h.gB⟩,a⟩
 ·rw[l1,e1];exact b h.rs (by decide)
 ·rw[l1,e2];exact b h.qs (by decide)
 ·rw[l2,e3];exact b h.bs (by decide)
 ·rw[l2,e4];exact b h.cs (by decide)
theorem WW.step{p p':RP}(h:WW w B wb L N M rv qv bv cv)(hi:L[i]?=some p)(hp:PM w' p')(hf:Gs p p' w w')(eU:M<=M')(Eb:p'.Q.fs.length<=M'):WW w' B wb (L.set i p') N M' rv qv bv cv/\Fr (bk B) w w' :=
 h.stepT (κ:=(false,i)) (x:=.r p) (x':=.r p') (by simp[fj,hi]) hp hf.fr hf.own (fun κ' cF=>by
  rcases κ' with⟨_|_,j⟩
  ·have:i≠j:=fun e=>cF (by rw[e])
   simp[fj,this]
  ·rfl) (by simp only[fj];rw[C0 hi];rfl) eU Eb (by simp) rfl (pA jN hi (by unfold jN;rw[hf.sb])) (pA jO hi (by unfold jO;rw[hf.qb])) rfl rfl
theorem WW.GP{q':BP}(h:WW w B wb L N M rv qv bv cv)(hi:N[i]?=some q)(hq:me w' q')(hf:Gu q q' w w')(eU:M<=M')(Eb:q'.Q.fs.length<=M'):WW w' B wb L (N.set i q') M' rv qv bv cv/\Fr (bk B) w w' :=
 h.stepT (κ:=(true,i)) (x:=.b q) (x':=.b q') (by simp[fj,hi]) hq hf.fr hf.own (fun κ' cF=>by
  rcases κ' with⟨_|_,j⟩
  ·rfl
  ·have:i≠j:=fun e=>cF (by rw[e])
   simp[fj,this]) (by simp only[fj];rw[C0 hi];rfl) eU Eb rfl (by simp) rfl rfl (pA jU hi (by unfold jU;rw[hf.bb])) (pA jT hi (by unfold jT;rw[hf.cb]))
end
def ln(c:Int)(n:Nat):Nat:=((if c<0 then -(c+1) else c)%(n:Int)).toNat
theorem wu(c:Int){n:Nat}(h:0<n):ln c n<n:=by
 unfold ln;have a:=Int.emod_nonneg (if c<0 then -(c+1) else c) (show(n:Int)≠0 by omega);have b:=Int.emod_lt_of_pos (if c<0 then -(c+1) else c) (show(0:Int)<n by omega);omega
theorem yI(c:Int){n:Nat}(h:0<n):((ln c n:Nat):Int)=(if c<0 then -(c+1) else c)%(n:Int):=by
 unfold ln;have a:=Int.emod_nonneg (if c<0 then -(c+1) else c) (show(n:Int)≠0 by omega);omega
theorem s8(c:Int)(h1:-9223372036854775808<=c)(h2:c<=9223372036854775807)(n:Nat)(hn:0<n)(ka:n<=1000000000000)(w:World):
  Calls Tryz.prog 10 #[.int .i64 c,.int .i64 n] w fun e w'=>e=.returned (.int .i64 (ln c n:Nat))/\w'=w:=by
 have b:=yI c hn;have a:=ab b;have f:¬(n=0):=by omega
 have g:¬((n:Int)=0):=by omega
 by_cases d:c<0
 ·rw[if_pos d] at a b;have h:(-(c+1)).tmod (n:Int)=((ln c n:Nat):Int):=by rw[Int.tmod_eq_emod_of_nonneg (by omega)];exact a.o.symm
  have mi:(0:Int)<=-(c+1):=by omega
  generalize ln c n=P at *;go_enter Tryz.func10,Tryz.ntmps10;go_wp2_with fail;go_ret;refine⟨?_,rfl⟩
  first|rfl|(rw[a.o];rfl)|(simp only[a.o];rfl)
 ·rw[if_neg d] at a b;have h:c.tmod (n:Int)=((ln c n:Nat):Int):=by rw[Int.tmod_eq_emod_of_nonneg (by omega)];exact a.o.symm
  have mi:(0:Int)<=c:=by omega
  have i:decide (c<0)=false:=decide_eq_false d;generalize ln c n=P at *;go_enter Tryz.func10,Tryz.ntmps10;go_wp2_with fail;go_ret;refine⟨?_,rfl⟩
  first|rfl|(rw[a.o];rfl)|(simp only[a.o];rfl)
def ft(w:World)(B wb:Nat)(L:List RP)(N:List BP)(M:Nat)(e:Ending)(w':World):Prop :=
 e=.returned (.bool true)/\Fr (bk B) w w'/\∃(L':List RP) (N':List BP) (pd vh qV vj:Value),WW w' B wb L' N' (M+1) pd vh qV vj/\L'.length<=L.length+1/\0<L'.length/\N'.length<=N.length+1/\N.length<=N'.length
theorem AW{B wb M:Nat}{L:List RP}{N:List BP}{rv qv bv cv:Value}(h:WW w B wb L N M rv qv bv cv)(hL:0<L.length)(rW:L.length<=5000000)(hM:M<=4000000)(k a b c g:Int)(s:ByteArray)(ho:iH k a b c g s)(GA:k≠1)(gg:k<11):
  Calls Tryz.prog 5 #[.pointer (some ⟨wb,0,none⟩),gX k a b c g s] w fun e w'=>ft w B wb L N M e w':=by
 have C:Hi ((w.alloc (.cells (eA k a b c g s) 34)).heap[w.heap.size]?=some (.cells (eA k a b c g s) 34 (0,0))):=af rfl _;have U:Hi (Fr Zero w (w.alloc (.cells (eA k a b c g s) 34))):=Fr.alloc _ _ _;have F:=ab (h.quiet U.o);have V:=F.o.dM;have a1:=F.o.cE;have t:=F.o.lt;have X:=ho.g1;have Y:=ho.g2;have hP:=wu g hL;obtain⟨ra,Q,rfl⟩:=h.rs.len;have k1:(k==1)=false:=beq_eq_false_iff_ne.2 GA;have ah:(k==11)=false:=beq_eq_false_iff_ne.2 (by omega);have ai:(0:Int)<(L.length:Int):=by omega
 unfold gX;unfold eA at C U F V a1 t;go_enter Tryz.func5,Tryz.ntmps5;go_wp2_with fail;generalize w.alloc (.cells #[.int .i64 k,.int .i64 a,.int .i64 b,.int .i64 c,.int .i64 g,.string s] 34)=w0 at *;have Z:Hi (Fr Zero w0 w0.drew):=Fr.drew _ _;have g4:w0.drew.cell? ⟨w.heap.size,4,none⟩=some (.int .i64 g):=(cell_of_heap (o:=4) C.o).trans rfl;have V:w0.drew.cell? ⟨wb,0,none⟩=some (.slice ra L.length Q):=V;refine wp_region_held_drew (S:=fun W=>W=w0.drew) (by kernel_rfl) rfl (fun hT=>?_);refine wt 0 rfl ?_
 refine wt 1 rfl ?_
 refine wt 2 rfl ?_
 refine wt 3 rfl ?_
 refine wt 4 rfl ?_
 refine wt 5 rfl ?_
 refine wt 6 rfl ?_
 refine wpAnyH_ready (rs:=[7]) (by kernel_rfl) (by simp) ?_;refine wc 7 (fun K hK=>?_) AllReadyH.nil
 go_simp
 refine(s8 g X Y L.length hL (by omega) _).mono ?_;rintro e w1 ⟨rfl,e1⟩;obtain rfl:=e1.symm;go_wp2_with fail;refine hK.out _ _ rfl (fun _=>?_)
 refine wt 8 rfl ?_
 refine wpAnyH_done (by kernel_rfl) ?_ _;have v:=ab (F.o.quiet (Z.o.trans (Fr.drew Zero w0.drew)));have aa:=ab (U.o.trans (Z.o.trans (Fr.drew Zero w0.drew)));have l:Hi (w0.drew.drew.heap[w.heap.size]?=some (.cells #[.int .i64 k,.int .i64 a,.int .i64 b,.int .i64 c,.int .i64 g,.string s] 34 (0,0))):=C;generalize I:ln g L.length=P at *;obtain⟨p,G⟩:∃ p,L[P]?=some p:=⟨_,List.getElem?_eq_getElem hP⟩;obtain⟨x,D,R,fe,f⟩:=v.o.rs.at_ (j:=P) (u:=jN p) (by rw[List.getElem?_map,G];rfl);obtain⟨z,E,y,ge,i⟩:=v.o.qs.at_ (j:=P) (u:=jO p) (by rw[List.getElem?_map,G];rfl);obtain⟨rfl,rfl⟩:ra=some ⟨x,D,none⟩/\Q=R:=by simp at fe;exact fe
 subst ge;have ak:(P:Int)<(L.length:Int):=by omega
 have b0:=v.o.dM;have b1:=v.o.cE;have n:=v.o.each P p G;have J:=ab (v.o.lens P p G);have jt:x<w0.drew.drew.heap.size:=World.block_lt_of_cell? _ _ f;have ad:z<w0.drew.drew.heap.size:=World.block_lt_of_cell? _ _ i;have t:=v.o.lt;have q:=lt_of_heap l.o
 have ae:Hi (¬PX w0.drew.drew p x):=by
  obtain⟨cu,ce⟩:=v.o.rs.typed (g:=x) (by simp[al]);exact n.eh ce (by decide) (by decide) (by decide) (by decide) (by decide)
 have ag:Hi (¬PX w0.drew.drew p z):=by
  obtain⟨cu,ce⟩:=v.o.qs.typed (g:=z) (by simp[al]);exact n.eh ce (by decide) (by decide) (by decide) (by decide) (by decide)
 have O:Hi (¬PX w0.drew.drew p wb):=n.eh v.o.blk (by decide) (by decide) (by decide) (by decide) (by decide);have r:Hi (¬PX w0.drew.drew p w.heap.size):=n.eh l.o (by decide) (by decide) (by decide) (by decide) (by decide);have o0:w0.drew.drew.cell? ⟨w.heap.size,0,none⟩=some (.int .i64 k):=(cell_of_heap (o:=0) l.o).trans rfl;have o1:w0.drew.drew.cell? ⟨w.heap.size,1,none⟩=some (.int .i64 a):=(cell_of_heap (o:=1) l.o).trans rfl;have o2:w0.drew.drew.cell? ⟨w.heap.size,2,none⟩=some (.int .i64 b):=(cell_of_heap (o:=2) l.o).trans rfl;have o3:w0.drew.drew.cell? ⟨w.heap.size,3,none⟩=some (.int .i64 c):=(cell_of_heap (o:=3) l.o).trans rfl;have o4:w0.drew.drew.cell? ⟨w.heap.size,4,none⟩=some (.int .i64 g):=(cell_of_heap (o:=4) l.o).trans rfl;have o5:w0.drew.drew.cell? ⟨w.heap.size,5,none⟩=some (.string s):=(cell_of_heap (o:=5) l.o).trans rfl;unfold jN at f;unfold jO at i;go_wp2_with fail;refine wp_region_held_drew (S:=fun W=>W.cell? ⟨wb,0,none⟩=some (.slice (some ⟨x,D,none⟩) L.length Q)/\W.cell? ⟨wb,1,none⟩=some (.slice (some ⟨z,E,none⟩) L.length y)/\W.cell? ⟨x,D+P,none⟩=some (.pointer (some ⟨p.sb,0,none⟩))/\W.cell? ⟨z,E+P,none⟩=some (.pointer (some ⟨p.qb,0,none⟩))/\W.cell? ⟨w.heap.size,0,none⟩=some (.int .i64 k)/\W.cell? ⟨w.heap.size,1,none⟩=some (.int .i64 a)/\W.cell? ⟨w.heap.size,2,none⟩=some (.int .i64 b)/\W.cell? ⟨w.heap.size,3,none⟩=some (.int .i64 c)/\W.cell? ⟨w.heap.size,4,none⟩=some (.int .i64 g)/\W.cell? ⟨w.heap.size,5,none⟩=some (.string s)) (by kernel_rfl) ⟨b0,b1,f,i,o0,o1,o2,o3,o4,o5⟩ (fun hT=>?_);generalize w0.drew.drew=w2 at *;have sS:=(⟨b0,b1,f,i,o0,o1,o2,o3,o4,o5⟩:w2.cell? ⟨wb,0,none⟩=some (.slice (some ⟨x,D,none⟩) L.length Q)/\w2.cell? ⟨wb,1,none⟩=some (.slice (some ⟨z,E,none⟩) L.length y)/\w2.cell? ⟨x,D+P,none⟩=some (.pointer (some ⟨p.sb,0,none⟩))/\w2.cell? ⟨z,E+P,none⟩=some (.pointer (some ⟨p.qb,0,none⟩))/\w2.cell? ⟨w.heap.size,0,none⟩=some (.int .i64 k)/\w2.cell? ⟨w.heap.size,1,none⟩=some (.int .i64 a)/\w2.cell? ⟨w.heap.size,2,none⟩=some (.int .i64 b)/\w2.cell? ⟨w.heap.size,3,none⟩=some (.int .i64 c)/\w2.cell? ⟨w.heap.size,4,none⟩=some (.int .i64 g)/\w2.cell? ⟨w.heap.size,5,none⟩=some (.string s));refine wt 0 sS ?_
 refine wt 1 sS ?_
 refine wt 2 sS ?_
 refine wt 3 sS ?_
 refine wt 4 sS ?_
 refine wt 5 sS ?_
 refine wt 6 sS ?_
 refine wt 7 sS ?_
 refine wt 8 sS ?_
 refine wt 9 sS ?_
 refine wt 10 sS ?_
 refine wt 11 sS ?_
 refine wt 12 sS ?_
 refine wt 13 sS ?_
 refine wt 14 sS ?_
 refine wpAnyH_ready (rs:=[15]) (by kernel_rfl) (by simp) ?_;refine wc 15 (fun K hK=>?_) AllReadyH.nil
 go_simp
 refine(De n (by have:=J.o;omega) k a b c g s ho).mono ?_;rintro e A ⟨rfl,p',T,d⟩;have HN:=ab (v.o.step (M':=M+1) G T d (Nat.le_succ _) (Nat.le_trans d.len (Nat.succ_le_succ J.o)));have y0:A.cell? ⟨wb,0,none⟩=some (.slice (some ⟨x,D,none⟩) L.length Q):=(d.fr.cell (a:=⟨wb,0,none⟩) t O.o).trans b0;have y1:A.cell? ⟨wb,1,none⟩=some (.slice (some ⟨z,E,none⟩) L.length y):=(d.fr.cell (a:=⟨wb,1,none⟩) t O.o).trans b1;have y2:A.cell? ⟨x,D+P,none⟩=some (.pointer (some ⟨p.sb,0,none⟩)):=(d.fr.cell (a:=⟨x,D+P,none⟩) jt ae.o).trans f;have y3:A.cell? ⟨z,E+P,none⟩=some (.pointer (some ⟨p.qb,0,none⟩)):=(d.fr.cell (a:=⟨z,E+P,none⟩) ad ag.o).trans i;have q0:A.cell? ⟨w.heap.size,0,none⟩=some (.int .i64 k):=(d.fr.cell (a:=⟨w.heap.size,0,none⟩) q r.o).trans o0;have q1:A.cell? ⟨w.heap.size,1,none⟩=some (.int .i64 a):=(d.fr.cell (a:=⟨w.heap.size,1,none⟩) q r.o).trans o1;have q2:A.cell? ⟨w.heap.size,2,none⟩=some (.int .i64 b):=(d.fr.cell (a:=⟨w.heap.size,2,none⟩) q r.o).trans o2;have q3:A.cell? ⟨w.heap.size,3,none⟩=some (.int .i64 c):=(d.fr.cell (a:=⟨w.heap.size,3,none⟩) q r.o).trans o3;have q4:A.cell? ⟨w.heap.size,4,none⟩=some (.int .i64 g):=(d.fr.cell (a:=⟨w.heap.size,4,none⟩) q r.o).trans o4;have q5:A.cell? ⟨w.heap.size,5,none⟩=some (.string s):=(d.fr.cell (a:=⟨w.heap.size,5,none⟩) q r.o).trans o5;go_wp2_with fail;refine hK.out _ _ ⟨y0,y1,y2,y3,q0,q1,q2,q3,q4,q5⟩ (fun _=>?_)
 refine wt 16 ⟨y0,y1,y2,y3,q0,q1,q2,q3,q4,q5⟩ ?_
 refine wpAnyH_done (by kernel_rfl) ?_ _;go_wp2_with fail;go_ret;exact⟨rfl,aa.o.dV.trans HN.o.2,_,_,_,_,_,_,HN.o.1,by rw[List.length_set];omega,by rw[List.length_set];exact hL,Nat.le_succ _,Nat.le_refl _⟩
theorem CU{B wb M:Nat}{L:List RP}{N:List BP}{rv qv bv cv:Value}(h:WW w B wb L N M rv qv bv cv)(IB:0<L.length)(hL:0<N.length)(rW:N.length<=5000000)(hM:M<=4000000)(k a b c g:Int)(s:ByteArray)(ho:iH k a b c g s)(gg:11<k)(dJ:s.size<=1048576):
  Calls Tryz.prog 5 #[.pointer (some ⟨wb,0,none⟩),gX k a b c g s] w fun e w'=>ft w B wb L N M e w':=by
 have D:Hi ((w.alloc (.cells (eA k a b c g s) 34)).heap[w.heap.size]?=some (.cells (eA k a b c g s) 34 (0,0))):=af rfl _;have V:Hi (Fr Zero w (w.alloc (.cells (eA k a b c g s) 34))):=Fr.alloc _ _ _;have G:=ab (h.quiet V.o);have X:=G.o.fM;have a1:=G.o.dw;have v:=G.o.lt;have Y:=ho.g1;have Z:=ho.g2;have hP:=wu g hL;obtain⟨ra,R,rfl⟩:=h.bs.len;have k1:(k==1)=false:=beq_eq_false_iff_ne.2 (by omega);have ai:(k==11)=false:=beq_eq_false_iff_ne.2 (by omega);have kd:decide (k<11)=false:=decide_eq_false (by omega);have kn:¬k<11:=by omega
 have aj:(0:Int)<(N.length:Int):=by omega
 unfold gX;unfold eA at D V G X a1 v;go_enter Tryz.func5,Tryz.ntmps5;go_wp2_with fail;generalize w.alloc (.cells #[.int .i64 k,.int .i64 a,.int .i64 b,.int .i64 c,.int .i64 g,.string s] 34)=w0 at *;have HD:Hi (Fr Zero w0 w0.drew):=Fr.drew _ _;have g4:w0.drew.cell? ⟨w.heap.size,4,none⟩=some (.int .i64 g):=(cell_of_heap (o:=4) D.o).trans rfl;have X:w0.drew.cell? ⟨wb,2,none⟩=some (.slice ra N.length R):=X;refine wp_region_held_drew (S:=fun W=>W=w0.drew) (by kernel_rfl) rfl (fun hT=>?_);refine wt 0 rfl ?_
 refine wt 1 rfl ?_
 refine wt 2 rfl ?_
 refine wt 3 rfl ?_
 refine wt 4 rfl ?_
 refine wt 5 rfl ?_
 refine wt 6 rfl ?_
 refine wpAnyH_ready (rs:=[7]) (by kernel_rfl) (by simp) ?_;refine wc 7 (fun K hK=>?_) AllReadyH.nil
 go_simp
 refine(s8 g Y Z N.length hL (by omega) _).mono ?_;rintro e w1 ⟨rfl,e1⟩;obtain rfl:=e1.symm;go_wp2_with fail;refine hK.out _ _ rfl (fun _=>?_)
 refine wt 8 rfl ?_
 refine wpAnyH_done (by kernel_rfl) ?_ _;have t:=ab (G.o.quiet (HD.o.trans (Fr.drew Zero w0.drew)));have aa:=ab (V.o.trans (HD.o.trans (Fr.drew Zero w0.drew)));have l:Hi (w0.drew.drew.heap[w.heap.size]?=some (.cells #[.int .i64 k,.int .i64 a,.int .i64 b,.int .i64 c,.int .i64 g,.string s] 34 (0,0))):=D;generalize J:ln g N.length=P at *;obtain⟨p,I⟩:∃ p,N[P]?=some p:=⟨_,List.getElem?_eq_getElem hP⟩;obtain⟨y,E,T,fe,f⟩:=t.o.bs.at_ (j:=P) (u:=jU p) (by rw[List.getElem?_map,I];rfl);obtain⟨A,F,z,ge,i⟩:=t.o.cs.at_ (j:=P) (u:=jT p) (by rw[List.getElem?_map,I];rfl);obtain⟨rfl,rfl⟩:ra=some ⟨y,E,none⟩/\R=T:=by simp at fe;exact fe
 subst ge;have am:(P:Int)<(N.length:Int):=by omega
 have b0:=t.o.fM;have b1:=t.o.dw;have n:=t.o.x6 P p I;have ad:=ab t.o.pow;have O:=ab (t.o.Av P p I);have jt:y<w0.drew.drew.heap.size:=World.block_lt_of_cell? _ _ f;have ae:A<w0.drew.drew.heap.size:=World.block_lt_of_cell? _ _ i;have v:=t.o.lt;have q:=lt_of_heap l.o
 have ag:Hi (¬BX w0.drew.drew p y):=by
  obtain⟨cu,ce⟩:=t.o.bs.typed (g:=y) (by simp[al]);exact TM.eh (x:=.b p) n ce (by decide)
 have ah:Hi (¬BX w0.drew.drew p A):=by
  obtain⟨cu,ce⟩:=t.o.cs.typed (g:=A) (by simp[al]);exact TM.eh (x:=.b p) n ce (by decide)
 have Q:Hi (¬BX w0.drew.drew p wb):=TM.eh (x:=.b p) n t.o.blk (by decide);have r:Hi (¬BX w0.drew.drew p w.heap.size):=TM.eh (x:=.b p) n l.o (by decide);have o0:w0.drew.drew.cell? ⟨w.heap.size,0,none⟩=some (.int .i64 k):=(cell_of_heap (o:=0) l.o).trans rfl;have o1:w0.drew.drew.cell? ⟨w.heap.size,1,none⟩=some (.int .i64 a):=(cell_of_heap (o:=1) l.o).trans rfl;have o2:w0.drew.drew.cell? ⟨w.heap.size,2,none⟩=some (.int .i64 b):=(cell_of_heap (o:=2) l.o).trans rfl;have o3:w0.drew.drew.cell? ⟨w.heap.size,3,none⟩=some (.int .i64 c):=(cell_of_heap (o:=3) l.o).trans rfl;have o4:w0.drew.drew.cell? ⟨w.heap.size,4,none⟩=some (.int .i64 g):=(cell_of_heap (o:=4) l.o).trans rfl;have o5:w0.drew.drew.cell? ⟨w.heap.size,5,none⟩=some (.string s):=(cell_of_heap (o:=5) l.o).trans rfl;unfold jU at f;unfold jT at i;go_wp2_with fail;refine wp_region_held_drew (S:=fun W=>W.cell? ⟨wb,2,none⟩=some (.slice (some ⟨y,E,none⟩) N.length R)/\W.cell? ⟨wb,3,none⟩=some (.slice (some ⟨A,F,none⟩) N.length z)/\W.cell? ⟨y,E+P,none⟩=some (.pointer (some ⟨p.bb,0,none⟩))/\W.cell? ⟨A,F+P,none⟩=some (.pointer (some ⟨p.cb,0,none⟩))/\W.cell? ⟨w.heap.size,0,none⟩=some (.int .i64 k)/\W.cell? ⟨w.heap.size,1,none⟩=some (.int .i64 a)/\W.cell? ⟨w.heap.size,2,none⟩=some (.int .i64 b)/\W.cell? ⟨w.heap.size,3,none⟩=some (.int .i64 c)/\W.cell? ⟨w.heap.size,4,none⟩=some (.int .i64 g)/\W.cell? ⟨w.heap.size,5,none⟩=some (.string s)) (by kernel_rfl) ⟨b0,b1,f,i,o0,o1,o2,o3,o4,o5⟩ (fun hT=>?_);generalize w0.drew.drew=w2 at *;have sS:=(⟨b0,b1,f,i,o0,o1,o2,o3,o4,o5⟩:w2.cell? ⟨wb,2,none⟩=some (.slice (some ⟨y,E,none⟩) N.length R)/\w2.cell? ⟨wb,3,none⟩=some (.slice (some ⟨A,F,none⟩) N.length z)/\w2.cell? ⟨y,E+P,none⟩=some (.pointer (some ⟨p.bb,0,none⟩))/\w2.cell? ⟨A,F+P,none⟩=some (.pointer (some ⟨p.cb,0,none⟩))/\w2.cell? ⟨w.heap.size,0,none⟩=some (.int .i64 k)/\w2.cell? ⟨w.heap.size,1,none⟩=some (.int .i64 a)/\w2.cell? ⟨w.heap.size,2,none⟩=some (.int .i64 b)/\w2.cell? ⟨w.heap.size,3,none⟩=some (.int .i64 c)/\w2.cell? ⟨w.heap.size,4,none⟩=some (.int .i64 g)/\w2.cell? ⟨w.heap.size,5,none⟩=some (.string s));refine wt 0 sS ?_
 refine wt 1 sS ?_
 refine wt 2 sS ?_
 refine wt 3 sS ?_
 refine wt 4 sS ?_
 refine wt 5 sS ?_
 refine wt 6 sS ?_
 refine wt 7 sS ?_
 refine wt 8 sS ?_
 refine wt 9 sS ?_
 refine wt 10 sS ?_
 refine wt 11 sS ?_
 refine wt 12 sS ?_
 refine wt 13 sS ?_
 refine wt 14 sS ?_
 refine wpAnyH_ready (rs:=[15]) (by kernel_rfl) (by simp) ?_;refine wc 15 (fun K hK=>?_) AllReadyH.nil
 go_simp
 refine(Ga n ad.o (by have:=O.o;omega) k a b c g s ho dJ).mono ?_;rintro e C ⟨rfl,p',U,d⟩;have HN:=ab (t.o.GP (M':=M+1) I U d (Nat.le_succ _) (Nat.le_trans d.len (Nat.succ_le_succ O.o)));have y0:C.cell? ⟨wb,2,none⟩=some (.slice (some ⟨y,E,none⟩) N.length R):=(d.fr.cell (a:=⟨wb,2,none⟩) v Q.o).trans b0;have y1:C.cell? ⟨wb,3,none⟩=some (.slice (some ⟨A,F,none⟩) N.length z):=(d.fr.cell (a:=⟨wb,3,none⟩) v Q.o).trans b1;have y2:C.cell? ⟨y,E+P,none⟩=some (.pointer (some ⟨p.bb,0,none⟩)):=(d.fr.cell (a:=⟨y,E+P,none⟩) jt ag.o).trans f;have y3:C.cell? ⟨A,F+P,none⟩=some (.pointer (some ⟨p.cb,0,none⟩)):=(d.fr.cell (a:=⟨A,F+P,none⟩) ae ah.o).trans i;have q0:C.cell? ⟨w.heap.size,0,none⟩=some (.int .i64 k):=(d.fr.cell (a:=⟨w.heap.size,0,none⟩) q r.o).trans o0;have q1:C.cell? ⟨w.heap.size,1,none⟩=some (.int .i64 a):=(d.fr.cell (a:=⟨w.heap.size,1,none⟩) q r.o).trans o1;have q2:C.cell? ⟨w.heap.size,2,none⟩=some (.int .i64 b):=(d.fr.cell (a:=⟨w.heap.size,2,none⟩) q r.o).trans o2;have q3:C.cell? ⟨w.heap.size,3,none⟩=some (.int .i64 c):=(d.fr.cell (a:=⟨w.heap.size,3,none⟩) q r.o).trans o3;have q4:C.cell? ⟨w.heap.size,4,none⟩=some (.int .i64 g):=(d.fr.cell (a:=⟨w.heap.size,4,none⟩) q r.o).trans o4;have q5:C.cell? ⟨w.heap.size,5,none⟩=some (.string s):=(d.fr.cell (a:=⟨w.heap.size,5,none⟩) q r.o).trans o5;go_wp2_with fail;refine hK.out _ _ ⟨y0,y1,y2,y3,q0,q1,q2,q3,q4,q5⟩ (fun _=>?_)
 refine wt 16 ⟨y0,y1,y2,y3,q0,q1,q2,q3,q4,q5⟩ ?_
 refine wpAnyH_done (by kernel_rfl) ?_ _;go_wp2_with fail;go_ret;exact⟨rfl,aa.o.dV.trans HN.o.2,_,_,_,_,_,_,HN.o.1,Nat.le_succ _,IB,by rw[List.length_set];omega,by rw[List.length_set];exact Nat.le_refl _⟩
end Go.Proofs.YtpffifpbpmlhdaaGreatDoor.Q
