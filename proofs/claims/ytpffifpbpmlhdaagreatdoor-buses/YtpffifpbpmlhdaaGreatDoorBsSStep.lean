import Derived.Test.YtpffifpbpmlhdaaGreatDoorBsQPure
set_option maxHeartbeats 32000000
set_option maxRecDepth 100000
namespace Go.Proofs.YtpffifpbpmlhdaaGreatDoor.Q
open Go.RowKit
variable {i k n qb s:Nat}{R:PR}{w:World}{fv:Value}
structure RF where
 bytes:Bs
 takes:Nat
 how:Nat
structure RR where
 g:Nat
 fs:List RF
 next:Nat
 shut:Bool
def eI(f:RF):List Value:=[.string (ba f.bytes),.int .i64 f.takes,.int .i64 f.how]
def cZ(l:List RF):List Value:=l.flatMap eI
theorem nt(l:List RF)(f:RF):cZ (l++[f])=cZ l++eI f:=by simp[cZ]
theorem pS(l:List RF):(cZ l).length=l.length*3:=by
 induction l with
 | nil=>rfl
 | cons f l ih=>simp only[cZ,List.flatMap_cons,List.length_append,List.length_cons] at *;rw[ih];simp[eI];omega
theorem ys{l:List RF}{f:RF}(h:l[i]?=some f):(cZ l)[i*3]?=some (.string (ba f.bytes))/\(cZ l)[i*3+1]?=some (.int .i64 f.takes)/\(cZ l)[i*3+2]?=some (.int .i64 f.how):=by
 induction l generalizing i with
 | nil=>simp at h
 | cons x l ih =>
  rcases i with _|i
  ·simp at h;subst h;exact⟨rfl,rfl,rfl⟩
  ·have a:=ih (i:=i) (by simpa using h)
   have e:∀ k,(cZ (x::l))[(i+1)*3+k]?=(cZ l)[i*3+k]?:=fun k=>by
    simp only[cZ,List.flatMap_cons];rw[List.getElem?_append_right (by simp[eI];omega)]
    congr 1
    simp[eI];omega
   exact⟨(e 0).trans a.1,(e 1).trans a.2.1,(e 2).trans a.2.2⟩
structure RQ(w:World)(qb:Nat)(Q:RR)(fv:Value):Prop where
 q:w.heap[qb]?=some (.cells #[.int .i64 Q.g,fv,.int .i64 Q.next,.bool Q.shut] 38 (0,0))
 f:cA w 50 3 fv Q.fs.length (cZ Q.fs)
def QX(w:World)(qb:Nat):Nat->Prop:=fun k=>k=qb\/∃ v,w.cell? ⟨qb,1,none⟩=some v/\al v=some k
structure kq(qb:Nat)(w w':World):Prop where
 fr:Fr (QX w qb) w w'
 own:∀ k,k<w.heap.size->QX w' qb k->QX w qb k
theorem kq.refl(qb:Nat)(w:World):kq qb w w:=⟨Fr.refl _ _,fun _ _ h=>h⟩
section
variable {w w':World} {qb:Nat} {Q:RR} {fv:Value}
theorem RQ.dM(h:RQ w qb Q fv):w.cell? ⟨qb,0,none⟩=some (.int .i64 Q.g):=by rw[cell_of_heap h.q];rfl
theorem RQ.cE(h:RQ w qb Q fv):w.cell? ⟨qb,1,none⟩=some fv:=by rw[cell_of_heap h.q];rfl
theorem RQ.fM(h:RQ w qb Q fv):w.cell? ⟨qb,2,none⟩=some (.int .i64 Q.next):=by rw[cell_of_heap h.q];rfl
theorem RQ.dw(h:RQ w qb Q fv):w.cell? ⟨qb,3,none⟩=some (.bool Q.shut):=by rw[cell_of_heap h.q];rfl
theorem RQ.free(h:RQ w qb Q fv)(o:Nat):w.frozen? ⟨qb,o,none⟩=false:=ak h.q
theorem RQ.lt(h:RQ w qb Q fv):qb<w.heap.size:=lt_of_heap h.q
theorem QX.of(h:RQ w qb Q fv)(hk:QX w qb k):k=qb\/al fv=some k:=by
 rcases hk with e|⟨v,a,b⟩
 ·exact .inl e
 ·rw[h.cE] at a;simp at a;subst a;exact .inr b
theorem QX.mk(h:RQ w qb Q fv)(hk:k=qb\/al fv=some k):QX w qb k:=by
 rcases hk with e|e
 ·exact .inl e
 ·exact .inr ⟨fv,h.cE,e⟩
theorem cA.typed{ty:TypeId}{sz:Nat}{v:Value}{xs:List Value}(h:cA w ty sz v n xs){g:Nat}(hg:al v=some g):∃ cur,w.heap[g]?=some (.cells cur ty (0,0)):=by
 rcases h.2 with⟨q,_⟩|⟨d,a,au,cur,b,c,_⟩
 ·rw[q] at hg;simp[al] at hg
 ·rw[b] at hg;simp[al] at hg;subst hg;exact⟨cur,c⟩
theorem RQ.quiet(h:RQ w qb Q fv)(hf:Fr Zero w w'):RQ w' qb Q fv:=⟨hf.ae h.q (fun h=>h),h.f.ae hf (fun _ _ h=>h)⟩
theorem RQ.eh(h:RQ w qb Q fv){cs:Array Value}{t:TypeId}{f:Nat×Nat}(hk:w.heap[k]?=some (.cells cs t f))(h1:t≠38)(h2:t≠50):¬QX w qb k:=fun e=>by
 rcases QX.of h e with e|e
 ·rw[e,h.q] at hk;simp at hk;exact h1 hk.2.1.symm
 ·obtain⟨c,e1⟩:=h.f.typed e;rw[e1] at hk;simp at hk;exact h2 hk.2.1.symm
theorem RQ.ae{X:Nat->Prop}(h:RQ w qb Q fv)(hf:Fr X w w')(hx:∀ k,QX w qb k->¬X k):RQ w' qb Q fv/\∀ k,QX w' qb k↔QX w qb k:=by
 have a:RQ w' qb Q fv:=⟨hf.ae h.q (hx _ (.inl rfl)),h.f.ae hf (fun g hg=>hx g (QX.mk h (.inr hg)))⟩;refine⟨a,fun k=>?_⟩;unfold QX;rw[a.cE,h.cE]
theorem kq.quiet(h:RQ w qb Q fv)(hf:Fr Zero w w'):kq qb w w':=⟨hf.dV,fun k _ hk=>((h.ae hf (fun _ _ h=>h)).2 k).1 hk⟩
theorem kq.trans{w1 w2:World}(h:kq qb w w1)(k:kq qb w1 w2):kq qb w w2 :=
 ⟨⟨k.fr.os.trans h.fr.os,k.fr.tape.trans h.fr.tape,k.fr.output.trans h.fr.output,Nat.le_trans h.fr.size k.fr.size,fun i hi hx=>(k.fr.block i (Nat.lt_of_lt_of_le hi h.fr.size) (fun e=>hx (h.own i hi e))).trans (h.fr.block i hi hx)⟩,fun i hi hx=>h.own i hi (k.own i (Nat.lt_of_lt_of_le hi h.fr.size) hx)⟩
end
def dB:List RF->Nat
 | []=>0
 | f::l=>if f.how<2 then((f::l).map RF.takes).sum else dB l
def um(l:List RF):Bool:=l.any (fun f=>decide (f.how<2))
theorem vD(l:List RF)(f:RF):dB (l++[f])=dB l+(if(um l||decide (f.how<2))=true then f.takes else 0):=by
 induction l with
 | nil=>simp[dB,um]
 | cons x l ih =>
  simp only[List.cons_append,dB]
  by_cases a:x.how<2
  ·simp[a,um];omega
  ·rw[if_neg a,if_neg a,ih];simp[um,a]
theorem su(l:List RF)(k:Nat):dB (l.take k)<=dB l:=by
 induction l generalizing k with
 | nil=>simp[dB]
 | cons x l ih =>
  rcases k with _|k
  ·simp[dB]
  ·simp only[List.take_succ_cons,dB]
   split
   ·have e:l=l.take k++l.drop k:=(List.take_append_drop k l).symm
    have:(l.map RF.takes).sum=((l.take k).map RF.takes).sum+((l.drop k).map RF.takes).sum:=by rw[<-List.sum_append,<-List.map_append,<-e]
    simp only[List.map_cons,List.sum_cons];omega
   ·exact ih k
def rf(f:PF):RF:=⟨f.data,f.takes,f.st⟩
structure dO(R:PR)(Q:RR):Prop where
 g:Q.g=R.g
 next:Q.next=R.next
 shut:Q.shut=R.shut
 fs:∃ old,Q.fs=old++R.fs.map rf/\old.length+1=R.first/\∀ f∈old,f.how=2
 short:∀ f∈Q.fs,f.bytes.length<=1000
theorem yj{old l:List RF}(h:∀ f∈old,f.how=2):dB (old++l)=dB l:=by
 induction old with
 | nil=>rfl
 | cons x old ih =>
  simp only[List.cons_append,dB];rw[if_neg (by have:=h x (by simp);omega),ih (fun f hf=>h f (by simp[hf]))]
theorem dO.taken{Q:RR}(h:dO R Q)(hF:Fit R):dB Q.fs=taken R.fs:=by
 obtain⟨b,a,_,c⟩:=h.fs;rw[a,yj c];rcases hq:R.fs with _|⟨f,l⟩
 ·rfl
 ·have a:=hF.head f l hq;have d:=hF.sts f (by rw[hq];simp);simp only[List.map_cons,dB];rw[if_pos (by show f.st<2;omega)];simp[Go.Proofs.YtpffifpbpmlhdaaGreatDoor.Q.taken,rf,Function.comp_def]
theorem dO.len{Q:RR}(h:dO R Q):Q.fs.length+1=R.first+R.fs.length:=by
 obtain⟨a,b,c,_⟩:=h.fs;rw[b];simp;omega
theorem dO.new(g:Nat):dO (jQ g) ⟨g,[],0,false⟩:=⟨rfl,rfl,rfl,⟨[],rfl,rfl,by simp⟩,by simp⟩
theorem dO.put{Q:RR}(h:dO R Q)(d:Bs)(h0:(eu R d).1=0)(hn:R.next<R.g)(Hb:R.g<=64):
  dO (eu R d).2 { Q with fs:=Q.fs++[⟨d,(if R.g<R.next+a7 d.length then R.g-R.next else 0)+a7 d.length,0⟩],next:=(R.next+(if R.g<R.next+a7 d.length then R.g-R.next else 0)+a7 d.length)%R.g }:=by
 have a:fU R.g R.next (a7 d.length)=if R.g<R.next+a7 d.length then R.g-R.next else 0:=by
  unfold fU
  by_cases i:R.g<R.next+a7 d.length
  ·rw[if_pos i,if_pos (by omega)]
  ·rw[if_neg i,if_neg (by omega)]
 unfold eu at h0 ⊢
 by_cases j:R.shut=true
 ·rw[if_pos j] at h0;simp at h0
 rw[if_neg j] at h0 ⊢
 by_cases c:R.g<2*a7 d.length
 ·rw[if_pos c] at h0;simp at h0
 rw[if_neg c] at h0 ⊢
 by_cases k:R.g<Go.Proofs.YtpffifpbpmlhdaaGreatDoor.Q.taken R.fs+fU R.g R.next (a7 d.length)+a7 d.length
 ·rw[if_pos k] at h0;simp at h0
 rw[if_neg k];obtain⟨e,l,m,n⟩:=h.fs;refine⟨h.g,?_,h.shut,⟨e,?_,m,n⟩,fun f b=>?_⟩
 ·simp only;rw[<-a];unfold putAt;rw[Nat.mod_add_mod]
 ·simp only;rw[l,<-a];simp[rf]
 ·rcases List.mem_append.1 b with b|b
  ·exact h.short f b
  ·simp at b;subst b;unfold a7 at c;show d.length<=1000;omega
theorem RQ.frame{Q:RR}(h:RQ w qb Q fv){f:RF}(hf:Q.fs[i]?=some f):∃ fb off au,fv=.slice (some ⟨fb,off,none⟩) Q.fs.length au/\w.cell? ⟨fb,off+i*3,none⟩=some (.string (ba f.bytes))/\w.cell? ⟨fb,off+i*3+1,none⟩=some (.int .i64 f.takes)/\w.cell? ⟨fb,off+i*3+2,none⟩=some (.int .i64 f.how)/\(∀ o,w.frozen? ⟨fb,o,none⟩=false):=by
 obtain⟨l,m,n⟩:=ys hf;obtain⟨fb,off,au,a,p⟩:=h.f.at_ l;obtain⟨q,d,e,b,r⟩:=h.f.at_ m;obtain⟨s,j,k,c,t⟩:=h.f.at_ n;rw[a] at b c;simp at b c;obtain⟨⟨rfl,rfl⟩,rfl⟩:=b;obtain⟨⟨rfl,rfl⟩,_⟩:=c;refine⟨fb,off,au,a,p,by rw[Nat.add_assoc];exact r,by rw[Nat.add_assoc];exact t,fun o=>?_⟩;obtain⟨u,v⟩:=h.f.typed (g:=fb) (by rw[a];simp[al]);exact ak v
theorem kD{Q:RR}(h:RQ w qb Q fv)(ht:dB Q.fs<=1000000)(hl:Q.fs.length<=3000000000000):
  Calls Tryz.prog 40 #[.pointer (some ⟨qb,0,none⟩)] w fun e w'=>e=.returned (.int .i64 (dB Q.fs))/\w'=w:=by
 have v:=h.cE;obtain⟨r,s,rfl⟩:=h.f.len;go_enter Tryz.func40,Tryz.ntmps40;go_wp2
 go_loopw [3,4,5] (fun nv ov iv wr=>∃ i:Nat,i<=Q.fs.length/\nv=.int .i64 (dB (Q.fs.take i))/\ov=.bool (um (Q.fs.take i))/\iv=.int .i64 i/\wr=w) (fun _ _ iv _=>Q.fs.length-(intOf iv).toNat)
 case atStart=>exact⟨0,by omega,rfl,rfl,rfl,rfl⟩
 case round =>
  obtain⟨i,x,rfl,rfl,rfl,t⟩:=hrel;subst t
  by_cases j:i<Q.fs.length
  ·have q:(i:Int)<(Q.fs.length:Int):=by omega
   have d:Q.fs[i]?=some Q.fs[i]:=List.getElem?_eq_getElem j;obtain⟨u,m,au,g,y,z,A,_⟩:=h.frame d;obtain⟨rfl,_,rfl⟩:r=some ⟨u,m,none⟩/\True/\s=au:=by simp at g;exact⟨g.1,trivial,g.2⟩
   have a:=ab (vD (Q.fs.take i) Q.fs[i]);have b:Hi (um (Q.fs.take i++[Q.fs[i]])=(um (Q.fs.take i)||decide (Q.fs[i].how<2))):=ab (by unfold um;rw[List.any_append];simp);have c:Hi (Q.fs.take (i+1)=Q.fs.take i++[Q.fs[i]]):=ot d;have bZ:=su Q.fs (i+1);rw[c.o,a.o] at bZ;have n:=su Q.fs i;generalize Q.fs[i]=f at *;rcases ho:um (Q.fs.take i) with _|_
   ·rw[ho] at a b bZ
    by_cases p:f.how<2
    ·have k:(f.how:Int)<2:=by omega
     rw[decide_eq_true p] at a b bZ;rw[if_pos (by rfl)] at bZ a;go_wp2;exact⟨⟨i+1,by omega,by rw[c.o,a.o];go_num,by rw[c.o,b.o];rfl,by go_num,by trivial⟩,by simp[intOf];omega⟩
    ·have k:¬(f.how:Int)<2:=by omega
     rw[decide_eq_false p] at a b bZ;rw[if_neg (by decide)] at bZ a;go_wp2;exact⟨⟨i+1,by omega,by rw[c.o,a.o];go_num,by rw[c.o,b.o];rfl,by go_num,by trivial⟩,by simp[intOf];omega⟩
   ·rw[ho,Bool.true_or] at a b bZ;rw[if_pos rfl] at bZ a;go_wp2;exact⟨⟨i+1,by omega,by rw[c.o,a.o];go_num,by rw[c.o,b.o],by go_num,by trivial⟩,by simp[intOf];omega⟩
  ·have l:i=Q.fs.length:=by omega
   subst l;have q:¬(Q.fs.length:Int)<(Q.fs.length:Int):=by omega
   go_wp2;go_ret;exact⟨rfl,by trivial⟩
theorem RQ.Cm{w':World}{Q:RR}{fh:Value}{GG:List RF}(h:RQ w qb Q fv)(hF:cA w' 50 3 fh GG.length (cZ GG))(hf:Fr (px fv) w w')(hv:∀ k,k<w.heap.size->al fh=some k->al fv=some k):
  RQ (w'.setCell ⟨qb,1,none⟩ fh) qb { Q with fs:=GG } fh/\kq qb w (w'.setCell ⟨qb,1,none⟩ fh):=by
 have a:w'.heap[qb]?=_:=hf.ae h.q (fun e=>h.f.ne h.q (by decide) e);have b:Fr (One qb) w' (w'.setCell ⟨qb,1,none⟩ fh):=Fr.setCell _ _ _ _ rfl
 have c:RQ (w'.setCell ⟨qb,1,none⟩ fh) qb { Q with fs:=GG } fh:=by
  refine⟨by rw[heap_setCell_same a];rfl,hF.ae b (fun g hg e=>?_)⟩;have d:g=qb:=e;rw[d] at hg;exact hF.ne a (by decide) hg
 refine⟨c,⟨(hf.mono (fun k _ e=>QX.mk h (.inr e))).trans (b.mono (fun k _ e=>QX.mk h (.inl e))),fun k hk hx=>?_⟩⟩;rcases QX.of c hx with e|e
 ·exact QX.mk h (.inl e)
 ·exact QX.mk h (.inr (hv k hk e))
theorem RQ.Gy{Q:RR}(h:RQ w qb Q fv)(n:Nat):RQ (w.setCell ⟨qb,2,none⟩ (.int .i64 n)) qb { Q with next:=n } fv/\kq qb w (w.setCell ⟨qb,2,none⟩ (.int .i64 n)):=by
 have a:Fr (One qb) w (w.setCell ⟨qb,2,none⟩ (.int .i64 n)):=Fr.setCell _ _ _ _ rfl;have b:RQ (w.setCell ⟨qb,2,none⟩ (.int .i64 n)) qb { Q with next:=n } fv:=⟨by rw[heap_setCell_same h.q];rfl,h.f.ae a (fun g hg e=>by have c:g=qb:=e;rw[c] at hg;exact h.f.ne h.q (by decide) hg)⟩;refine⟨b,⟨a.mono (fun k _ e=>QX.mk h (.inl e)),fun k _ hx=>?_⟩⟩;rcases QX.of b hx with e|e
 ·exact QX.mk h (.inl e)
 ·exact QX.mk h (.inr e)
theorem RQ.Gx{Q:RR}(h:RQ w qb Q fv)(b:Bool):RQ (w.setCell ⟨qb,3,none⟩ (.bool b)) qb { Q with shut:=b } fv/\kq qb w (w.setCell ⟨qb,3,none⟩ (.bool b)):=by
 have a:Fr (One qb) w (w.setCell ⟨qb,3,none⟩ (.bool b)):=Fr.setCell _ _ _ _ rfl;have c:RQ (w.setCell ⟨qb,3,none⟩ (.bool b)) qb { Q with shut:=b } fv:=⟨by rw[heap_setCell_same h.q];rfl,h.f.ae a (fun g hg e=>by have d:g=qb:=e;rw[d] at hg;exact h.f.ne h.q (by decide) hg)⟩;refine⟨c,⟨a.mono (fun k _ e=>QX.mk h (.inl e)),fun k _ hx=>?_⟩⟩;rcases QX.of c hx with e|e
 ·exact QX.mk h (.inl e)
 ·exact QX.mk h (.inr e)
theorem pN(f:RF){t:TypeId}(h:w.heap[n]?=some (.cells #[.string (ba f.bytes),.int .i64 f.takes,.int .i64 f.how] t (0,0))):Src Tryz.prog 3 36 (.slice (some ⟨n,0,none⟩) 1 1) 1 (eI f) w:=by
 refine Src.ofSlice _ Tryz.underlying36 _ _ _ _ rfl (fun j u hj=>?_) (fun u hu=>?_)
 ·rw[show(⟨n,0,none⟩:Addr).add j=⟨n,j,none⟩ by simp[Addr.add];omega,cell_of_heap h]
  match j,hj with
  | 0,hj=>simpa[eI] using hj
  | 1,hj=>simpa[eI] using hj
  | 2,hj=>simpa[eI] using hj
  | j+3,hj=>simp[eI] at hj
 ·simp[eI] at hu;rcases hu with rfl|rfl|rfl<;>rfl
theorem D2:(Tryz.prog.info? 50).map (fun i=>(i.zero,i.size,i.bytes))=some (some (.agg #[.string ⟨#[]⟩,.int .i64 0,.int .i64 0]),3,32):=by kernel_rfl
theorem pT{Q:RR}(h:RQ w qb Q fv)(hS:dO R Q)(hF:Fit R)(data:ByteArray)(hd:data.size<=1000000000000000)(hl:Q.fs.length<=3000000000000):
  Calls Tryz.prog 12 #[.pointer (some ⟨qb,0,none⟩),.string data] w fun e w'=>e=.returned (.int .i64 (eu R data.data.toList).1)/\kq qb w w'/\∃ Q' fh,RQ w' qb Q' fh/\dO (eu R data.data.toList).2 Q':=by
 have k0:=h.dM;have k1:=h.cE;have k2:=h.fM;have k3:=h.dw;have aC:=h.lt;rw[hS.g] at k0;rw[hS.next] at k2;rw[hS.shut] at k3;have aq:data.data.toList.length=data.size:=Array.length_toList;have aF:=hF.g2;have Hb:=hF.g64;have ar:=hF.next;have al:dB Q.fs<=64:=by rw[hS.taken hF];have:=hF.tidy.taken;omega
 have J:=ab (hS.taken hF);cases hs:R.shut with
 | true =>
  have B:Hi (eu R data.data.toList=(12,R)):=ab (by unfold eu;rw[if_pos hs]);rw[hs] at k3;go_enter Tryz.func12,Tryz.ntmps12;go_wp2;go_ret;rw[B.o];exact⟨rfl,kq.refl _ _,_,_,h,hS⟩
 | false =>
  rw[hs] at k3;obtain⟨N,hN⟩:∃ N,a7 data.size=N:=⟨_,rfl⟩;have aG:((data.size:Int)+2+8-1)/8=(N:Int):=by rw[<-hN];unfold a7;omega
  have aD:((data.size:Int)+9)/8=(N:Int):=by rw[<-hN];unfold a7;omega
  have aH:N<=1000000000000000:=by rw[<-hN];unfold a7;omega
  have L:a7 data.data.toList.length=N:=by rw[aq];exact hN
  by_cases h2:R.g<2*N
  ·have B:Hi (eu R data.data.toList=(9,R)):=ab (by unfold eu;rw[L,if_neg (by rw[hs];decide),if_pos h2]);have hI:(R.g:Int)<2*(N:Int):=by omega
   go_enter Tryz.func12,Tryz.ntmps12;go_wp2;go_ret;rw[B.o];exact⟨rfl,kq.refl _ _,_,_,h,hS⟩
  ·have aI:¬(R.g:Int)<2*(N:Int):=by omega
   obtain⟨G,hG⟩:∃ G,(if R.g<R.next+N then R.g-R.next else 0)=G:=⟨_,rfl⟩
   have s:fU R.g R.next N=G:=by
    rw[<-hG];unfold fU
    by_cases Y:R.g<R.next+N
    ·rw[if_pos Y,if_pos (by omega)]
    ·rw[if_neg Y,if_neg (by omega)]
   have A:Hi ((eu R data.data.toList).1=0->dO (eu R data.data.toList).2 { Q with fs:=Q.fs++[⟨data.data.toList,G+N,0⟩],next:=(R.next+G+N)%R.g }):=fun h0=>by
    have:=hS.put data.data.toList h0 ar Hb
    rw[L,hG] at this;exact this
   have l:Hi (R.g<taken R.fs+G+N->eu R data.data.toList=(10,R)):=fun P=>by
    unfold eu;rw[L,if_neg (by rw[hs];decide),if_neg h2,s,if_pos P]
   have m:Hi (¬R.g<taken R.fs+G+N->(eu R data.data.toList).1=0):=fun P=>by
    unfold eu;rw[L,if_neg (by rw[hs];decide),if_neg h2,s,if_neg P]
   have aJ:G<=64:=by rw[<-hG];split<;>omega
   go_enter Tryz.func12,Tryz.ntmps12;go_wp2
   by_cases Y:R.g<R.next+N
   ·have Z:(R.g:Int)<(R.next:Int)+(N:Int):=by omega
    rw[if_pos Y] at hG;have aK:(R.g:Int)-(R.next:Int)=(G:Int):=by omega
    go_quiet (fail)
    have i:Hi (Fr Zero w (w.drewN nq)):=Fr.drewN _ _ _;have u:=ab (h.quiet i.o);have n:=ab (i.o);have M:(w.drewN nq).cell? ⟨qb,0,none⟩=some (.int .i64 R.g):=k0;have a2:(w.drewN nq).cell? ⟨qb,2,none⟩=some (.int .i64 R.next):=k2;have O:(w.drewN nq).cell? ⟨qb,1,none⟩=some fv:=k1;generalize w.drewN nq=w1 at *;go_wp2
    go_quiet (fail)
    have i:Hi (Fr Zero w1 (w1.drewN nq)):=Fr.drewN _ _ _;have aa:=ab (u.o.quiet i.o);have C:=ab (n.o.trans i.o);have M:(w1.drewN nq).cell? ⟨qb,0,none⟩=some (.int .i64 R.g):=M;have a2:(w1.drewN nq).cell? ⟨qb,2,none⟩=some (.int .i64 R.next):=a2;have O:(w1.drewN nq).cell? ⟨qb,1,none⟩=some fv:=O;generalize w1.drewN nq=w2 at *;go_wp2;have j:=ab (aa.o.quiet (Fr.drew Zero w2));refine wp_region_held_drew (S:=fun W=>W=w2.drew) (by kernel_rfl) rfl (fun hT=>?_);have M:w2.drew.cell? ⟨qb,0,none⟩=some (.int .i64 R.g):=M;refine wt 0 rfl ?_
    refine wt 2 rfl ?_
    refine wt 4 rfl ?_
    refine wt 6 rfl ?_
    refine wt 7 rfl ?_
    refine wt 8 rfl ?_
    refine wt 9 rfl ?_
    refine wpAnyH_ready (rs:=[1]) (by kernel_rfl) (by simp) ?_;refine wc 1 (fun K hK=>?_) AllReadyH.nil
    go_simp
    refine(kD j.o (by omega) (by omega)).mono ?_;rintro e w3 ⟨rfl,e3⟩;obtain rfl:=e3.symm;rw[J.o];rw[J.o] at al;go_wp2;refine hK.out _ _ rfl (fun _=>?_)
    generalize taken R.fs=T at *;have am:IntKind.i64.wrap ((T:Int)+(G:Int))=(T:Int)+(G:Int):=by rw[IntKind.wrap_i64];omega
    have an:IntKind.i64.wrap ((T:Int)+(G:Int)+(N:Int))=(T:Int)+(G:Int)+(N:Int):=by rw[IntKind.wrap_i64];omega
    have ao:IntKind.i64.wrap ((T:Int)+(N:Int))=(T:Int)+(N:Int):=by rw[IntKind.wrap_i64];omega
    have ap:IntKind.i64.wrap (T:Int)=(T:Int):=by rw[IntKind.wrap_i64];omega
    by_cases P:R.g<T+G+N
    ·have ac:(R.g:Int)<(T:Int)+(G:Int)+(N:Int):=by omega
     have B:=ab (l.o P);refine wt 3 rfl ?_
     refine wt 5 rfl ?_
     refine wt 10 rfl ?_
     refine wpAnyH_done (by kernel_rfl) ?_ _;go_wp2;go_ret;rw[B.o];exact⟨rfl,kq.quiet h (C.o.trans (Fr.drew _ _)),_,⟨_,j.o⟩,hS⟩
    ·have ac:¬(R.g:Int)<(T:Int)+(G:Int)+(N:Int):=by omega
     have B:=ab (m.o P);have r:=ab (A.o B.o);refine wt 3 rfl ?_
     refine wt 5 rfl ?_
     refine wt 10 rfl ?_
     refine wpAnyH_done (by kernel_rfl) ?_ _;have ad:=ab (C.o.trans (Fr.drew Zero w2));have O:w2.drew.cell? ⟨qb,1,none⟩=some fv:=O;generalize w2.drew=w4 at *;have D:Hi (Fr Zero w4 (w4.alloc (.cells #[.string data,.int .i64 ((G:Int)+(N:Int)),.int .i64 0] 50))):=Fr.alloc _ _ _;have b:=ab (j.o.quiet D.o);have au:=b.o.lt;have av:=j.o.lt;have ag:Hi (Src Tryz.prog 3 36 (.slice (some ⟨w4.heap.size,0,none⟩) 1 1) 1 (eI ⟨data.data.toList,G+N,0⟩) (w4.alloc (.cells #[.string data,.int .i64 ((G:Int)+(N:Int)),.int .i64 0] 50))):=pN (t:=50) ⟨data.data.toList,G+N,0⟩ (by rw[af rfl];simp[eC]);obtain⟨fa,fc,rfl⟩:=b.o.f.len
     go_wp2_with (at_builtin;refine eE rfl (.tmp 59) (.tmp 65) 36 36 rfl Tryz.underlying36 D2 rfl 1 (eI ⟨data.data.toList,G+N,0⟩) rfl rfl b.o.f ag.o ?hl9 ?h639 ?_)
     case hl9=>omega
     case h639=>omega
     intro v6 U z p I;obtain⟨V,aj⟩:∃ V:RF,V=⟨data.data.toList,G+N,0⟩:=⟨_,rfl⟩;rw[<-aj] at z r;obtain⟨X,hX⟩:∃ X,(R.next+G+N)%R.g=X:=⟨_,rfl⟩;have ah:((R.next:Int)+(G:Int)+(N:Int))%(R.g:Int)=(X:Int):=by rw[<-hX];simp
     have HX:Hi ((R.next+G+N)%R.g=X):=hX;have k:cA U 50 3 v6 (Q.fs++[V]).length (cZ (Q.fs++[V])):=by rw[nt];simpa using z
     have HE:=ab (b.o.Cm k p (by simpa using I));have q1:U.cell? ⟨qb,1,none⟩=_:=(p.cell (a:=⟨qb,1,none⟩) b.o.lt (fun e=>b.o.f.ne b.o.q (by decide) e)).trans b.o.cE;have q2:U.frozen? ⟨qb,1,none⟩=false:=ak (p.ae b.o.q (fun e=>b.o.f.ne b.o.q (by decide) e));obtain⟨va,vc,rfl⟩:=k.len;go_wp2;have v:=ab HE.o.1;have E:=ab (((kq.quiet h ad.o).trans (kq.quiet j.o D.o)).trans HE.o.2);simp only[List.length_append,List.length_cons,List.length_nil,Nat.zero_add] at v E;generalize U.setCell ⟨qb,1,none⟩ (.slice va (Q.fs.length+1) vc)=w7 at *;have x:=ab (v.o.quiet (Fr.drew Zero w7));have c:w7.drew.cell? ⟨qb,0,none⟩=some (.int .i64 R.g):=by rw[<-hS.g];exact x.o.dM
     have j2:w7.drew.cell? ⟨qb,2,none⟩=some (.int .i64 R.next):=by rw[<-hS.next];exact x.o.fM
     have jf:w7.drew.frozen? ⟨qb,2,none⟩=false:=x.o.free 2;have y:=ab (v.o.Gy X);have aw:((R.g:Int)==0)=false:=beq_eq_false_iff_ne.2 (by omega);have ax:¬((R.g:Int)=0):=by omega
     have ay:¬R.g=0:=by omega
     have az:IntKind.i64.wrap ((R.next:Int)+(G:Int))=(R.next:Int)+(G:Int):=by rw[IntKind.wrap_i64];omega
     have aA:IntKind.i64.wrap ((R.next:Int)+(G:Int)+(N:Int))=(R.next:Int)+(G:Int)+(N:Int):=by rw[IntKind.wrap_i64];omega
     have aB:((R.next:Int)+(G:Int)+(N:Int)).tmod (R.g:Int)=(X:Int):=by
      rw[Int.tmod_eq_emod_of_nonneg (by omega)];exact ah
     refine wp_region_held_drew (S:=fun W=>W.cell? ⟨qb,0,none⟩=some (.int .i64 R.g)) (by kernel_rfl) c (fun hT=>?_);refine wt 0 c ?_
     refine wt 1 c ?_
     refine wt 2 c ?_
     refine wt 3 c ?_
     refine wt 5 c ?_
     refine wt 7 c ?_
     refine wt 9 c ?_
     refine wt 10 c ?_
     refine wt 11 c ?_
     refine wt 12 c ?_
     refine wpAnyH_ready (rs:=[4]) (by kernel_rfl) (by simp) ?_;refine wc 4 (fun K hK=>?_) AllReadyH.nil
     go_simp
     refine hK.out _ _ c (fun _=>?_)
     refine wt 6 c ?_
     refine wt 8 c ?_
     refine wt 13 c ?_
     refine wt 14 c ?_
     refine wt 15 c ?_
     refine wpAnyH_ready (rs:=[16]) (by kernel_rfl) (by simp) ?_;refine wc 16 (fun K hK=>?_) AllReadyH.nil
     go_simp
     have F:=ab (y.o.1.quiet (Fr.drew Zero _));have ai:=ab ((E.o.trans y.o.2).trans (kq.quiet y.o.1 (Fr.drew Zero _)));have y0:(w7.setCell ⟨qb,2,none⟩ (.int .i64 X)).drew.cell? ⟨qb,0,none⟩=some (.int .i64 R.g):=by rw[<-hS.g];exact F.o.dM
     refine hK.out _ _ y0 (fun _=>?_)
     refine wpAnyH_done (by kernel_rfl) ?_ _;rw[HX.o] at r;generalize (w7.setCell ⟨qb,2,none⟩ (.int .i64 X)).drew=w8 at *;go_wp2;go_ret;exact⟨by rw[B.o];rfl,ai.o,_,⟨_,F.o⟩,r.o⟩
   ·have Z:¬(R.g:Int)<(R.next:Int)+(N:Int):=by omega
    rw[if_neg Y] at hG;subst hG
    go_quiet (fail)
    have i:Hi (Fr Zero w (w.drewN nq)):=Fr.drewN _ _ _;have u:=ab (h.quiet i.o);have n:=ab (i.o);have M:(w.drewN nq).cell? ⟨qb,0,none⟩=some (.int .i64 R.g):=k0;have a2:(w.drewN nq).cell? ⟨qb,2,none⟩=some (.int .i64 R.next):=k2;have O:(w.drewN nq).cell? ⟨qb,1,none⟩=some fv:=k1;generalize w.drewN nq=w1 at *;go_wp2;have j:=ab (u.o.quiet (Fr.drew Zero w1));refine wp_region_held_drew (S:=fun W=>W=w1.drew) (by kernel_rfl) rfl (fun hT=>?_);have M:w1.drew.cell? ⟨qb,0,none⟩=some (.int .i64 R.g):=M;refine wt 0 rfl ?_
    refine wt 2 rfl ?_
    refine wt 4 rfl ?_
    refine wt 6 rfl ?_
    refine wt 7 rfl ?_
    refine wt 8 rfl ?_
    refine wt 9 rfl ?_
    refine wpAnyH_ready (rs:=[1]) (by kernel_rfl) (by simp) ?_;refine wc 1 (fun K hK=>?_) AllReadyH.nil
    go_simp
    refine(kD j.o (by omega) (by omega)).mono ?_;rintro e w3 ⟨rfl,e3⟩;obtain rfl:=e3.symm;rw[J.o];rw[J.o] at al;go_wp2;refine hK.out _ _ rfl (fun _=>?_)
    generalize taken R.fs=T at *;have am:IntKind.i64.wrap ((T:Int)+0)=(T:Int)+0:=by rw[IntKind.wrap_i64];omega
    have an:IntKind.i64.wrap ((T:Int)+0+(N:Int))=(T:Int)+0+(N:Int):=by rw[IntKind.wrap_i64];omega
    have ao:IntKind.i64.wrap ((T:Int)+(N:Int))=(T:Int)+(N:Int):=by rw[IntKind.wrap_i64];omega
    have ap:IntKind.i64.wrap (T:Int)=(T:Int):=by rw[IntKind.wrap_i64];omega
    by_cases P:R.g<T+0+N
    ·have ac:(R.g:Int)<(T:Int)+0+(N:Int):=by omega
     have B:=ab (l.o P);refine wt 3 rfl ?_
     refine wt 5 rfl ?_
     refine wt 10 rfl ?_
     refine wpAnyH_done (by kernel_rfl) ?_ _;go_wp2;go_ret;rw[B.o];exact⟨rfl,kq.quiet h (n.o.trans (Fr.drew _ _)),_,⟨_,j.o⟩,hS⟩
    ·have ac:¬(R.g:Int)<(T:Int)+0+(N:Int):=by omega
     have B:=ab (m.o P);have r:=ab (A.o B.o);refine wt 3 rfl ?_
     refine wt 5 rfl ?_
     refine wt 10 rfl ?_
     refine wpAnyH_done (by kernel_rfl) ?_ _;have ad:=ab (n.o.trans (Fr.drew Zero w1));have O:w1.drew.cell? ⟨qb,1,none⟩=some fv:=O;generalize w1.drew=w4 at *;have D:Hi (Fr Zero w4 (w4.alloc (.cells #[.string data,.int .i64 (N:Int),.int .i64 0] 50))):=Fr.alloc _ _ _;have b:=ab (j.o.quiet D.o);have au:=b.o.lt;have av:=j.o.lt;have ag:Hi (Src Tryz.prog 3 36 (.slice (some ⟨w4.heap.size,0,none⟩) 1 1) 1 (eI ⟨data.data.toList,N,0⟩) (w4.alloc (.cells #[.string data,.int .i64 (N:Int),.int .i64 0] 50))):=pN (t:=50) ⟨data.data.toList,N,0⟩ (by rw[af rfl];simp[eC]);obtain⟨fa,fc,rfl⟩:=b.o.f.len
     go_wp2_with (at_builtin;refine eE rfl (.tmp 59) (.tmp 65) 36 36 rfl Tryz.underlying36 D2 rfl 1 (eI ⟨data.data.toList,N,0⟩) rfl rfl b.o.f ag.o ?hl9 ?h639 ?_)
     case hl9=>omega
     case h639=>omega
     intro v6 U z p I;obtain⟨V,aj⟩:∃ V:RF,V=⟨data.data.toList,N,0⟩:=⟨_,rfl⟩;simp only[Nat.zero_add] at r;rw[<-aj] at z r;obtain⟨X,hX⟩:∃ X,(R.next+0+N)%R.g=X:=⟨_,rfl⟩;have ah:((R.next:Int)+(N:Int))%(R.g:Int)=(X:Int):=by rw[<-hX];simp
     have HX:Hi ((R.next+0+N)%R.g=X):=hX;have k:cA U 50 3 v6 (Q.fs++[V]).length (cZ (Q.fs++[V])):=by rw[nt];simpa using z
     have HE:=ab (b.o.Cm k p (by simpa using I));have q1:U.cell? ⟨qb,1,none⟩=_:=(p.cell (a:=⟨qb,1,none⟩) b.o.lt (fun e=>b.o.f.ne b.o.q (by decide) e)).trans b.o.cE;have q2:U.frozen? ⟨qb,1,none⟩=false:=ak (p.ae b.o.q (fun e=>b.o.f.ne b.o.q (by decide) e));obtain⟨va,vc,rfl⟩:=k.len;go_wp2;have v:=ab HE.o.1;have E:=ab (((kq.quiet h ad.o).trans (kq.quiet j.o D.o)).trans HE.o.2);simp only[List.length_append,List.length_cons,List.length_nil,Nat.zero_add] at v E;generalize U.setCell ⟨qb,1,none⟩ (.slice va (Q.fs.length+1) vc)=w7 at *;have x:=ab (v.o.quiet (Fr.drew Zero w7));have c:w7.drew.cell? ⟨qb,0,none⟩=some (.int .i64 R.g):=by rw[<-hS.g];exact x.o.dM
     have j2:w7.drew.cell? ⟨qb,2,none⟩=some (.int .i64 R.next):=by rw[<-hS.next];exact x.o.fM
     have jf:w7.drew.frozen? ⟨qb,2,none⟩=false:=x.o.free 2;have y:=ab (v.o.Gy X);have aw:((R.g:Int)==0)=false:=beq_eq_false_iff_ne.2 (by omega);have ax:¬((R.g:Int)=0):=by omega
     have ay:¬R.g=0:=by omega
     have az:IntKind.i64.wrap ((R.next:Int))=(R.next:Int):=by rw[IntKind.wrap_i64];omega
     have aA:IntKind.i64.wrap ((R.next:Int)+(N:Int))=(R.next:Int)+(N:Int):=by rw[IntKind.wrap_i64];omega
     have aB:((R.next:Int)+(N:Int)).tmod (R.g:Int)=(X:Int):=by
      rw[Int.tmod_eq_emod_of_nonneg (by omega)];exact ah
     refine wp_region_held_drew (S:=fun W=>W.cell? ⟨qb,0,none⟩=some (.int .i64 R.g)) (by kernel_rfl) c (fun hT=>?_);refine wt 0 c ?_
     refine wt 1 c ?_
     refine wt 2 c ?_
     refine wt 3 c ?_
     refine wt 5 c ?_
     refine wt 7 c ?_
     refine wt 9 c ?_
     refine wt 10 c ?_
     refine wt 11 c ?_
     refine wt 12 c ?_
     refine wpAnyH_ready (rs:=[4]) (by kernel_rfl) (by simp) ?_;refine wc 4 (fun K hK=>?_) AllReadyH.nil
     go_simp
     refine hK.out _ _ c (fun _=>?_)
     refine wt 6 c ?_
     refine wt 8 c ?_
     refine wt 13 c ?_
     refine wt 14 c ?_
     refine wt 15 c ?_
     refine wpAnyH_ready (rs:=[16]) (by kernel_rfl) (by simp) ?_;refine wc 16 (fun K hK=>?_) AllReadyH.nil
     go_simp
     have F:=ab (y.o.1.quiet (Fr.drew Zero _));have ai:=ab ((E.o.trans y.o.2).trans (kq.quiet y.o.1 (Fr.drew Zero _)));have y0:(w7.setCell ⟨qb,2,none⟩ (.int .i64 X)).drew.cell? ⟨qb,0,none⟩=some (.int .i64 R.g):=by rw[<-hS.g];exact F.o.dM
     refine hK.out _ _ y0 (fun _=>?_)
     refine wpAnyH_done (by kernel_rfl) ?_ _;rw[HX.o] at r;generalize (w7.setCell ⟨qb,2,none⟩ (.int .i64 X)).drew=w8 at *;go_wp2;go_ret;exact⟨by rw[B.o];rfl,ai.o,_,⟨_,F.o⟩,r.o⟩
def d9(l:List RF)(i s:Nat):List RF:=l.modify i (fun f=>{ f with how:=s })
theorem yq(l:List RF)(i s:Nat):(d9 l i s).length=l.length:=by simp[d9]
theorem tW{l:List RF}(hi:i<l.length):cZ (d9 l i s)=(cZ l).set (i*3+2) (.int .i64 s):=by
 induction l generalizing i with
 | nil=>simp at hi
 | cons x l ih =>
  rcases i with _|i
  ·simp[d9,cZ,eI]
  ·have e:=ih (i:=i) (by simpa using hi);have a:d9 (x::l) (i+1) s=x::d9 l i s:=by simp[d9]
   rw[a];show eI x++cZ (d9 l i s)=(eI x++cZ l).set ((i+1)*3+2) _;rw[e,show(i+1)*3+2=(eI x).length+(i*3+2) by simp[eI];omega,List.set_append_right _ _ (Nat.le_add_right _ _),Nat.add_sub_cancel_left]
theorem cA.set{ty:TypeId}{sz fb off au:Nat}{xs:List Value}(h:cA w ty sz (.slice (some ⟨fb,off,none⟩) n au) n xs)(j:Nat)(hj:j<xs.length)(u:Value):cA (w.setCell ⟨fb,off+j,none⟩ u) ty sz (.slice (some ⟨fb,off,none⟩) n au) n (xs.set j u):=by
 obtain⟨k,h⟩:=h;refine⟨by rw[List.length_set];exact k,.inr ?_⟩;rcases h with⟨q,_⟩|⟨l,d,e,a,f,m,o,p,r,g⟩
 ·simp at q
 ·simp at f;obtain⟨⟨rfl,rfl⟩,rfl⟩:=f;refine⟨fb,off,au,a.setIfInBounds (off+j) u,rfl,heap_setCell_same m,o,by rw[Array.size_setIfInBounds];exact p,r,fun i v hi=>?_⟩;rw[List.getElem?_set] at hi;rw[Array.getElem?_setIfInBounds]
  by_cases b:j=i
  ·subst b;rw[if_pos rfl,if_pos hj] at hi
   have c:off+j<a.size:=by
    rcases Nat.lt_or_ge (off+j) a.size with q|q
    ·exact q
    ·have:=g j _ (List.getElem?_eq_getElem hj)
     rw[Array.getElem?_eq_none (by omega)] at this;simp at this
   rw[if_pos rfl,if_pos c];exact hi
  ·rw[if_neg b] at hi;rw[if_neg (by omega)];exact g i v hi
theorem RQ.Ir{fb off au:Nat}{Q:RR}(h:RQ w qb Q (.slice (some ⟨fb,off,none⟩) Q.fs.length au))(i s:Nat)(hi:i<Q.fs.length):
  RQ (w.setCell ⟨fb,off+i*3+2,none⟩ (.int .i64 s)) qb { Q with fs:=d9 Q.fs i s } (.slice (some ⟨fb,off,none⟩) Q.fs.length au)/\kq qb w (w.setCell ⟨fb,off+i*3+2,none⟩ (.int .i64 s)):=by
 have a:Fr (One fb) w (w.setCell ⟨fb,off+i*3+2,none⟩ (.int .i64 s)):=Fr.setCell _ _ _ _ rfl;have cF:qb≠fb:=fun e=>h.f.ne h.q (by decide) (by simp[al,e])
 have b:RQ (w.setCell ⟨fb,off+i*3+2,none⟩ (.int .i64 s)) qb { Q with fs:=d9 Q.fs i s } (.slice (some ⟨fb,off,none⟩) Q.fs.length au):=by
  refine⟨a.ae h.q cF,?_⟩;show cA _ _ 3 _ (d9 Q.fs i s).length (cZ (d9 Q.fs i s));rw[yq,tW hi]
  have:=h.f.set (i*3+2) (by rw[pS];omega) (.int .i64 s)
  rw[<-Nat.add_assoc] at this;exact this
 refine⟨b,⟨a.mono (fun k _ e=>QX.mk h (.inr (by have c:k=fb:=e;simp[al,c]))),fun k _ hx=>?_⟩⟩;rcases QX.of b hx with e|e
 ·exact QX.mk h (.inl e)
 ·exact QX.mk h (.inr e)
theorem dO.at_{Q:RR}(h:dO R Q){n:Int}(hi:dL R n=some i):∃(m:Nat) (f:PF),n=(m:Int)+1/\R.fs[i]?=some f/\f.st=1/\Q.fs[m]?=some (rf f)/\m<Q.fs.length/\m+1=R.first+i:=by
 obtain⟨a,c,e,g⟩:=h.fs;obtain⟨f,b,iz⟩:=lD hi;have jt:i<R.fs.length:=(List.getElem?_eq_some_iff.1 b).1;unfold dL at hi
 split at hi
 ·simp at hi
 ·rename_i j
  split at hi
  ·split at hi
   ·have d:=Option.some.inj hi;refine⟨a.length+i,f,by omega,b,iz,?_,?_,by omega⟩
    ·rw[c,List.getElem?_append_right (Nat.le_add_right _ _),Nat.add_sub_cancel_left,List.getElem?_map,b];rfl
    ·rw[c];simp;omega
   ·simp at hi
  ·simp at hi
theorem dO.no{Q:RR}(h:dO R Q){n:Int}(hi:dL R n=none):n<1\/(Q.fs.length:Int)<n\/∃(m:Nat) (f:RF),n=(m:Int)+1/\Q.fs[m]?=some f/\f.how≠1:=by
 obtain⟨b,c,o,j⟩:=h.fs
 by_cases d:n<1
 ·exact .inl d
 by_cases g:(Q.fs.length:Int)<n
 ·exact .inr (.inl g)
 right;right;have l:Q.fs.length=b.length+R.fs.length:=by rw[c];simp
 obtain⟨m,k⟩:∃ m:Nat,n=(m:Int)+1:=⟨(n-1).toNat,by omega⟩;have rV:m<Q.fs.length:=by omega
 obtain⟨f,a⟩:∃ f,Q.fs[m]?=some f:=⟨_,List.getElem?_eq_getElem rV⟩;refine⟨m,f,k,a,fun e=>?_⟩;rw[c] at a;rcases Nat.lt_or_ge m b.length with q|q
 ·rw[List.getElem?_append_left q] at a
  have:=j _ (List.mem_of_getElem? a)
  omega
 ·rw[List.getElem?_append_right q,List.getElem?_map] at a;rcases hr:R.fs[m-b.length]? with _|x
  ·rw[hr] at a;simp at a
  ·rw[hr] at a;simp only[Option.map_some,Option.some.injEq] at a;unfold dL at hi;rw[if_neg (by omega),show(n-(R.first:Int)).toNat=m-b.length by omega,hr] at hi;simp only at hi
   split at hi
   ·simp at hi
   ·rename_i cF;apply cF;have i:(rf x).how=1:=by rw[a];exact e
    exact i
theorem lT{Q:RR}(h:RQ w qb Q fv)(hS:dO R Q)(hl:Q.fs.length<=3000000000000)(n:Int)(eQ:-9223372036854775808<=n)(ka:n<=9223372036854775807):
  Calls Tryz.prog 43 #[.pointer (some ⟨qb,0,none⟩),.int .i64 n] w fun e w'=>e=.returned (.bool (dL R n).isSome)/\w'=w:=by
 have H:=ab h;have z:=h.cE;obtain⟨l,p,rfl⟩:=h.f.len;clear h;rcases hq:dL R n with _|i
 ·rcases hS.no hq with v|v|⟨m,f,rfl,c,cF⟩
  ·have r:¬(1:Int)<=n:=by omega
   clear hq hS;go_enter Tryz.func43,Tryz.ntmps43;go_wp2;go_ret;exact⟨rfl,rfl⟩
  ·have j:(1:Int)<=n:=by omega
   have k:¬n<=(Q.fs.length:Int):=by omega
   clear hq hS;go_enter Tryz.func43,Tryz.ntmps43;go_wp2;go_ret;exact⟨rfl,rfl⟩
  ·have rV:m<Q.fs.length:=(List.getElem?_eq_some_iff.1 c).1;have j:(1:Int)<=(m:Int)+1:=by omega
   have k:(m:Int)+1<=(Q.fs.length:Int):=by omega
   have s:(m:Int)<(Q.fs.length:Int):=by omega
   have t:((m:Int)+1-1)=(m:Int):=by omega
   obtain⟨d,a,au,b,x,y,g,_⟩:=H.o.frame c;obtain⟨rfl,_,rfl⟩:l=some ⟨d,a,none⟩/\True/\p=au:=by simp at b;exact⟨b.1,trivial,b.2⟩
   have A:((f.how:Int)==1)=false:=beq_eq_false_iff_ne.2 (by omega);clear hq hS b c;go_enter Tryz.func43,Tryz.ntmps43;go_wp2;go_ret;exact⟨rfl,rfl⟩
 ·obtain⟨m,f,rfl,c,iz,q,rV,_⟩:=hS.at_ hq;have j:(1:Int)<=(m:Int)+1:=by omega
  have k:(m:Int)+1<=(Q.fs.length:Int):=by omega
  have s:(m:Int)<(Q.fs.length:Int):=by omega
  have t:((m:Int)+1-1)=(m:Int):=by omega
  obtain⟨d,a,au,b,x,y,g,_⟩:=H.o.frame q;obtain⟨rfl,_,rfl⟩:l=some ⟨d,a,none⟩/\True/\p=au:=by simp at b;exact⟨b.1,trivial,b.2⟩
  have u:w.cell? ⟨d,a+m*3+2,none⟩=some (.int .i64 1):=by rw[g];simp[rf,iz]
  clear hq hS b c q g;go_enter Tryz.func43,Tryz.ntmps43;go_wp2;go_ret;exact⟨rfl,rfl⟩
theorem A5{Q:RR}(h:RQ w qb Q fv)(hS:dO R Q)(hK:Kept R)(hl:Q.fs.length<=3000000000000)(n from_ ik:Int)(eQ:-9223372036854775808<=n)(ka:n<=9223372036854775807)(xq:-9223372036854775808<=from_)(lh:from_<=9223372036854775807)(D6:-9223372036854775808<=ik)(Cp:ik<=9223372036854775807):
  Calls Tryz.prog 17 #[.pointer (some ⟨qb,0,none⟩),.int .i64 n,.int .i64 from_,.int .i64 ik] w fun e w'=>e=.returned (.tuple #[.string (ba (fH R n from_ ik).1),.int .i64 (fH R n from_ ik).2])/\w'=w:=by
 have H:=ab h;have p:=ab hS;have x:=ab hK;have M:=h.cE;obtain⟨I,J,rfl⟩:=h.f.len;clear h hS hK;go_enter Tryz.func17,Tryz.ntmps17;go_wp2_with fail;refine(lT H.o p.o hl n eQ ka).mono ?_;rintro e P ⟨rfl,g⟩;obtain rfl:=g.symm;rcases hq:dL R n with _|i
 ·have d:Hi (fH R n from_ ik=([],13)):=ab (by unfold fH;rw[hq]);simp only[Option.isSome_none];clear hq;go_wp2;go_ret2;rw[d.o];exact⟨rfl,rfl⟩
 ·obtain⟨m,f,rfl,k,iz,t,rV,_⟩:=p.o.at_ hq;have d:Hi (fH R ((m:Int)+1) from_ ik=if from_<0\/ik<from_\/(f.data.length:Int)<ik then([],8) else((f.data.drop from_.toNat).take (ik-from_).toNat,0)):=ab (by unfold fH;rw[hq];simp only[k]);have N:(m:Int)<(Q.fs.length:Int):=by omega
  have O:((m:Int)+1-1)=(m:Int):=by omega
  obtain⟨u,j,au,g,v,K,L,_⟩:=H.o.frame t;obtain⟨rfl,_,rfl⟩:I=some ⟨u,j,none⟩/\True/\J=au:=by simp at g;exact⟨g.1,trivial,g.2⟩
  have y:w.cell? ⟨u,j+m*3,none⟩=some (.string (ba f.data)):=v;obtain⟨_,l⟩:=x.o i f k;have dJ:=aI f.data;have z:∀ a b,Hi ((ba f.data).extract a b=ba ((f.data.drop a).take (b-a))):=fun a b=>EB f.data a b
  simp only[Option.isSome_some];clear hq g k t v K L;generalize ba f.data=S at *;rw[<-dJ] at d l;clear dJ
  by_cases q:from_<0
  ·have c:Hi (fH R ((m:Int)+1) from_ ik=([],8)):=d.o.trans (if_pos (.inl q));go_wp2;go_ret2;rw[c.o];exact⟨rfl,rfl⟩
  ·have A:decide (from_<0)=false:=decide_eq_false q
   by_cases r:ik<from_
   ·have c:Hi (fH R ((m:Int)+1) from_ ik=([],8)):=d.o.trans (if_pos (.inr (.inl r)));go_wp2;go_ret2;rw[c.o];exact⟨rfl,rfl⟩
   ·have B:decide (ik<from_)=false:=decide_eq_false r
    by_cases s:(S.size:Int)<ik
    ·have c:Hi (fH R ((m:Int)+1) from_ ik=([],8)):=d.o.trans (if_pos (.inr (.inr s)));go_wp2;go_ret2;rw[c.o];exact⟨rfl,rfl⟩
    ·have C:decide ((S.size:Int)<ik)=false:=decide_eq_false s;have c:Hi (fH R ((m:Int)+1) from_ ik=((f.data.drop from_.toNat).take (ik-from_).toNat,0)):=d.o.trans (if_neg (by omega));obtain⟨a,rfl⟩:∃ a:Nat,from_=a:=⟨from_.toNat,by omega⟩;obtain⟨b,rfl⟩:∃ b:Nat,ik=b:=⟨ik.toNat,by omega⟩;have D:(a:Int)<=(b:Int):=by omega
     have E:(b:Int)<=(S.size:Int):=by omega
     have F:a<=b:=by omega
     have G:b<=S.size:=by omega
     rw[show((b:Int)-(a:Int)).toNat=b-a by omega,Int.toNat_natCast] at c;go_wp2;go_ret2;rw[c.o];refine⟨?_,rfl⟩;simp only;rw[<-(z a b).o];rfl
theorem mu{old l:List RF}:d9 (old++l) (old.length+i) s=old++d9 l i s:=by
 unfold d9
 induction old with
 | nil=>simp
 | cons x old ih=>simp only[List.cons_append,List.length_cons,show old.length+1+i=(old.length+i)+1 by omega,List.modify_succ_cons];rw[ih]
theorem np{l:List RF}(h:∀ f∈l,f.bytes.length<=1000):∀ f∈d9 l i s,f.bytes.length<=1000:=by
 unfold d9
 induction l generalizing i with
 | nil=>intro f a;simp at a
 | cons x l ih =>
  intro f a;rcases i with _|i
  ·simp at a;rcases a with rfl|a
   ·exact h x (by simp)
   ·exact h f (by simp[a])
  ·rw[List.modify_succ_cons] at a;rcases List.mem_cons.1 a with rfl|a
   ·exact h _ (by simp)
   ·exact ih (fun y hy=>h y (by simp[hy])) f a
theorem pR{l:List PF}:d9 (l.map rf) i s=(aZ l i s).map rf:=by
 unfold d9 aZ
 induction l generalizing i with
 | nil=>simp
 | cons x l ih =>
  rcases i with _|i
  ·simp[rf]
  ·simp only[List.map_cons,List.modify_succ_cons];rw[ih]
theorem dO.release{Q:RR}(h:dO R Q){n:Int}{m:Nat}(hi:dL R n=some i)(hm:m+1=R.first+i):dO (gx R n).2 { Q with fs:=d9 Q.fs m 2 }/\(gx R n).1=0:=by
 obtain⟨a,l,u,o⟩:=h.fs;have e:gx R n=(0,{ R with fs:=(iP (aZ R.fs i 2) R.first).1,first:=(iP (aZ R.fs i 2) R.first).2 }):=by unfold gx;rw[hi]
 obtain⟨k,p,q,v,r⟩:=kH (aZ R.fs i 2) R.first;rw[e];refine⟨⟨h.g,h.next,h.shut,⟨a++((aZ R.fs i 2).take k).map rf,?_,?_,fun f b=>?_⟩,np h.short⟩,rfl⟩
 ·simp only;rw[l,show m=a.length+i by omega,mu,pR,p,List.append_assoc,<-List.map_append,List.take_append_drop]
 ·simp only[List.length_append,List.length_map,List.length_take];rw[q];omega
 ·rcases List.mem_append.1 b with b|b
  ·exact o f b
  ·obtain⟨x,s,rfl⟩:=List.mem_map.1 b;obtain⟨j,t,d⟩:=List.mem_iff_getElem.1 s;have c:j<k:=by rw[List.length_take] at t;omega
   exact r j x c (by rw[<-d,List.getElem_take];exact List.getElem?_eq_getElem _)
theorem kE{Q:RR}(h:RQ w qb Q fv)(hS:dO R Q)(hl:Q.fs.length<=3000000000000)(n:Int)(eQ:-9223372036854775808<=n)(ka:n<=9223372036854775807):
  Calls Tryz.prog 19 #[.pointer (some ⟨qb,0,none⟩),.int .i64 n] w fun e w'=>e=.returned (.int .i64 (gx R n).1)/\kq qb w w'/\∃ Q' fh,RQ w' qb Q' fh/\dO (gx R n).2 Q':=by
 have y:=h.cE;have d:=h.lt;obtain⟨q,r,rfl⟩:=h.f.len;go_enter Tryz.func19,Tryz.ntmps19;go_wp2_with fail;refine(lT h hS hl n eQ ka).mono ?_;rintro e C ⟨rfl,a⟩;obtain rfl:=a.symm;rcases hq:dL R n with _|i
 ·have p:Hi (gx R n=(13,R)):=ab (by unfold gx;rw[hq]);simp only[Option.isSome_none];go_wp2;go_ret;rw[p.o];exact⟨rfl,kq.refl _ _,_,⟨_,h⟩,hS⟩
 ·obtain⟨m,f,rfl,s,iz,k,rV,t⟩:=hS.at_ hq;have g:=ab (hS.release hq t);have z:(m:Int)<(Q.fs.length:Int):=by omega
  have A:((m:Int)+1-1)=(m:Int):=by omega
  obtain⟨u,b,au,a,v,x,D,l⟩:=h.frame k;obtain⟨rfl,_,rfl⟩:q=some ⟨u,b,none⟩/\True/\r=au:=by simp at a;exact⟨a.1,trivial,a.2⟩
  have j:=ab (h.Ir m 2 rV);have B:=l (b+m*3+2);simp only[Option.isSome_some];go_wp2;go_ret;exact⟨by rw[g.o.2];rfl,j.o.2,_,⟨_,j.o.1⟩,g.o.1⟩
theorem pY{Q:RR}(h:RQ w qb Q fv)(hS:dO R Q):
  Calls Tryz.prog 21 #[.pointer (some ⟨qb,0,none⟩)] w fun e w'=>e=.returned (.int .i64 (gT R).1)/\kq qb w w'/\∃ Q' fh,RQ w' qb Q' fh/\dO (gT R).2 Q':=by
 have b:=h.dw;have f:=h.free 3;rw[hS.shut] at b;cases hs:R.shut with
 | true =>
  have c:Hi (gT R=(12,R)):=if_pos hs;rw[hs] at b;go_enter Tryz.func21,Tryz.ntmps21;go_wp2;go_ret;rw[c.o];exact⟨rfl,kq.refl _ _,_,_,h,hS⟩
 | false =>
  have c:Hi (gT R=(0,{ R with shut:=true })):=if_neg (by rw[hs];decide);rw[hs] at b;have d:=ab (h.Gx true);go_enter Tryz.func21,Tryz.ntmps21;go_wp2;go_ret;rw[c.o];exact⟨rfl,d.o.2,_,_,d.o.1,⟨hS.g,hS.next,rfl,hS.fs,hS.short⟩⟩
theorem dO.Gw{Q:RR}(h:dO R Q){f:RF}(hf:Q.fs[i]?=some f)(h0:f.how=0)(hb:∀ j x,j<i->Q.fs[j]?=some x->x.how≠0):(aN R).1=i+1/\(aN R).2.1=0/\dO (aN R).2.2 { Q with fs:=d9 Q.fs i 1 }:=by
 obtain⟨a,b,u,n⟩:=h.fs
 have c:a.length<=i:=by
  rcases Nat.lt_or_ge i a.length with q|q
  ·rw[b,List.getElem?_append_left q] at hf
   have:=n _ (List.mem_of_getElem? hf)
   omega
  ·exact q
 obtain⟨k,rfl⟩:∃ k,i=a.length+k:=⟨i-a.length,by omega⟩;rw[b,List.getElem?_append_right c,Nat.add_sub_cancel_left,List.getElem?_map] at hf;rcases hr:R.fs[k]? with _|x
 ·rw[hr] at hf;simp at hf
 ·rw[hr] at hf;simp only[Option.map_some,Option.some.injEq] at hf;have o:k<R.fs.length:=(List.getElem?_eq_some_iff.1 hr).1;have p:x.st=0:=by rw[<-hf] at h0;exact h0
  have d:R.fs=R.fs.take k++x::R.fs.drop (k+1):=by
   have r:=(List.getElem?_eq_some_iff.1 hr).2;rw[<-r,<-List.drop_eq_getElem_cons o,List.take_append_drop]
  have s:∀ y∈R.fs.take k,y.st≠0:=fun y hy=>by
   obtain⟨j,v,m⟩:=List.mem_iff_getElem.1 hy;rw[List.length_take] at v;have l:R.fs[j]?=some y:=by rw[<-m,List.getElem_take];exact List.getElem?_eq_getElem _
   exact hb (a.length+j) (rf y) (by omega) (by rw[b,List.getElem?_append_right (Nat.le_add_right _ _),Nat.add_sub_cancel_left,List.getElem?_map,l];rfl)
  have t:iI R.fs=some k:=by
   have:=vu (A:=R.fs.take k) (B:=R.fs.drop (k+1)) s p
   rw[<-d,List.length_take,Nat.min_eq_left (by omega)] at this;exact this
  have e:aN R=(R.first+k,0,{ R with fs:=aZ R.fs k 1 }):=by unfold aN;rw[t]
  rw[e];refine⟨by simp only;omega,rfl,⟨h.g,h.next,h.shut,⟨a,?_,u,n⟩,np h.short⟩⟩;simp only;rw[b,mu,pR]
theorem dO.Gv{Q:RR}(h:dO R Q)(hb:∀ j x,j<Q.fs.length->Q.fs[j]?=some x->x.how≠0):aN R=(0,if R.shut then 12 else 11,R):=by
 obtain⟨b,d,f,g⟩:=h.fs
 have e:iI R.fs=none:=sf (fun y hy=>by
  obtain⟨j,i,c⟩:=List.mem_iff_getElem.1 hy;have a:R.fs[j]?=some y:=by rw[<-c];exact List.getElem?_eq_getElem _
  exact hb (b.length+j) (rf y) (by rw[d];simp;omega) (by rw[d,List.getElem?_append_right (Nat.le_add_right _ _),Nat.add_sub_cancel_left,List.getElem?_map,a];rfl))
 unfold aN;rw[e]
theorem ow{Q:RR}(h:RQ w qb Q fv)(hS:dO R Q)(hl:Q.fs.length<=3000000000000):
  Calls Tryz.prog 15 #[.pointer (some ⟨qb,0,none⟩)] w fun e w'=>e=.returned (.tuple #[.int .i64 (aN R).1,.int .i64 (aN R).2.1])/\kq qb w w'/\∃ Q' fh,RQ w' qb Q' fh/\dO (aN R).2.2 Q':=by
 have F:=h.cE;have l:=h.dw;rw[hS.shut] at l;have s:=h.lt;obtain⟨A,B,rfl⟩:=h.f.len;go_enter Tryz.func15,Tryz.ntmps15;go_wp2
 go_loopw [4] (fun iv wr=>∃ i:Nat,i<=Q.fs.length/\iv=.int .i64 i/\wr=w/\Hi (∀ j x,j<i->Q.fs[j]?=some x->x.how≠0)) (fun iv _=>Q.fs.length-(intOf iv).toNat)
 case atStart=>exact⟨0,by omega,rfl,rfl,fun j x hj=>by omega⟩
 case round =>
  obtain⟨i,J,rfl,C,p⟩:=hrel;subst C
  by_cases b:i<Q.fs.length
  ·have y:(i:Int)<(Q.fs.length:Int):=by omega
   obtain⟨f,c⟩:∃ f,Q.fs[i]?=some f:=⟨_,List.getElem?_eq_getElem b⟩;obtain⟨D,d,au,g,u,v,E,r⟩:=h.frame c;obtain⟨rfl,_,rfl⟩:A=some ⟨D,d,none⟩/\True/\B=au:=by simp at g;exact⟨g.1,trivial,g.2⟩
   have G:=r (d+i*3+2)
   by_cases m:f.how=0
   ·have a:=ab (hS.Gw c m p.o);have t:=ab (h.Ir i 1 b);rw[m] at E;go_wp2;go_ret2;rw[a.o.1,a.o.2.1];exact⟨by rfl,t.o.2,_,_,t.o.1,a.o.2.2⟩
   ·have I:((f.how:Int)==0)=false:=beq_eq_false_iff_ne.2 (by omega)
    have z:Hi (∀ j x,j<i+1->Q.fs[j]?=some x->x.how≠0):=fun j x hj hx=>by
     rcases Nat.lt_or_ge j i with q|q
     ·exact p.o j x q hx
     ·have:j=i:=by omega
      subst this;rw[c] at hx;simp at hx;subst hx;exact m
    go_wp2;exact⟨⟨i+1,by omega,by go_num,by trivial,z⟩,by simp[intOf];omega⟩
  ·have n:i=Q.fs.length:=by omega
   subst n;have y:¬(Q.fs.length:Int)<(Q.fs.length:Int):=by omega
   have a:=ab (hS.Gv p.o);cases hs:R.shut with
   | true =>
    rw[hs] at l a;go_wp2;go_ret2;rw[a.o];exact⟨rfl,kq.refl _ _,_,⟨_,h⟩,hS⟩
   | false =>
    rw[hs] at l a;go_wp2;go_ret2;rw[a.o];exact⟨rfl,kq.refl _ _,_,⟨_,h⟩,hS⟩
def gu(x:Nat)(l:List RF):Nat:=(l.filter (fun f=>decide (f.how=x))).length
theorem o7(x:Nat)(l:List RF)(f:RF):gu x (l++[f])=gu x l+(if f.how=x then 1 else 0):=by
 unfold gu;rw[List.filter_append,List.length_append]
 by_cases h:f.how=x<;>simp[h]
theorem tB(x:Nat)(l:List RF):gu x l<=l.length:=List.length_filter_le _ _
theorem dO.count{Q:RR}(h:dO R Q)(x:Nat)(hx:x≠2):gu x Q.fs=aQ x R.fs:=by
 obtain⟨a,b,_,c⟩:=h.fs;unfold gu aQ;rw[b,List.filter_append,List.length_append,List.filter_eq_nil_iff.2 (fun f hf=>by simp;rw[c f hf];omega),List.filter_map,List.length_map];simp[rf,Function.comp_def];rfl
theorem sH{Q:RR}(h:RQ w qb Q fv)(hS:dO R Q)(hF:Fit R)(hl:Q.fs.length<=3000000000000):
  Calls Tryz.prog 23 #[.pointer (some ⟨qb,0,none⟩)] w fun e w'=>e=.returned (jA R)/\Fr Zero w w':=by
 have N:=ab (hS.taken hF);have ac:dB Q.fs<=64:=by rw[hS.taken hF];have:=hF.tidy.taken;have:=hF.g64;omega
 have y:=ab (hS.count 0 (by omega));have z:=ab (hS.count 1 (by omega));have O:=ab hS.shut;have Y:=h.lt;obtain⟨fa,X,rfl⟩:=h.f.len;have m:Hi (Fr Zero w (w.alloc (.cells #[.int .i64 0,.int .i64 0,.int .i64 0,.bool false] 70)).drew):=(Fr.alloc _ _ _).trans (Fr.drew _ _);have s:Hi ((w.alloc (.cells #[.int .i64 0,.int .i64 0,.int .i64 0,.bool false] 70)).drew.heap[w.heap.size]?=some (.cells #[.int .i64 0,.int .i64 0,.int .i64 0,.bool false] 70 (0,0))):=af rfl _;have d:=ab (h.quiet m.o);have n:=d.o.dw;go_enter Tryz.func23,Tryz.ntmps23;go_wp2_with fail;refine wp_region_held_drew (S:=fun W=>W.cell? ⟨qb,3,none⟩=some (.bool Q.shut)) (by kernel_rfl) n (fun hT=>?_);refine wt 0 n ?_
 refine wt 2 n ?_
 refine wt 3 n ?_
 refine wt 4 n ?_
 refine wt 5 n ?_
 generalize (w.alloc (.cells #[.int .i64 0,.int .i64 0,.int .i64 0,.bool false] 70)).drew=w0 at *;have A:Hi (Fr Zero w0 (w0.alloc (.cells #[.int .i64 0,.int .i64 0,.int .i64 0,.bool false] 70))):=Fr.alloc _ _ _;have t:=ab (d.o.quiet A.o);have B:=t.o.dw;have Z:=lt_of_heap s.o;refine wpAnyH_ready (rs:=[1,7]) (by kernel_rfl) (by simp) ?_;refine wc 1 (fun K hK=>?_) (wc 7 (fun K hK=>?_) AllReadyH.nil)
 focus
  go_simp
  refine(kD d.o (by omega) (by omega)).mono ?_;rintro e w1 ⟨rfl,q⟩;obtain rfl:=q.symm;go_wp2_with fail;refine hK.out _ _ n (fun _=>?_)
  refine wt 6 n ?_
  refine wpAnyH_ready (rs:=[7]) (by kernel_rfl) (by simp) ?_;refine wc 7 (fun K hK=>?_) AllReadyH.nil
  go_simp
  refine hK.out _ _ B (fun _=>?_)
  refine wpAnyH_ready (rs:=[8]) (by kernel_rfl) (by simp) ?_;refine wc 8 (fun K hK=>?_) AllReadyH.nil
  go_simp
 rotate_left
 focus
  go_simp
  refine hK.out _ _ B (fun _=>?_)
  refine wpAnyH_ready (rs:=[1]) (by kernel_rfl) (by simp) ?_;refine wc 1 (fun K hK=>?_) AllReadyH.nil
  go_simp
  refine(kD t.o (by omega) (by omega)).mono ?_;rintro e w1 ⟨rfl,q⟩;obtain rfl:=q.symm;go_wp2_with fail;refine hK.out _ _ B (fun _=>?_)
  refine wt 6 B ?_
  refine wpAnyH_ready (rs:=[8]) (by kernel_rfl) (by simp) ?_;refine wc 8 (fun K hK=>?_) AllReadyH.nil
  go_simp
 all_goals
  have p:Hi (Fr Zero w0 (w0.alloc (.cells #[.int .i64 (dB Q.fs),.int .i64 0,.int .i64 0,.bool Q.shut] 70))):=Fr.alloc _ _ _;have u:=ab (d.o.quiet p.o);have s2:=u.o.dw;refine hK.out _ _ s2 (fun _=>?_)
  refine wpAnyH_done (by kernel_rfl) ?_ _;have C:Hi ((w0.alloc (.cells #[.int .i64 (dB Q.fs),.int .i64 0,.int .i64 0,.bool Q.shut] 70)).heap[w0.heap.size]?=some (.cells #[.int .i64 (dB Q.fs),.int .i64 0,.int .i64 0,.bool Q.shut] 70 (0,0))):=af rfl _;have D:=ab (p.o.ae s.o (fun h=>h));have E:=ab (m.o.trans p.o);have aa:=m.o.size;go_wp2_with fail
  go_loopw [4] (fun iv wr=>∃ i:Nat,i<=Q.fs.length/\iv=.int .i64 i/\Hi (wr.heap[w0.heap.size]?=some (.cells #[.int .i64 (dB Q.fs),.int .i64 (gu 0 (Q.fs.take i)),.int .i64 (gu 1 (Q.fs.take i)),.bool Q.shut] 70 (0,0)))/\Hi (wr.heap[w.heap.size]?=some (.cells #[.int .i64 0,.int .i64 0,.int .i64 0,.bool false] 70 (0,0)))/\Hi (Fr Zero w wr)/\Hi (RQ wr qb Q (.slice fa Q.fs.length X))) (fun iv _=>Q.fs.length-(intOf iv).toNat)
  ·exact⟨0,by omega,rfl,C,D,E,u⟩
  ·obtain⟨i,hi,rfl,j,r,x,l⟩:=hrel;have k1:=l.o.cE;have x1:wr.cell? ⟨w0.heap.size,1,none⟩=some (.int .i64 (gu 0 (Q.fs.take i))):=by rw[cell_of_heap j.o];rfl
   have x2:wr.cell? ⟨w0.heap.size,2,none⟩=some (.int .i64 (gu 1 (Q.fs.take i))):=by rw[cell_of_heap j.o];rfl
   have ad:wr.frozen? ⟨w0.heap.size,1,none⟩=false:=ak j.o;have ag:wr.frozen? ⟨w0.heap.size,2,none⟩=false:=ak j.o;have qU:=tB 0 (Q.fs.take i);have P:=tB 1 (Q.fs.take i);rw[List.length_take] at qU P
   by_cases T:i<Q.fs.length
   ·have hI:(i:Int)<(Q.fs.length:Int):=by omega
    have U:Q.fs[i]?=some Q.fs[i]:=List.getElem?_eq_getElem T;obtain⟨fb,L,au,q,c0,c1,c2,_⟩:=l.o.frame U;obtain⟨rfl,_,rfl⟩:fa=some ⟨fb,L,none⟩/\True/\X=au:=by simp at q;exact⟨q.1,trivial,q.2⟩
    have HT:Hi (Q.fs.take (i+1)=Q.fs.take i++[Q.fs[i]]):=ot U;have a:=ab (o7 0 (Q.fs.take i) Q.fs[i]);have c:=ab (o7 1 (Q.fs.take i) Q.fs[i]);rw[<-HT.o] at a c
    have F:∀(o:Nat) (v:Value),Hi (RQ (wr.setCell ⟨w0.heap.size,o,none⟩ v) qb Q (.slice (some ⟨fb,L,none⟩) Q.fs.length X)):=fun o v=>(l.o.ae (Fr.setCell (One w0.heap.size) wr ⟨w0.heap.size,o,none⟩ v rfl) (fun k hk e=>by
     have e':k=w0.heap.size:=e;rw[e'] at hk
     exact l.o.eh j.o (by decide) (by decide) hk)).1
    have G:∀(o:Nat) (v:Value),Hi (Fr Zero w (wr.setCell ⟨w0.heap.size,o,none⟩ v)):=fun o v=>x.o.past (Fr.setCell (fun b=>w.heap.size<=b) _ _ _ (by show w.heap.size<=w0.heap.size;omega))
    have I:∀(o:Nat) (v:Value),Hi ((wr.setCell ⟨w0.heap.size,o,none⟩ v).heap[w.heap.size]?=some (.cells #[.int .i64 0,.int .i64 0,.int .i64 0,.bool false] 70 (0,0))):=fun o v=>by
     show _=_;rw[Below.heap_setCell _ _ _ _ (by show w.heap.size≠w0.heap.size;omega)];exact r.o
    generalize Q.fs[i]=f at *
    by_cases h0:f.how=0
    ·rw[h0] at c2 a c;rw[if_pos rfl] at a;rw[if_neg (by omega)] at c;have g:=ab (heap_setCell_same (o:=1) (v:=.int .i64 ((gu 0 (Q.fs.take (i+1)):Nat):Int)) j.o);have J:(((gu 0 (Q.fs.take (i+1)):Nat):Int))=(gu 0 (Q.fs.take i):Int)+1:=by rw[a.o];omega
     rw[J] at g;go_wp2_with fail;refine⟨⟨i+1,by omega,by go_num,?_,I _ _,G _ _,F _ _⟩,by simp[intOf];omega⟩;rw[a.o,c.o];exact g
    ·by_cases h1:f.how=1
     ·have iQ:((f.how:Int)==0)=false:=beq_eq_false_iff_ne.2 (by omega);rw[h1] at c2 a c;rw[if_neg (by omega)] at a;rw[if_pos rfl] at c;have g:=ab (heap_setCell_same (o:=2) (v:=.int .i64 ((gu 1 (Q.fs.take (i+1)):Nat):Int)) j.o);have J:(((gu 1 (Q.fs.take (i+1)):Nat):Int))=(gu 1 (Q.fs.take i):Int)+1:=by rw[c.o];omega
      rw[J] at g;go_wp2_with fail;refine⟨⟨i+1,by omega,by go_num,?_,I _ _,G _ _,F _ _⟩,by simp[intOf];omega⟩;rw[a.o,c.o];exact g
     ·have iQ:((f.how:Int)==0)=false:=beq_eq_false_iff_ne.2 (by omega);have ah:((f.how:Int)==1)=false:=beq_eq_false_iff_ne.2 (by omega);rw[if_neg h0] at a;rw[if_neg h1] at c;go_wp2_with fail;refine⟨⟨i+1,by omega,by go_num,?_,r,x,l⟩,by simp[intOf];omega⟩;rw[a.o,c.o];exact j
   ·have V:i=Q.fs.length:=by omega
    subst V;have hI:¬(Q.fs.length:Int)<(Q.fs.length:Int):=by omega
    rw[List.take_length,N.o,y.o,z.o,O.o] at j;rw[List.take_length] at x1 x2;rw[y.o] at x1;rw[z.o] at x2;have x0:wr.cell? ⟨w0.heap.size,0,none⟩=some (.int .i64 (taken R.fs)):=by rw[cell_of_heap j.o];rfl
    have x3:wr.cell? ⟨w0.heap.size,3,none⟩=some (.bool R.shut):=by rw[cell_of_heap j.o];rfl
    have y0:wr.cell? ⟨w.heap.size,0,none⟩=some (.int .i64 0):=by rw[cell_of_heap r.o];rfl
    have y1:wr.cell? ⟨w.heap.size,1,none⟩=some (.int .i64 0):=by rw[cell_of_heap r.o];rfl
    have y2:wr.cell? ⟨w.heap.size,2,none⟩=some (.int .i64 0):=by rw[cell_of_heap r.o];rfl
    have y3:wr.cell? ⟨w.heap.size,3,none⟩=some (.bool false):=by rw[cell_of_heap r.o];rfl
    have M:∀ o,wr.frozen? ⟨w.heap.size,o,none⟩=false:=fun o=>ak r.o
    have ai:=M 0;have aj:=M 1;have al:=M 2;have am:=M 3;go_wp2_with fail;refine bodyPost_ret (v:=jA R) ?_ rfl ⟨rfl,?_⟩
    ·rw[fw rfl];have e:=eL r.o (.int .i64 (taken R.fs)) (.int .i64 (aQ 0 R.fs)) (.int .i64 (aQ 1 R.fs)) (.bool R.shut);have d0:=cell_of_heap (o:=0) e;have d1:=cell_of_heap (o:=1) e;have d2:=cell_of_heap (o:=2) e;have d3:=cell_of_heap (o:=3) e
     go_simp
     try rfl
    ·exact x.o.past (Fr.four (fun b=>w.heap.size<=b) wr w.heap.size _ _ _ _ (Nat.le_refl _))
theorem vU(g:Nat)(h2:2<=g)(tj:g<=64)(w:World):
  Calls Tryz.prog 36 #[.int .i64 g] w fun e w'=>e=.returned (.tuple #[.pointer (some ⟨w.heap.size,0,none⟩),.int .i64 0])/\Fr Zero w w'/\RQ w' w.heap.size ⟨g,[],0,false⟩ (.slice none 0 0):=by
 have a:¬(g:Int)<2:=by omega
 have b:¬(64:Int)<(g:Int):=by omega
 go_enter Tryz.func36,Tryz.ntmps36;go_wp2_with fail;go_ret2;exact⟨rfl,Fr.alloc _ _ _,⟨af rfl _,cA.nil _ _ _⟩⟩
theorem vT(g:Int)(h:g<2\/64<g)(w:World):
  Calls Tryz.prog 36 #[.int .i64 g] w fun e w'=>e=.returned (.tuple #[.pointer none,.int .i64 8])/\w'=w:=by
 by_cases a:g<2
 ·go_enter Tryz.func36,Tryz.ntmps36;go_wp2_with fail;go_ret2;exact⟨rfl,rfl⟩
 ·have b:decide (g<2)=false:=decide_eq_false a;have c:64<g:=by omega
  go_enter Tryz.func36,Tryz.ntmps36;go_wp2_with fail;go_ret2;exact⟨rfl,rfl⟩
structure RP where
 sb:Nat
 rb:Nat
 yb:Nat
 qb:Nat
 R:PR
 Q:RR
structure PM(w:World)(p:RP):Prop where
 sm:SM w p.sb p.rb p.yb p.R
 rq:∃ fv,RQ w p.qb p.Q fv
 same:dO p.R p.Q
 fit:Fit p.R
def PX(w:World)(p:RP):Nat->Prop:=fun k=>RX w p.rb p.yb k\/QX w p.qb k
structure Gs(p p':RP)(w w':World):Prop where
 fr:Fr (PX w p) w w'
 own:∀ k,k<w.heap.size->PX w' p' k->PX w p k
 sb:p'.sb=p.sb
 qb:p'.qb=p.qb
 len:p'.Q.fs.length<=p.Q.fs.length+1
theorem SM.ae{X:Nat->Prop}{w':World}{sb rb yb:Nat}(h:SM w sb rb yb R)(hf:Fr X w w')(hx:∀(k:Nat) (cs:Array Value) (t:TypeId) (f:Nat×Nat),w.heap[k]?=some (.cells cs t f)->(t=94\/RX w rb yb k)->¬X k):SM w' sb rb yb R/\∀ k,RX w' rb yb k↔RX w rb yb k:=by
 obtain⟨d,a⟩:=h.r
 have b:RM w' rb yb R d:=by
  refine⟨hf.ae a.r (hx _ _ _ _ a.r (.inr (.inl rfl))),hf.ae a.y (hx _ _ _ _ a.y (.inr (.inr (.inl rfl)))),a.f.ae hf (fun g hg=>?_),a.g2,a.g64,a.len⟩;have c:=hg;rcases a.f with⟨q,_⟩|⟨m,e,au,i,j,l,_⟩
  ·rw[q] at hg;simp[al] at hg
  ·rw[j] at hg;simp[al] at hg;subst hg;exact hx _ _ _ _ l (.inr (.inr (.inr ⟨d,a.cE,c⟩)))
 refine⟨⟨hf.ae h.s (hx _ _ _ _ h.s (.inl rfl)),d,b⟩,fun k=>?_⟩;unfold RX;rw[b.cE,a.cE]
theorem nz{Q:RR}(h:RQ w qb Q fv)(hk:QX w qb k):∃ cs t,w.heap[k]?=some (.cells cs t (0,0))/\(t=38\/t=50):=by
 rcases QX.of h hk with e|e
 ·rw[e];exact⟨_,_,h.q,.inl rfl⟩
 ·obtain⟨c,a⟩:=h.f.typed e;exact⟨_,_,a,.inr rfl⟩
theorem sN{rb yb sb:Nat}{Q:RR}(h:RQ w qb Q fv)(hs:SM w sb rb yb R)(hk:QX w qb k):¬RX w rb yb k:=by
 obtain⟨fh,a⟩:=hs.r;obtain⟨d,t,b,c⟩:=nz h hk;refine a.eh b ?_ ?_ ?_
 all_goals
  rcases c with rfl|rfl<;>decide
section
variable {w w1 w2:World} {p:RP}
theorem PM.prog(h:PM w p)(hf:iA p.rb p.yb w w1):∃ fv,RQ w1 p.qb p.Q fv/\∀ k,QX w1 p.qb k↔QX w p.qb k:=by
 obtain⟨fv,a⟩:=h.rq;exact⟨fv,a.ae hf.fr (fun k hk=>sN a h.sm hk)⟩
theorem PM.ref{R':PR}{Q':RR}{fh:Value}(h:PM w p)(hf:iA p.rb p.yb w w1)(hM:SM w1 p.sb p.rb p.yb R')(hq:RQ w1 p.qb p.Q fv)(hX:∀ k,QX w1 p.qb k↔QX w p.qb k)(lh:kq p.qb w1 w2)(iD:RQ w2 p.qb Q' fh)(hS:dO R' Q')(hF:Fit R')(hl:R'.first+R'.fs.length<=p.R.first+p.R.fs.length+1):
  PM w2 { p with R:=R',Q:=Q' }/\Gs p { p with R:=R',Q:=Q' } w w2:=by
 have b:=hM.ae lh.fr (fun k cs t f e1 a hx=>by
  rcases a with a|a
  ·exact hq.eh e1 (by rw[a];decide) (by rw[a];decide) hx
  ·exact sN hq hM hx a)
 refine⟨⟨b.1,⟨fh,iD⟩,hS,hF⟩,⟨(hf.fr.mono (fun k _ e=>.inl e)).trans (lh.fr.mono (fun k _ e=>.inr ((hX k).1 e))),fun k hk' hx=>?_,rfl,rfl,?_⟩⟩
 ·rcases hx with e|e
  ·exact .inl (hf.own k hk' ((b.2 k).1 e))
  ·exact .inr ((hX k).1 (lh.own k (Nat.lt_of_lt_of_le hk' hf.fr.size) e))
 ·have c:=h.same.len;have d:=hS.len;show Q'.fs.length<=p.Q.fs.length+1;omega
theorem PM.quiet(h:PM w p)(hf:Fr Zero w w1):PM w1 p/\Gs p p w w1:=by
 obtain⟨c,d⟩:=h.rq;have a:=h.sm.ae hf (fun _ _ _ _ _ _ h=>h);have b:=d.ae hf (fun _ _ h=>h)
 exact⟨⟨a.1,⟨c,b.1⟩,h.same,h.fit⟩,⟨hf.dV,fun k _ hx=>by
  rcases hx with e|e
  ·exact .inl ((a.2 k).1 e)
  ·exact .inr ((b.2 k).1 e),rfl,rfl,Nat.le_succ _⟩⟩
theorem Gs.jo{p':RP}(h:Gs p p w w1)(hl:Fr Zero w w1)(k:Gs p p' w1 w2):Gs p p' w w2 :=
 ⟨⟨k.fr.os.trans hl.os,k.fr.tape.trans hl.tape,k.fr.output.trans hl.output,Nat.le_trans hl.size k.fr.size,fun i hi hx=>(k.fr.block i (Nat.lt_of_lt_of_le hi hl.size) (fun e=>hx (h.own i hi e))).trans (hl.block i hi (fun e=>e))⟩,fun i hi hx=>h.own i hi (k.own i (Nat.lt_of_lt_of_le hi hl.size) hx),k.sb,k.qb,k.len⟩
theorem PM.eh(h:PM w p){cs:Array Value}{t:TypeId}{f:Nat×Nat}(hk:w.heap[k]?=some (.cells cs t f))(h1:t≠121)(h2:t≠5)(h3:t≠125)(h4:t≠38)(h5:t≠50):¬PX w p k:=fun e=>by
 obtain⟨fv,hr⟩:=h.sm.r;obtain⟨fq,hq⟩:=h.rq;rcases e with e|e
 ·exact hr.eh hk h1 h2 h3 e
 ·exact hq.eh hk h4 h5 e
theorem PM.bounds(h:PM w p)(hl:p.Q.fs.length<=2800000000000):p.R.fs.length<=64/\1<=p.R.first/\p.R.first<=2900000000000/\taken p.R.fs<=64:=by
 have d:=h.same.len;have a:=h.fit.tidy;have b:=a.len;have c:=h.fit.first;have e:=a.taken;have f:=h.fit.g64;exact⟨b,c,by omega,by omega⟩
end
theorem p8(R:PR)(d:Bs):(eu R d).2.first+(eu R d).2.fs.length<=R.first+R.fs.length+1:=by
 unfold eu
 split
 ·simp
 ·split
  ·simp
  ·split
   ·simp
   ·simp;omega
theorem sw(R:PR):(aN R).2.2.first+(aN R).2.2.fs.length<=R.first+R.fs.length+1:=by
 unfold aN
 split
 ·simp[eH]
 ·simp
theorem vV(R:PR)(n:Int):(gx R n).2.first+(gx R n).2.fs.length<=R.first+R.fs.length+1:=by
 unfold gx
 split
 ·simp
 ·rename_i i _;obtain⟨k,a,b,c,_⟩:=kH (aZ R.fs i 2) R.first;simp only;rw[a,b,List.length_drop];rw[eH] at c ⊢;omega
theorem sE(R:PR):(gT R).2.first+(gT R).2.fs.length<=R.first+R.fs.length+1:=by
 unfold gT
 split<;>simp
theorem da(e:Int)(w:World):Calls Tryz.prog 13 #[.int .i64 e] w fun ev w'=>ev=.returned (.int .i64 e)/\w'=w:=by
 go_enter Tryz.func13,Tryz.ntmps13;go_wp2_with fail;go_ret;exact⟨rfl,rfl⟩
theorem ns(t n m:Nat)(b:Bool)(w:World):Calls Tryz.prog 24 #[.agg #[.int .i64 t,.int .i64 n,.int .i64 m,.bool b],.agg #[.int .i64 t,.int .i64 n,.int .i64 m,.bool b]] w fun e w'=>e=.returned (.bool true)/\Fr Zero w w':=by
 go_enter Tryz.func24,Tryz.ntmps24;go_wp2_with fail;go_ret;exact⟨rfl,(Fr.alloc _ _ _).trans (Fr.alloc _ _ _)⟩
def gX(k a b c g:Int)(s:ByteArray):Value:=.agg #[.int .i64 k,.int .i64 a,.int .i64 b,.int .i64 c,.int .i64 g,.string s]
def eA(k a b c g:Int)(s:ByteArray):Array Value:=#[.int .i64 k,.int .i64 a,.int .i64 b,.int .i64 c,.int .i64 g,.string s]
structure iH(k a b c g:Int)(s:ByteArray):Prop where
 k1:-9223372036854775808<=k
 k2:k<=9223372036854775807
 a1:-9223372036854775808<=a
 a2:a<=9223372036854775807
 b1:-9223372036854775808<=b
 b2:b<=9223372036854775807
 c1:-9223372036854775808<=c
 c2:c<=9223372036854775807
 g1:-9223372036854775808<=g
 g2:g<=9223372036854775807
 s1:s.size<=140737488355328
theorem vF(R:PR):(aN R).2.2.first+(aN R).2.2.fs.length=R.first+R.fs.length:=by
 unfold aN
 split
 ·simp[eH]
 ·rfl
def km(w:World)(p:RP)(e:Ending)(w':World):Prop:=e=.returned (.bool true)/\∃ p',PM w' p'/\Gs p p' w w'
theorem Dd{p:RP}(h:PM w p)(hl:p.Q.fs.length<=2800000000000)(a b c g:Int)(s:ByteArray)(ho:iH 2 a b c g s):
  Calls Tryz.prog 7 #[.pointer (some ⟨p.sb,0,none⟩),.pointer (some ⟨p.qb,0,none⟩),gX 2 a b c g s] w fun e w'=>km w p e w':=by
 have i:Hi ((w.alloc (.cells (eA 2 a b c g s) 34)).heap[w.heap.size]?=some (.cells (eA 2 a b c g s) 34 (0,0))):=af rfl _;have q:Hi (Fr Zero w (w.alloc (.cells (eA 2 a b c g s) 34))):=Fr.alloc _ _ _;have d:=ab (h.quiet q.o);have z:=h.bounds hl;obtain⟨_,_,A,B,C,D,F,ju,_,_,oY⟩:=ho;unfold gX;go_enter Tryz.func7,Tryz.ntmps7;go_wp2_with fail;unfold eA at i q d;generalize w.alloc (.cells #[.int .i64 2,.int .i64 a,.int .i64 b,.int .i64 c,.int .i64 g,.string s] 34)=w0 at *;refine(CV d.o.1.sm d.o.1.fit.tidy s (by omega)).mono ?_;rintro e G ⟨rfl,f,eU⟩;obtain⟨L,k,l⟩:=d.o.1.prog f;obtain⟨H,m⟩:=d.o.1.sm.r;have x:=ab (f.fr.ae i.o (m.eh i.o (by decide) (by decide) (by decide)));have K:G.cell? ⟨w.heap.size,5,none⟩=some (.string s):=by rw[cell_of_heap x.o];rfl
 go_wp2_with fail;refine(pT k d.o.1.same d.o.1.fit s (by omega) (by omega)).mono ?_;rintro e M ⟨rfl,ao,Q',fh,iD,n⟩;have y:=ab (d.o.1.ref f eU k l ao iD n (d.o.1.fit.put _) (p8 _ _));generalize (eu p.R s.data.toList).1=E at *;go_wp2_with fail;refine(da _ _).mono ?_;rintro e N ⟨rfl,I⟩;obtain rfl:=I.symm;go_wp2_with fail;go_ret;exact⟨rfl,_,y.o.1,d.o.2.jo q.o y.o.2⟩
theorem A8{p:RP}(h:PM w p)(hl:p.Q.fs.length<=2800000000000)(a b c g:Int)(s:ByteArray)(ho:iH 3 a b c g s):
  Calls Tryz.prog 7 #[.pointer (some ⟨p.sb,0,none⟩),.pointer (some ⟨p.qb,0,none⟩),gX 3 a b c g s] w fun e w'=>km w p e w':=by
 have i:Hi ((w.alloc (.cells (eA 3 a b c g s) 34)).heap[w.heap.size]?=some (.cells (eA 3 a b c g s) 34 (0,0))):=af rfl _;have q:Hi (Fr Zero w (w.alloc (.cells (eA 3 a b c g s) 34))):=Fr.alloc _ _ _;have f:=ab (h.quiet q.o);have y:=h.bounds hl;obtain⟨_,_,A,B,C,D,F,ju,_,_,oY⟩:=ho;unfold gX;go_enter Tryz.func7,Tryz.ntmps7;go_wp2_with fail;unfold eA at i q f;generalize w.alloc (.cells #[.int .i64 3,.int .i64 a,.int .i64 b,.int .i64 c,.int .i64 g,.string s] 34)=w0 at *;refine(sC f.o.1.sm (by omega) (by omega)).mono ?_;rintro e J ⟨rfl,d,eU⟩;obtain⟨K,k,l⟩:=f.o.1.prog d;obtain⟨G,m⟩:=f.o.1.sm.r;have z:=ab (d.fr.ae i.o (m.eh i.o (by decide) (by decide) (by decide)));go_wp2_with fail;refine(ow k f.o.1.same (by omega)).mono ?_;rintro e L ⟨rfl,ao,Q',fh,iD,n⟩;have x:=ab (f.o.1.ref d eU k l ao iD n (f.o.1.fit.take) (sw _));generalize (aN p.R).1=E at *;generalize (aN p.R).2.1=E2 at *;go_wp2_with fail;refine(da _ _).mono ?_;rintro e M ⟨rfl,H⟩;obtain rfl:=H.symm;go_wp2_with fail;go_ret;exact⟨rfl,_,x.o.1,f.o.2.jo q.o x.o.2⟩
theorem yu{p:RP}(h:PM w p)(hl:p.Q.fs.length<=2800000000000)(a b c g:Int)(s:ByteArray)(ho:iH 3 a b c g s):
  Calls Tryz.prog 7 #[.pointer (some ⟨p.sb,0,none⟩),.pointer (some ⟨p.qb,0,none⟩),gX 3 a b c g s] w fun e w'=>e=.returned (.bool true)/\∃ p',PM w' p'/\Gs p p' w w'/\p'.Q.fs.length<=p.Q.fs.length:=by
 have i:Hi ((w.alloc (.cells (eA 3 a b c g s) 34)).heap[w.heap.size]?=some (.cells (eA 3 a b c g s) 34 (0,0))):=af rfl _;have q:Hi (Fr Zero w (w.alloc (.cells (eA 3 a b c g s) 34))):=Fr.alloc _ _ _;have d:=ab (h.quiet q.o);have A:=h.bounds hl;obtain⟨_,_,C,D,F,G,H,ju,_,_,oY⟩:=ho;unfold gX;go_enter Tryz.func7,Tryz.ntmps7;go_wp2_with fail;unfold eA at i q d;generalize w.alloc (.cells #[.int .i64 3,.int .i64 a,.int .i64 b,.int .i64 c,.int .i64 g,.string s] 34)=w0 at *;refine(sC d.o.1.sm (by omega) (by omega)).mono ?_;rintro e M ⟨rfl,f,eU⟩;obtain⟨N,l,m⟩:=d.o.1.prog f;obtain⟨I,n⟩:=d.o.1.sm.r;have B:=ab (f.fr.ae i.o (n.eh i.o (by decide) (by decide) (by decide)));go_wp2_with fail;refine(ow l d.o.1.same (by omega)).mono ?_;rintro e O ⟨rfl,ao,Q',fh,iD,j⟩;have y:=ab (d.o.1.ref f eU l m ao iD j (d.o.1.fit.take) (sw _))
 have x:Hi (Q'.fs.length<=p.Q.fs.length):=by
  have K:=j.len;have L:=d.o.1.same.len;have z:=vF p.R;show _<=_;omega
 generalize (aN p.R).1=E at *;generalize (aN p.R).2.1=E2 at *;go_wp2_with fail;refine(da _ _).mono ?_;rintro e P ⟨rfl,z⟩;obtain rfl:=z.symm;go_wp2_with fail;go_ret;exact⟨rfl,_,y.o.1,d.o.2.jo q.o y.o.2,x.o⟩
theorem tY{p:RP}(h:PM w p)(hl:p.Q.fs.length<=2800000000000)(a b c g:Int)(s:ByteArray)(ho:iH 5 a b c g s):
  Calls Tryz.prog 7 #[.pointer (some ⟨p.sb,0,none⟩),.pointer (some ⟨p.qb,0,none⟩),gX 5 a b c g s] w fun e w'=>km w p e w':=by
 have i:Hi ((w.alloc (.cells (eA 5 a b c g s) 34)).heap[w.heap.size]?=some (.cells (eA 5 a b c g s) 34 (0,0))):=af rfl _;have u:Hi (Fr Zero w (w.alloc (.cells (eA 5 a b c g s) 34))):=Fr.alloc _ _ _;have f:=ab (h.quiet u.o);have v:=h.bounds hl;obtain⟨_,_,k,l,C,D,F,ju,_,_,oY⟩:=ho;unfold gX;go_enter Tryz.func7,Tryz.ntmps7;go_wp2_with fail;unfold eA at i u f;generalize w.alloc (.cells #[.int .i64 5,.int .i64 a,.int .i64 b,.int .i64 c,.int .i64 g,.string s] 34)=w0 at *;refine(tT f.o.1.sm (by omega) v.2.1 (by omega) a k l).mono ?_;rintro e G ⟨rfl,d,eU⟩;obtain⟨L,m,n⟩:=f.o.1.prog d;obtain⟨H,q⟩:=f.o.1.sm.r;have A:=ab (d.fr.ae i.o (q.eh i.o (by decide) (by decide) (by decide)));have K:G.cell? ⟨w.heap.size,1,none⟩=some (.int .i64 a):=by rw[cell_of_heap A.o];rfl
 go_wp2_with fail;refine(kE m f.o.1.same (by omega) a k l).mono ?_;rintro e M ⟨rfl,ao,Q',fh,iD,t⟩;have B:=ab (f.o.1.ref d eU m n ao iD t (f.o.1.fit.release _) (vV _ _));generalize (gx p.R a).1=E at *;go_wp2_with fail;refine(da _ _).mono ?_;rintro e N ⟨rfl,I⟩;obtain rfl:=I.symm;go_wp2_with fail;go_ret;exact⟨rfl,_,B.o.1,f.o.2.jo u.o B.o.2⟩
theorem A9{p:RP}(h:PM w p)(hl:p.Q.fs.length<=2800000000000)(a b c g:Int)(s:ByteArray)(ho:iH 6 a b c g s):
  Calls Tryz.prog 7 #[.pointer (some ⟨p.sb,0,none⟩),.pointer (some ⟨p.qb,0,none⟩),gX 6 a b c g s] w fun e w'=>km w p e w':=by
 have i:Hi ((w.alloc (.cells (eA 6 a b c g s) 34)).heap[w.heap.size]?=some (.cells (eA 6 a b c g s) 34 (0,0))):=af rfl _;have q:Hi (Fr Zero w (w.alloc (.cells (eA 6 a b c g s) 34))):=Fr.alloc _ _ _;have f:=ab (h.quiet q.o);have y:=h.bounds hl;obtain⟨_,_,A,B,C,D,F,ju,_,_,oY⟩:=ho;unfold gX;go_enter Tryz.func7,Tryz.ntmps7;go_wp2_with fail;unfold eA at i q f;generalize w.alloc (.cells #[.int .i64 6,.int .i64 a,.int .i64 b,.int .i64 c,.int .i64 g,.string s] 34)=w0 at *;refine(AY f.o.1.sm).mono ?_;rintro e J ⟨rfl,d,eU⟩;obtain⟨K,k,l⟩:=f.o.1.prog d;obtain⟨G,m⟩:=f.o.1.sm.r;have z:=ab (d.fr.ae i.o (m.eh i.o (by decide) (by decide) (by decide)));go_wp2_with fail;refine(pY k f.o.1.same).mono ?_;rintro e L ⟨rfl,ao,Q',fh,iD,n⟩;have x:=ab (f.o.1.ref d eU k l ao iD n (f.o.1.fit.shut) (sE _));generalize (gT p.R).1=E at *;go_wp2_with fail;refine(da _ _).mono ?_;rintro e M ⟨rfl,H⟩;obtain rfl:=H.symm;go_wp2_with fail;go_ret;exact⟨rfl,_,x.o.1,f.o.2.jo q.o x.o.2⟩
theorem sI{p:RP}(h:PM w p)(hl:p.Q.fs.length<=2800000000000)(a b c g:Int)(s:ByteArray)(ho:iH 4 a b c g s):
  Calls Tryz.prog 7 #[.pointer (some ⟨p.sb,0,none⟩),.pointer (some ⟨p.qb,0,none⟩),gX 4 a b c g s] w fun e w'=>e=.returned (.bool true)/\Fr Zero w w':=by
 have j:Hi ((w.alloc (.cells (eA 4 a b c g s) 34)).heap[w.heap.size]?=some (.cells (eA 4 a b c g s) 34 (0,0))):=af rfl _;have u:Hi (Fr Zero w (w.alloc (.cells (eA 4 a b c g s) 34))):=Fr.alloc _ _ _;have t:=ab (h.quiet u.o);have v:=h.bounds hl;obtain⟨_,_,k,l,m,n,q,ju,_,_,oY⟩:=ho;unfold gX;go_enter Tryz.func7,Tryz.ntmps7;go_wp2_with fail;unfold eA at j u t;generalize w.alloc (.cells #[.int .i64 4,.int .i64 a,.int .i64 b,.int .i64 c,.int .i64 g,.string s] 34)=w0 at *;refine(AV t.o.1.sm t.o.1.fit.kept (by omega) v.2.1 (by omega) a b c k l m n q ju).mono ?_;rintro e z ⟨rfl,d⟩;have x:=ab (u.o.trans d);have f:=ab (t.o.1.quiet d);have i:=ab (d.ae j.o (fun h=>h));obtain⟨H,r⟩:=f.o.1.rq;have D:z.cell? ⟨w.heap.size,1,none⟩=some (.int .i64 a):=by rw[cell_of_heap i.o];rfl
 have F:z.cell? ⟨w.heap.size,2,none⟩=some (.int .i64 b):=by rw[cell_of_heap i.o];rfl
 have G:z.cell? ⟨w.heap.size,3,none⟩=some (.int .i64 c):=by rw[cell_of_heap i.o];rfl
 go_wp2_with fail;refine(A5 r f.o.1.same f.o.1.fit.kept (by omega) a b c k l m n q ju).mono ?_;rintro e I ⟨rfl,B⟩;obtain rfl:=B.symm;generalize ba (fH p.R a b c).1=V at *;generalize (fH p.R a b c).2=E at *;have A:(V.toList==V.toList)=true:=by simp
 go_wp2_with fail;refine(da _ _).mono ?_;rintro e J ⟨rfl,C⟩;obtain rfl:=C.symm;go_wp2_with fail;go_ret;exact⟨by simp,x.o⟩
theorem sJ{p:RP}(h:PM w p)(hl:p.Q.fs.length<=2800000000000)(a b c g:Int)(s:ByteArray):
  Calls Tryz.prog 7 #[.pointer (some ⟨p.sb,0,none⟩),.pointer (some ⟨p.qb,0,none⟩),gX 7 a b c g s] w fun e w'=>e=.returned (.bool true)/\Fr Zero w w':=by
 have q:Hi (Fr Zero w (w.alloc (.cells (eA 7 a b c g s) 34))):=Fr.alloc _ _ _;have r:=ab (h.quiet q.o);have y:=h.bounds hl;unfold gX;go_enter Tryz.func7,Tryz.ntmps7;go_wp2_with fail;unfold eA at q r;generalize w.alloc (.cells #[.int .i64 7,.int .i64 a,.int .i64 b,.int .i64 c,.int .i64 g,.string s] 34)=w0 at *;refine(AZ r.o.1.sm (by omega) (by omega)).mono ?_;rintro e f ⟨rfl,j⟩;have t:=ab (q.o.trans (j.trans (Fr.alloc Zero f (.cells #[.int .i64 (taken p.R.fs),.int .i64 (aQ 0 p.R.fs),.int .i64 (aQ 1 p.R.fs),.bool p.R.shut] 68))));have i:=ab (r.o.1.quiet (j.trans (Fr.alloc Zero f (.cells #[.int .i64 (taken p.R.fs),.int .i64 (aQ 0 p.R.fs),.int .i64 (aQ 1 p.R.fs),.bool p.R.shut] 68))));have z:Hi ((f.alloc (.cells #[.int .i64 (taken p.R.fs),.int .i64 (aQ 0 p.R.fs),.int .i64 (aQ 1 p.R.fs),.bool p.R.shut] 68)).heap[f.heap.size]?=some (.cells #[.int .i64 (taken p.R.fs),.int .i64 (aQ 0 p.R.fs),.int .i64 (aQ 1 p.R.fs),.bool p.R.shut] 68 (0,0))):=af rfl _;obtain⟨F,l⟩:=i.o.1.rq;unfold jA;go_wp2_with fail;generalize f.alloc (.cells #[.int .i64 (taken p.R.fs),.int .i64 (aQ 0 p.R.fs),.int .i64 (aQ 1 p.R.fs),.bool p.R.shut] 68)=w2 at *;refine(sH l i.o.1.same i.o.1.fit (by omega)).mono ?_;rintro e n ⟨rfl,k⟩;have v:=ab (t.o.trans k);have d:=ab (k.ae z.o (fun h=>h));have A:=lt_of_heap d.o;have B:n.cell? ⟨f.heap.size,0,none⟩=some (.int .i64 (taken p.R.fs)):=by rw[cell_of_heap d.o];rfl
 have C:n.cell? ⟨f.heap.size,1,none⟩=some (.int .i64 (aQ 0 p.R.fs)):=by rw[cell_of_heap d.o];rfl
 have D:n.cell? ⟨f.heap.size,2,none⟩=some (.int .i64 (aQ 1 p.R.fs)):=by rw[cell_of_heap d.o];rfl
 have E:n.cell? ⟨f.heap.size,3,none⟩=some (.bool p.R.shut):=by rw[cell_of_heap d.o];rfl
 unfold jA;go_wp2_with fail;refine(ns _ _ _ _ _).mono ?_;rintro e G ⟨rfl,m⟩;have x:=ab (v.o.trans ((Fr.alloc _ _ _).trans m));go_wp2_with fail;go_ret;exact⟨rfl,x⟩
theorem yv{p:RP}(k a b c g:Int)(s:ByteArray)(hk:k≠2/\k≠3/\k≠4/\k≠5/\k≠6/\k≠7):
  Calls Tryz.prog 7 #[.pointer (some ⟨p.sb,0,none⟩),.pointer (some ⟨p.qb,0,none⟩),gX k a b c g s] w fun e w'=>e=.returned (.bool true)/\Fr Zero w w':=by
 obtain⟨d,f,h,i,j,l⟩:=hk;have m:(k==2)=false:=beq_eq_false_iff_ne.2 d;have n:(k==3)=false:=beq_eq_false_iff_ne.2 f;have o:(k==4)=false:=beq_eq_false_iff_ne.2 h;have q:(k==5)=false:=beq_eq_false_iff_ne.2 i;have r:(k==6)=false:=beq_eq_false_iff_ne.2 j;have t:(k==7)=false:=beq_eq_false_iff_ne.2 l;unfold gX;go_enter Tryz.func7,Tryz.ntmps7;go_wp2_with fail;go_ret;exact⟨rfl,Fr.alloc _ _ _⟩
theorem De{p:RP}(h:PM w p)(hl:p.Q.fs.length<=2800000000000)(k a b c g:Int)(s:ByteArray)(ho:iH k a b c g s):
  Calls Tryz.prog 7 #[.pointer (some ⟨p.sb,0,none⟩),.pointer (some ⟨p.qb,0,none⟩),gX k a b c g s] w fun e w'=>km w p e w':=by
 have d:∀ {e:Ending} {w':World},(e=.returned (.bool true)/\Fr Zero w w')->km w p e w':=fun hh=>by
  have:=h.quiet hh.2
  exact⟨hh.1,p,this.1,this.2⟩
 by_cases f:k=2
 ·subst f;exact Dd h hl a b c g s ho
 by_cases i:k=3
 ·subst i;exact A8 h hl a b c g s ho
 by_cases j:k=4
 ·subst j;exact(sI h hl a b c g s ho).mono (fun _ _ hh=>d hh)
 by_cases l:k=5
 ·subst l;exact tY h hl a b c g s ho
 by_cases m:k=6
 ·subst m;exact A9 h hl a b c g s ho
 by_cases n:k=7
 ·subst n;exact(sJ h hl a b c g s).mono (fun _ _ hh=>d hh)
 exact(yv k a b c g s ⟨f,i,j,l,m,n⟩).mono (fun _ _ hh=>d hh)
end Go.Proofs.YtpffifpbpmlhdaaGreatDoor.Q
