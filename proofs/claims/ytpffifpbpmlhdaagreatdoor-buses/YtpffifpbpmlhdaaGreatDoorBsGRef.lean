import Derived.Test.YtpffifpbpmlhdaaGreatDoorBsGPure
import Derived.Test.YtpffifpbpmlhdaaGreatDoorBsDSev
set_option maxHeartbeats 32000000
set_option maxRecDepth 100000
namespace Go.Proofs.YtpffifpbpmlhdaaGreatDoor
open Go.RowKit
variable {w:World}{B tb db k i:Nat}{s:ByteArray}{l p r st tx:Bs}{bad:Bool}{t:PT}{v:PV}{tab:List RT}{roots:List Nat}
theorem wK{base size g n au j:Nat}{e:TypeId}{xs:List Value}(h:w.ownsRow base e size (.slice (some ⟨g,0,none⟩) n au) n xs)(u:Value):(w.setCell ⟨g,j,none⟩ u).ownsRow base e size (.slice (some ⟨g,0,none⟩) n au) n (xs.set j u):=by
 refine⟨by rw[List.length_set];exact h.1,?_⟩;rcases h.2 with⟨q,_⟩|⟨m,b,a,q,c,d,f,i,k,l⟩
 ·simp at q
 ·simp at q;obtain⟨rfl,rfl⟩:=q;refine .inr ⟨g,au,a.setIfInBounds j u,rfl,c,heap_setCell_same d,f,i,by simpa using k,?_⟩;rw[Array.toList_setIfInBounds,List.take_set,l]
theorem tM(a b:List (Bs×Bs))(p x y:Bs):(cj (a++(p,x)::b)).set (a.length*2+1) (.string (ba y))=cj (a++(p,y)::b):=by
 rw[ku,ku,List.set_append_right _ _ (by rw[fi];omega),fi];rw[show a.length*2+1-a.length*2=1 by omega];rfl
theorem vr(a b:List (Bs×Bs))(p x:Bs):(cj (a++(p,x)::b))[a.length*2+1]?=some (.string (ba x)):=by
 rw[ku,List.getElem?_append_right (by rw[fi];omega),fi];rw[show a.length*2+1-a.length*2=1 by omega];rfl
theorem KS.xX{ar:List (Bs×Int)}{a b:List (Bs×Bs)}{x:Bs}(h:KS w B tb db s l bad ar (a++(p,x)::b)):
  ∃ g au,w.cell? ⟨tb,5,none⟩=some (.slice (some ⟨g,0,none⟩) (a++(p,x)::b).length au)/\w.cell? ⟨g,a.length*2+1,none⟩=some (.string (ba x))/\w.frozen? ⟨g,a.length*2+1,none⟩=false /\
   ∀ y:Bs,KS (w.setCell ⟨g,a.length*2+1,none⟩ (.string (ba y))) B tb db s l bad ar (a++(p,y)::b)/\gR tb w (w.setCell ⟨g,a.length*2+1,none⟩ (.string (ba y))):=by
 obtain⟨r,z,c,t,n,d⟩:=h;have o:=d;rcases d.2 with⟨q,u⟩|⟨g,au,v,rfl,A,m,_⟩
 ·simp at u
 ·have cF:g≠tb:=fun e=>by
   rw[e,c.block] at m;simp at m
  refine⟨g,au,c.n9,?_,ak m,fun y=>?_⟩
  ·rw[d.cellAt (a.length*2+1) (by simp;omega)];exact vr a b p x
  ·have f:Fr (One g) w (w.setCell ⟨g,a.length*2+1,none⟩ (.string (ba y))):=Fr.setCell _ _ _ _ rfl;have i:=c.ae f (fun e=>cF e.symm);refine⟨⟨r,_,i,t,ag n f (fun g' hg' e=>oy d n (by decide) (g:=g') (by rw[show g'=g from e];rfl) hg'),?_⟩,⟨f.mono (fun k _ e=>.inr (.inr ⟨_,c.n9,by rw[show k=g from e];rfl⟩)),fun k _ e=>(KX.same (i.gS.trans c.gS.symm) (i.n9.trans c.n9.symm) k).1 e⟩⟩
   have:=wK (j:=a.length*2+1) d (.string (ba y))
   rw[tM] at this;simpa using this
theorem Fs{ar:List (Bs×Int)}{ways:List (Bs×Bs)}(x:Int)(p st:ByteArray)(h:KS w B tb db s l true ar ways):
  Calls Tryz.prog 97 #[.pointer (some ⟨tb,0,none⟩),.int .i64 x,.string p,.string st] w fun e w'=>e=.returned (.string ⟨#[]⟩)/\w'=w:=by
 obtain⟨c,d,a⟩:=h.block;have b:=a.dw;clear a h;go_enter Tryz.func97,Tryz.ntmps97;go_wp2_with fail;go_ret;exact⟨rfl,rfl⟩
def GK(k:Nat):Prop:=∀(w:World) (B tb db:Nat) (s:ByteArray) (l:Bs) (ar:List (Bs×Int)) (ways:List (Bs×Bs)) (tab:List RT) (roots:List Nat) (x:Nat) (t:PT) (p st:Bs),
 vk w B tb db s l ar ways tab roots->Is tab x t->c8 (k+1) t->p.length+500*(k+1)<=10000->st.length+500*(k+1)<=10000->Room (k+1) ar.length l.length->Room k ways.length l.length ->
 Calls Tryz.prog 97 #[.pointer (some ⟨tb,0,none⟩),.int .i64 x,.string (ba p),.string (ba st)] w fun e w'=>lM tb B db s ar ways k t p st l w e w'
theorem AJ{ar:List (Bs×Int)}{ways:List (Bs×Bs)}(x:Int)(p:Bs)(st:ByteArray)(h:KS w B tb db s l true ar ways)(hB:B<=w.heap.size)(hn:ways.length<=1000100):
  Calls Tryz.prog 69 #[.pointer (some ⟨tb,0,none⟩),.int .i64 x,.string (ba p),.string st] w fun e w'=>gR tb w w'/\KS w' B tb db s l true ar (ways++[(p,[])])/\e=.returned (.string ⟨#[]⟩):=by
 obtain⟨Y,O,i,j,m,d⟩:=h
 obtain⟨C,wc,rfl⟩:∃ C wc,O=.slice C ways.length wc:=by
  rcases d.2 with⟨F,P⟩|⟨g,au,Q,F,_⟩
  ·exact⟨none,0,by rw[F,P]⟩
  ·exact⟨_,_,F⟩
 have K:=i.n9;have L:=i.free 5;have H:=ab i;have M:=ab m;have a:=ab d;have D:=ab j;have E:=i.lt;clear i m d j;obtain⟨R,I,n,q,r⟩:=info_parts Aa;go_enter Tryz.func69,Tryz.ntmps69
 go_wp2_with (at_builtin;refine az _ rfl (.tmp 20) (.tmp 23) 106 rfl B 104 R (.agg #[.string ⟨#[]⟩,.string ⟨#[]⟩]) 2 32 Tryz.underlying106 I n q r rfl (by decide) (.slice C ways.length wc) ways.length (cj ways) rfl ?o1 ⟨w.heap.size,0,none⟩ 1 1 (by omega) [.string (ba p),.string ⟨#[]⟩] rfl rfl ?c1 ?c2 ?c3 ?c4 ?c5 ?_)
 case o1=>exact a.o.alloc _
 case c1=>exact qt rfl rfl
 case c2=>intro u J;simp at J;rcases J with rfl|rfl<;>rfl
 case c3=>unfold maxLen;omega
 case c4=>omega
 case c5=>simp;omega
 intro Z w4 t f S v G y;subst G;have b:=H.o.ae (Fr.alloc Zero _ (.cells #[.string (ba p),.string ⟨#[]⟩] 104)) (fun h=>h);have A:=ab (KS.At (p,[]) b D.o (M.o.alloc _) (a.o.alloc _) (by rw[mq];exact t) f ⟨S,v,rfl,by simpa using y⟩);have c:=b.ae (Fr.grown (X:=fun k=>(Value.slice C ways.length wc).ownBlock=some k) f (fun k e _=>e)) (fun e=>gI a.o H.o.block (by decide) e);have U:=c.n9;have V:=c.free 5;have N:=ab (gR.quiet (Fr.alloc Zero w (.cells #[.string (ba p),.string ⟨#[]⟩] 104)) E);clear t f y b c K L I n q r;go_wp2_with fail;refine(Fs x (ba p) st A.o.1).mono ?_;rintro e w5 ⟨rfl,T⟩;obtain rfl:=T.symm;obtain⟨_,_,z⟩:=A.o.1.block;have W:=z.dw;clear z;go_wp2_with fail;go_ret;exact⟨N.o.trans A.o.2,A.o.1,rfl⟩
theorem Bw{m:Nat}(h:k<=20)(hm:m<=1000):500*k*m<=10000000:=by
 have a:500*k<=10000:=by omega
 exact Nat.le_trans (Nat.mul_le_mul a hm) (by omega)
theorem CK(hS:GK k):qQ (k+1):=by
 intro w B tb db s l ar ways af q x t p st h hI hW hp iz hn hm;have U:=ab h;have V:=ab hI;have HR:=ab hn;have HM:=ab hm;have W:=ab hW;have HS:=ab hS;have hB:=h.hB;have ah:ways.length<=1000000:=by unfold Room at hm;omega
 obtain⟨nv,wv,F,G,H,y⟩:=h.ks;clear h hI hn hm hW hS
 obtain⟨T,wc,rfl⟩:∃ T wc,wv=.slice T ways.length wc:=by
  rcases y.2 with⟨h1,h0⟩|⟨g,au,ak,h1,_⟩
  ·exact⟨none,0,by rw[h1,h0]⟩
  ·exact⟨_,_,h1⟩
 have k5:=F.n9;have f5:=F.free 5;have HB:=ab F;have HN:=ab H;have j:=ab y;have Y:=ab G;have Z:=F.lt;clear F H y G;obtain⟨i0,hi,I,J,K⟩:=info_parts Aa;go_enter Tryz.func69,Tryz.ntmps69
 go_wp2_with (at_builtin;refine az _ rfl (.tmp 20) (.tmp 23) 106 rfl B 104 i0 (.agg #[.string ⟨#[]⟩,.string ⟨#[]⟩]) 2 32 Tryz.underlying106 hi I J K rfl (by decide) (.slice T ways.length wc) ways.length (cj ways) rfl ?o1 ⟨w.heap.size,0,none⟩ 1 1 (by omega) [.string (ba p),.string ⟨#[]⟩] rfl rfl ?c1 ?c2 ?c3 ?c4 ?c5 ?_)
 case o1=>exact j.o.alloc _
 case c1=>exact qt rfl rfl
 case c2=>intro u hu;simp at hu;rcases hu with rfl|rfl<;>rfl
 case c3=>unfold maxLen;omega
 case c4=>omega
 case c5=>simp;omega
 intro v' w4 L z gn M ag N;subst ag;have m:=HB.o.ae (Fr.alloc Zero _ (.cells #[.string (ba p),.string ⟨#[]⟩] 104)) (fun h=>h);have HE:=ab (KS.At (p,[]) m Y.o (HN.o.alloc _) (j.o.alloc _) (by rw[mq];exact L) z ⟨gn,M,rfl,by simpa using N⟩);have n:=m.ae (Fr.grown (X:=fun k=>(Value.slice T ways.length wc).ownBlock=some k) z (fun k e _=>e)) (fun e=>gI j.o HB.o.block (by decide) e);have q5:=n.n9;have qf:=n.free 5;have HQ:=ab (gR.quiet (Fr.alloc Zero w (.cells #[.string (ba p),.string ⟨#[]⟩] 104)) Z);clear L z N m n k5 f5 hi I J K;go_wp2_with fail;have A:=ab (HQ.o.trans HE.o.2);have aa:=ab (U.o.ae HE.o.1 A.o);refine(HS.o _ B tb db s l ar (ways++[(p,[])]) af q x t p st aa.o V.o W.o hp iz HR.o ?_).mono ?_
 ·have:=HM.o
  unfold Room at *;have h2:(k+1)*l.length=k*l.length+l.length:=Nat.succ_mul k _;simp;omega
 rintro e w5 ⟨O,tx,dh,eV,P,rfl,Q,R⟩;have C:=ab (A.o.trans O);have a:=ab P;have D:=ab Q;have ac:=ab R;clear O P Q R q5 qf;have h2:Hi ((k+1)*l.length=k*l.length+l.length):=Nat.succ_mul k _;rcases hr:aS (k+1) t l with⟨_|v,r⟩
 ·rw[hr] at a D;have c:=ab hr;obtain⟨_,_,d⟩:=a.o.block;have g3:=d.dw;simp only[Option.isNone_none] at g3;clear d hr;go_wp2_with fail;go_ret;refine⟨C,[],dh,eV,?_,rfl,by simp,fun _=>?_,fun v hv=>?_⟩
  ·rw[c.o];exact a
  ·obtain⟨q1,q2⟩:=D.o trivial
   have:=h2.o
   simp at q2;exact⟨rfl,by omega,by omega⟩
  ·rw[c.o] at hv;simp at hv
 ·obtain⟨rfl,rfl,rfl⟩:=ac.o v (by rw[hr]);rw[hr] at a;have c:=ab hr;obtain⟨_,_,d⟩:=a.o.block;have g3:=d.dw;simp only[Option.isNone_some] at g3 a;obtain⟨i,S⟩:=jc (k+1) t l v r W.o hr;have aX:=(ng (k+1) t v W.o i).2;have k9:=U.o.ks.len;have hs:=U.o.hs
  have rV:(aG (k+1) v).length<=1000:=by
   have:=congrArg List.length S
   simp at this;omega
  have ad:Hi ((aw (k+1) v).length<=10000000):=Nat.le_trans aX (Bw (by omega) rV);have E:ways++[(p,[])]++iK k p v=ways++(p,[])::iK k p v:=by simp
  rw[E] at a;obtain⟨g,au,c1,c2,c3,b⟩:=a.o.xX;have b:=b (aw (k+1) v);have f:=ab b;have ai:(ways.length:Int)<(((ways++(p,[])::iK k p v).length:Nat):Int):=by simp;omega
  have aj:=World.block_lt_of_cell? _ _ c2;clear d hr i S aX k9 hs rV b E;generalize (ways++(p,[])::iK k p v).length=wl at *;go_wp2_with fail;go_ret;refine⟨C.o.trans f.o.2,aw (k+1) v,ar++dI (k+1) st v,ways++cy (k+1) p v,?_,rfl,ad,fun h=>?_,fun v' hv=>?_⟩
  ·rw[c.o];exact f.o.1
  ·rw[c.o] at h;simp at h
  ·rw[c.o] at hv;simp at hv;subst hv;exact⟨rfl,rfl,rfl⟩
theorem xj{α:Type}{f:Nat->PV->List α}:∀(l:List PV) (i:Nat),(∀ x∈l,∀ j,(f j x).length<=k*(aG k x).length)->(kids f i l).length<=k*(l.flatMap (aG k)).length:=by
 intro l
 induction l with
 | nil=>intro i _;simp[kids]
 | cons x l ih =>
  intro i h;have a:=h x (by simp) i;have b:=ih (i+1) (fun y hy=>h y (by simp[hy]));simp only[kids,List.length_append,List.flatMap_cons,Nat.mul_add];omega
theorem Valid.parts(hW:c8 (k+1) t)(h:Valid (k+1) t v):(∀ x∈v.parts,∃ u,c8 k u/\Valid k u x)/\(v.parts.flatMap (aG k)).length<=(aG (k+1) v).length:=by
 obtain⟨a,s,w,z⟩:=v;obtain⟨e,h⟩:=h;simp only at e;subst e;rw[cQ];simp only at h ⊢
 by_cases g:a.kind<=2
 ·rw[if_pos g] at h ⊢;rw[h.2.1];simp
 rw[if_neg g] at h ⊢
 by_cases j:a.kind=3
 ·rw[if_pos j] at h ⊢;rw[h.2.1];simp
 rw[if_neg j] at h ⊢
 by_cases l:a.kind=4
 ·rw[if_pos l] at h ⊢;rw[h.2.1];simp
 rw[if_neg l] at h ⊢
 by_cases m:a.kind=5
 ·rw[if_pos m] at h;rw[if_pos (by omega)];rw[h.2.1];simp
 rw[if_neg m] at h
 by_cases n:a.kind=6
 ·rw[if_pos n] at h;rw[if_pos (by omega)];rw[h.2.1];simp
 rw[if_neg n] at h;rw[if_neg (by omega)]
 by_cases b:a.kind=7
 ·rw[if_pos b] at h;rw[if_pos (by omega)];have p:a.subs.length=1:=hW.2.2.2.2.1 (.inl b);exact⟨fun x hx=>⟨_,hW.sub (i:=0) (by omega),h.2.2.2 x hx⟩,by simp⟩
 rw[if_neg b] at h
 by_cases c:a.kind=8
 ·rw[if_pos c] at h;rw[if_pos (by omega)];have p:a.subs.length=1:=hW.2.2.2.2.1 (.inr c);exact⟨fun x hx=>⟨_,hW.sub (i:=0) (by omega),h.2.2.2 x hx⟩,by simp⟩
 rw[if_neg c] at h;rw[if_neg (by omega)]
 by_cases o:a.kind=9
 ·rw[if_pos o] at h ⊢;refine⟨fun x hx=>?_,by simp⟩;obtain⟨i,q,r⟩:=List.getElem_of_mem hx;exact⟨_,hW.sub (i:=i) (by omega),h.2.2.2 i x (by simp[q,r])⟩
 ·rw[if_neg o] at h ⊢;obtain⟨_,i,x,_,d,rfl,f⟩:=h;refine⟨fun y hy=>?_,by simp⟩;simp at hy;subst hy;exact⟨_,hW.sub d,f⟩
theorem CR:∀(k:Nat) (t:PT) (v:PV),c8 k t->Valid k t v->(∀ st,(dI k st v).length<=k*(aG k v).length)/\(∀ p,(cy k p v).length<=k*(aG k v).length):=by
 intro k
 induction k with
 | zero=>intro t v h;exact h.elim
 | succ k ih =>
  intro t v c d;have l:=(ng (k+1) t v c d).1;obtain⟨e,g⟩:=d.parts c;have m:(k+1)*(aG (k+1) v).length=k*(aG (k+1) v).length+(aG (k+1) v).length:=Nat.succ_mul k _;have n:k*(v.parts.flatMap (aG k)).length<=k*(aG (k+1) v).length:=Nat.mul_le_mul_left k g;refine⟨fun st=>?_,fun p=>?_⟩
  ·simp only[dI]
   split
   ·simp;omega
   ·have:=xj (f:=fun i x=>dI k (under st (ou v.of v.num i)) x) (k:=k) v.parts 0 (fun x hx j=>by obtain⟨u,a,b⟩:=e x hx;exact(ih u x a b).1 _)
    omega
  ·rw[AG]
   have:=xj (f:=fun i x=>cy k (under p (stepOf v.of v.num i)) x) (k:=k) v.parts 0 (fun x hx j=>by obtain⟨u,a,b⟩:=e x hx;exact(ih u x a b).2 _)
   simp only[List.length_cons];unfold iK;omega
theorem oo(hW:c8 k t)(h:aS k t l=(some v,r)):r.length<=l.length/\(∀ st,(dI k st v).length+k*r.length<=k*l.length)/\(∀ p,(cy k p v).length+k*r.length<=k*l.length):=by
 obtain⟨a,b⟩:=jc k t l v r hW h;obtain⟨c,d⟩:=CR k t v hW a;have k9:l.length=(aG k v).length+r.length:=by rw[b];simp
 rw[k9,Nat.mul_add];exact⟨by omega,fun st=>by have:=c st;omega,fun p=>by have:=d p;omega⟩
def m7(k:Nat)(t:PT)(p st l:Bs)(ar:List (Bs×Int))(ways:List (Bs×Bs))(i:Nat)(bad:Bool)(r tx:Bs)(dh:List (Bs×Int))(eV:List (Bs×Bs)):Prop :=
 (bad=false->∃ vs:List PV,vs.length=i/\cw (aS k) t.subs [] l=cw (aS k) (t.subs.drop i) vs r/\tx=aD (aw k) vs/\dh=ar++kids (fun j x=>dI k (under st (t.name j)) x) 0 vs/\eV=ways++kids (fun j x=>cy k (under p (t.name j)) x) 0 vs /\
  dh.length+k*r.length<=ar.length+k*l.length/\eV.length+k*r.length<=ways.length+k*l.length/\r.length<=l.length) /\
 (bad=true->1<=i/\cw (aS k) t.subs [] l=(none,r)/\dh.length<=ar.length+k*l.length+6*k/\eV.length<=ways.length+k*l.length+6*k+(i-1))
theorem EA(x:Bs):ba x++⟨#[]⟩=ba x:=(bD x []).trans (by simp)
def nr(i:Nat):Bs:=if i=0 then[] else[44]
theorem m7.good{ar:List (Bs×Int)}{ways:List (Bs×Bs)}{eK:List (Bs×Int)}{eF:List (Bs×Bs)}(h:m7 k t p st l ar ways i false r tx eK eF)(hi:i<t.subs.length)(hW:c8 k (t.sub i))
  {ty:Bs} {nums2:List (Bs×Int)} {ways2:List (Bs×Bs)} (hb:(aS k (t.sub i) r).1=none->ty=[]/\nums2.length<=eK.length+k*r.length+6*k/\ways2.length<=eF.length+k*r.length+6*k)
  (hg:∀ v,(aS k (t.sub i) r).1=some v->ty=aw k v/\nums2=eK++dI k (under st (t.name i)) v/\ways2=eF++cy k (under p (t.name i)) v) :
  m7 k t p st l ar ways (i+1) (aS k (t.sub i) r).1.isNone (aS k (t.sub i) r).2 (tx++nr i++ty) nums2 ways2:=by
 obtain⟨e,b,a,f,g,j,q,s,u⟩:=h.1 rfl
 have hd:t.subs.drop i=t.sub i::t.subs.drop (i+1):=by
  rw[List.drop_eq_getElem_cons hi];unfold PT.sub;simp[hi]
 rw[hd] at a;simp only[cw] at a;rcases hr:aS k (t.sub i) r with⟨_|v,w⟩
 ·rw[hr] at a hb;obtain⟨_,c,d⟩:=hb rfl;exact⟨fun h=>by simp at h,fun _=>⟨by omega,a,by omega,by omega⟩⟩
 ·rw[hr] at a hg;obtain⟨m,c,d⟩:=hg v rfl;obtain⟨x,n,o⟩:=oo hW hr;refine⟨fun _=>⟨e++[v],by simp[b],a,?_,?_,?_,?_,?_,by simp only;omega⟩,fun h=>by simp at h⟩
  ·rw[mr,f,m];unfold nr;rw[b];simp
  ·rw[l5,c,g,b];simp
  ·rw[l5,d,j,b];simp
  ·have:=n (under st (t.name i))
   rw[c];simp only[List.length_append];omega
  ·have:=o (under p (t.name i))
   rw[d];simp only[List.length_append];omega
theorem m7.more{ar:List (Bs×Int)}{ways:List (Bs×Bs)}{eK:List (Bs×Int)}{eF:List (Bs×Bs)}(h:m7 k t p st l ar ways i true r tx eK eF)(ty:Bs)(q:Bs×Bs):m7 k t p st l ar ways (i+1) true r ty eK (eF++[q]):=by
 obtain⟨c,a,b,d⟩:=h.2 rfl;exact⟨fun h=>by simp at h,fun _=>⟨by omega,a,b,by simp;omega⟩⟩
theorem ym{ar:List (Bs×Int)}{ways:List (Bs×Bs)}{x:Nat}(hV:qQ k)(p st:Bs)(h:vk w B tb db s l ar ways tab roots)(hI:Is tab x t)(hk:t.kind=9)(hW:c8 (k+1) t)
  (hp:p.length+500*(k+1)<=10000) (iz:st.length+500*(k+1)<=10000) (hn:Room (k+1) ar.length l.length) (hm:Room k ways.length l.length) :
  Calls Tryz.prog 97 #[.pointer (some ⟨tb,0,none⟩),.int .i64 x,.string (ba p),.string (ba st)] w fun e w'=>lM tb B db s ar ways k t p st l w e w':=by
 obtain⟨nv,wv,hb⟩:=h.ks.block;have h0:=hb.dM;have h3:=hb.dw;have HI:=ab h;have aK:=ab hI;have HR:=ab hn;have HM:=ab hm;have HW:=ab hW;have HV:=ab hV;have aL:=hb.lt;clear h hI hn hm hW hV hb;go_enter Tryz.func97,Tryz.ntmps97;go_wp2_with fail;refine(fG HI.o.df x t aK.o HI.o.hB HI.o.tl).mono ?_;rintro e w1 ⟨au,f,o,a5,a,rfl,aE,aa⟩;have aM:=HW.o.2.2.2.2.2.1.1;have mi:=HW.o.2.2.2.1 (by omega);have G:f.of.length=t.subs.length:=aE.len;have ax:=aE.kind;have il:f.names.length=t.subs.length:=(aE.nml (by omega)).trans G
 have V:f.names=t.names:=by
  have:=aE.nms
  unfold kL at this;rw[if_neg (by intro h;rw[List.isEmpty_iff] at h;rw[h] at il;simp at il;omega)] at this;exact this
 rw[ax] at aa ⊢;have H:=aa.ae au.dV;obtain⟨go,co,rfl,aG⟩:=T9.new H (by omega);obtain⟨U,cn,rfl,aH⟩:=N9.new H V (by rw[V] at il;omega);obtain⟨pa,qa,rfl⟩:=aa.2.2.2.shape;have C:t.names.length=t.subs.length:=by rw[<-V];exact il
 have ay:=ab aE.sub
 have aN:Hi (∀ i,(t.name i).length<=400):=fun i=>by
  unfold PT.name;rcases hq:t.names[i]? with _|n
  ·simp
  ·have:=HW.o.2.2.2.2.2.1.2 n (List.mem_of_getElem? hq)
   simpa using this
 have ad:=ab (au.trans (Fr.alloc Zero w1 (.cells #[.int .i64 t.kind,.slice (some ⟨go,0,none⟩) f.of.length co,.slice (some ⟨U,0,none⟩) t.names.length cn,.slice pa (ints f.ats).length qa] 183)));have az:=ab aG;have aA:=ab (aH.quiet (Fr.alloc Zero w1 (.cells #[.int .i64 t.kind,.slice (some ⟨go,0,none⟩) f.of.length co,.slice (some ⟨U,0,none⟩) t.names.length cn,.slice pa (ints f.ats).length qa] 183)));have u:=ab G;have af:=ab C;have HE:Hi (aS (k+1) t l=((cw (aS k) t.subs [] l).1.map (bE t 0),(cw (aS k) t.subs [] l).2)):=ab (by simp only[aS];rw[if_neg (by omega),if_neg (by omega),if_neg (by omega),if_neg (by omega),if_neg (by omega),if_neg (by omega),if_neg (by omega),if_pos hk]);obtain⟨m,hm⟩:∃ m,t.subs.length=m:=⟨_,rfl⟩;rw[hm] at u af mi aM G C;simp only[G,C,hk] at az aA ad ⊢;have aO:=ab hk;have I:=ab hm;clear au aE aa H ax aG G hk aH il C V hm;have aP:=ab (HI.o.quiet ad.o);have aB:=ab (gR.quiet ad.o aL);go_wp2_with fail
 go_loopw [15,16] (fun sv iv wr=>∃(i:Nat) (O:Bool) (r d:Bs) (eK:List (Bs×Int)) (eF:List (Bs×Bs)),i<=m/\iv=.int .i64 i/\sv=.string (ba d)/\d.length<=i*10000001/\Hi (m7 k t p st l ar ways i O r d eK eF) /\
  Hi (KS wr B tb db s r O eK eF)/\Hi (gR tb w wr)/\Hi (T9 wr B w1.heap.size f 9 go co (.slice (some ⟨U,0,none⟩) m cn) (.slice pa (ints f.ats).length qa))/\Hi (N9 wr B U t)) (fun _ iv _=>m-(intOf iv).toNat)
 case atStart=>exact⟨0,false,l,[],ar,ways,by omega,rfl,rfl,by simp,⟨fun _=>⟨[],rfl,rfl,rfl,by simp[kids],by simp[kids],by omega,by omega,by omega⟩,fun h=>by simp at h⟩,aP.o.ks,aB,az,aA⟩
 case round =>
  obtain⟨i,O,r,d,eK,eF,a6,rfl,rfl,a7,y,P,HF,ac,aJ⟩:=hrel;have c1:=ac.o.lg u.o
  by_cases a4:i<m
  ·have hI:(i:Int)<(m:Int):=by omega
   have c2:=ac.o.of i (by rw[u.o];omega);have c3:=ac.o.fM;have c4:=aJ.o.nm i (by rw[af.o];omega);have ag:=ab (HW.o.sub (i:=i) (by rw[I.o];omega));have aQ:=aN.o i;have ah:=eZ p (t.name i);have ai:=eZ st (t.name i);have X:Hi (p.length+(t.name i).length+1<=1000000):=by show _<=_;omega
   have Y:Hi (st.length+(t.name i).length+1<=1000000):=by show _<=_;omega
   have c:=ab (P.o.quiet (Fr.drew Zero wr));have g:=ab (ac.o.quiet (Fr.drew Zero wr));have E:=ab (aJ.o.quiet (Fr.drew Zero wr));have ak:Hi (i<f.of.length):=by show _<_;have:=u.o;omega
   have al:Hi (i<t.names.length):=by show _<_;have:=af.o;omega
   have Z:=ab (HF.o.trans (gR.quiet (Fr.drew Zero wr) P.o.lt));obtain⟨F,Q⟩:∃ F,t.name i=F:=⟨_,rfl⟩;have j:=ab Q;rw[Q] at c4 X Y aQ ah ai;clear Q;cases O with
   | true =>
    obtain⟨b1,b2,b3,b4⟩:=y.o.2 rfl;have aR:Hi (B<=wr.drew.heap.size):=by show _<=_;have:=HI.o.hB;have:=Z.o.fr.size;omega
    have aT:Hi (eF.length<=1000100):=by
     have:=HM.o
     unfold Room at this;show _<=1000100;omega
    clear b2 b3 b4 ah ai;have aC:¬i=0:=by omega
    have T:=aI (d++[44]);simp only[List.length_append,List.length_cons,List.length_nil] at T;replace T:(ba (d++[44])).size=d.length+1:=T;have aU:ba d++⟨#[44]⟩=ba (d++[44]):=bD d [44];have z0:=aI d;have n0:¬(9223372036854775807<d.length+1):=by omega
    have aV:(0:Int)<(i:Int):=by omega
    have aW:decide (0<i)=true:=decide_eq_true (by omega);have D:Hi (nr i=[44]):=if_neg (by omega);go_wp2_with fail
    go_region_held3 (fun W=>W.cell? ⟨w1.heap.size,1,none⟩=some (.slice (some ⟨go,0,none⟩) m co)/\W.cell? ⟨go,i,none⟩=some (.int .i64 (aj f.of i:Nat))/\W.cell? ⟨w1.heap.size,2,none⟩=some (.slice (some ⟨U,0,none⟩) m cn)/\W.cell? ⟨U,i,none⟩=some (.string (ba F))) (first|exact⟨by assumption,by assumption,by assumption,by assumption⟩) (first|(go_at_call 135;refine(hZ _ F _ (by first|exact X.o|exact Y.o)).mono ?_;rintro e w' ⟨rfl,rfl⟩)|(go_at_call 69;refine(AJ _ (under p F) _ c.o aR.o aT.o).mono ?_;rintro e w4 ⟨b,q,rfl⟩;have d1:=(g.o.ae c.o b).lg u.o;have d2:=(g.o.ae c.o b).of i ak.o;have d3:=(g.o.ae c.o b).fM;have d4:=(E.o.ae c.o b).nm i al.o;rw[j.o] at d4;have J:=ab (g.o.ae c.o b);have K:=ab (E.o.ae c.o b);have L:=ab (Z.o.trans b);have M:=ab q;clear b q))
    all_goals
     go_wp2_with fail
     go_roundw
     case rel =>
      (repeat apply Exists.intro)
      refine⟨?r2,rfl⟩
      case r2=>exact⟨i+1,true,r,(d++[44]),eK,_,by omega,by go_num,by rw[EA],by simp only[List.length_append,List.length_cons,List.length_nil];omega,y.o.more _ _,M,L,J,K⟩
     case measure=>simp[intOf];omega
   | false =>
    obtain⟨vs,b1,b2,b3,b4,b5,b6,b7,b8⟩:=y.o.1 rfl;have aX:=ab (HI.o.ae P.o HF.o);have am:=ab (ay.o i (by rw[I.o];omega))
    have aD:Hi (∀ W,Fr Zero wr W->Calls Tryz.prog 69 #[.pointer (some ⟨tb,0,none⟩),.int .i64 (aj f.of i:Nat),.string (ba (under p F)),.string (ba (under st F))] W fun e w'=>xR tb B db s eK eF k (t.sub i) (under p F) (under st F) r W e w'):=fun W hf =>
     HV.o W B tb db s r eK eF tab roots _ (t.sub i) _ _ (aX.o.quiet hf) am.o ag.o (by omega) (by omega) (by have:=HR.o.less (Nat.le_refl _);unfold Room at *;omega) (by have:=HM.o;unfold Room at *;omega)
    clear b1 b2 b3 b4 b5 b6 b7 b8 ah ai
    by_cases aC:i=0
    ·have T:=aI d;subst aC;have D:Hi (nr 0=[]):=rfl;go_wp2_with fail
     go_region_held3 (fun W=>W.cell? ⟨w1.heap.size,1,none⟩=some (.slice (some ⟨go,0,none⟩) m co)/\W.cell? ⟨go,0,none⟩=some (.int .i64 (aj f.of 0:Nat))/\W.cell? ⟨w1.heap.size,2,none⟩=some (.slice (some ⟨U,0,none⟩) m cn)/\W.cell? ⟨U,0,none⟩=some (.string (ba F))) (first|exact⟨by assumption,by assumption,by assumption,by assumption⟩) (first|(go_at_call 135;refine(hZ _ F _ (by first|exact X.o|exact Y.o)).mono ?_;rintro e w' ⟨rfl,rfl⟩)|(go_at_call 69;refine(aD.o _ (Fr.drew _ _)).mono ?_;rintro e w4 ⟨b,ty,z,A,q,rfl,av,R,S⟩;have aY:=aI ty;have aZ:¬(9223372036854775807<d.length+ty.length):=(by omega);have a0:(ty.length:Nat)<=10000000:=av;have d1:=(g.o.ae c.o b).lg u.o;have d2:=(g.o.ae c.o b).of 0 ak.o;have d3:=(g.o.ae c.o b).fM;have d4:=(E.o.ae c.o b).nm 0 al.o;rw[j.o] at d4;have J:=ab (g.o.ae c.o b);have K:=ab (E.o.ae c.o b);have L:=ab (Z.o.trans b);have M:=ab q;have an:=ab R;have ao:=ab S;clear b q R S))
     all_goals
      go_wp2_with fail
      go_roundw
      case rel =>
       have N:=y.o.good (i:=0) (by rw[I.o];omega) ag.o (by rw[j.o] at *;exact an.o) (by rw[j.o];exact ao.o);rw[D.o] at N
       (repeat apply Exists.intro)
       refine⟨?r2,rfl⟩
       case r2=>exact⟨0+1,_,_,d++ty,z,A,by omega,by go_num,by rw[bD],by simp only[List.length_append];omega,ab (by simpa using N),M,L,J,K⟩
      case measure=>simp[intOf];omega
    ·have T:=aI (d++[44]);simp only[List.length_append,List.length_cons,List.length_nil] at T;replace T:(ba (d++[44])).size=d.length+1:=T;have aU:ba d++⟨#[44]⟩=ba (d++[44]):=bD d [44];have z0:=aI d;have n0:¬(9223372036854775807<d.length+1):=by omega
     have aV:(0:Int)<(i:Int):=by omega
     have aW:decide (0<i)=true:=decide_eq_true (by omega);have D:Hi (nr i=[44]):=if_neg (by omega);go_wp2_with fail
     go_region_held3 (fun W=>W.cell? ⟨w1.heap.size,1,none⟩=some (.slice (some ⟨go,0,none⟩) m co)/\W.cell? ⟨go,i,none⟩=some (.int .i64 (aj f.of i:Nat))/\W.cell? ⟨w1.heap.size,2,none⟩=some (.slice (some ⟨U,0,none⟩) m cn)/\W.cell? ⟨U,i,none⟩=some (.string (ba F))) (first|exact⟨by assumption,by assumption,by assumption,by assumption⟩) (first|(go_at_call 135;refine(hZ _ F _ (by first|exact X.o|exact Y.o)).mono ?_;rintro e w' ⟨rfl,rfl⟩)|(go_at_call 69;refine(aD.o _ (Fr.drew _ _)).mono ?_;rintro e w4 ⟨b,ty,z,A,q,rfl,av,R,S⟩;have aY:=aI ty;have aZ:¬(9223372036854775807<d.length+1+ty.length):=(by omega);have a0:(ty.length:Nat)<=10000000:=av;have d1:=(g.o.ae c.o b).lg u.o;have d2:=(g.o.ae c.o b).of i ak.o;have d3:=(g.o.ae c.o b).fM;have d4:=(E.o.ae c.o b).nm i al.o;rw[j.o] at d4;have J:=ab (g.o.ae c.o b);have K:=ab (E.o.ae c.o b);have L:=ab (Z.o.trans b);have M:=ab q;have an:=ab R;have ao:=ab S;clear b q R S))
     all_goals
      go_wp2_with fail
      go_roundw
      case rel =>
       have N:=y.o.good (i:=i) (by rw[I.o];omega) ag.o (by rw[j.o] at *;exact an.o) (by rw[j.o];exact ao.o);rw[D.o] at N
       (repeat apply Exists.intro)
       refine⟨?r2,rfl⟩
       case r2=>exact⟨i+1,_,_,(d++[44])++ty,z,A,by omega,by go_num,by rw[bD],by simp only[List.length_append,List.length_cons,List.length_nil];omega,ab (by simpa using N),M,L,J,K⟩
      case measure=>simp[intOf];omega
  ·have aF:i=m:=by omega
   subst aF;have hI:¬(i:Int)<(i:Int):=by omega
   have a1:⟨#[123]⟩++ba d=ba (123::d):=bD [123] d;have a2:ba (123::d)++⟨#[125]⟩=ba (123::(d++[125])):=bD (123::d) [125];have z0:=aI d;have T:=aI (123::d);simp only[List.length_cons] at T;have n1:¬(9223372036854775807<1+d.length):=by omega
   have n2:¬(9223372036854775807<d.length+1+1):=by omega
   have a3:Hi (t.subs.drop i=[]):=ab (by rw[List.drop_eq_nil_of_le];rw[I.o];exact Nat.le_refl _);go_wp2_with fail;go_ret;cases O with
   | true =>
    obtain⟨q1,q2,q3,q4⟩:=y.o.2 rfl;have h2:(k+1)*l.length=k*l.length+l.length:=Nat.succ_mul k _;refine⟨HF,_,eK,eF,by rw[HE.o,q2];exact P,rfl,fun _=>⟨by omega,by omega⟩,fun v hv=>?_⟩;rw[HE.o,q2] at hv;simp at hv
   | false =>
    obtain⟨vs,b1,b2,b3,b4,b5,_⟩:=y.o.1 rfl;rw[a3.o] at b2;have ap:cw (aS k) t.subs [] l=(some vs,r):=b2;have aq:=aO.o;refine⟨HF,_,eK,eF,by rw[HE.o,ap];exact P,rfl,fun dH=>?_,fun v hv=>?_⟩
    ·rw[HE.o,ap] at dH;simp at dH
    ·rw[HE.o,ap] at hv;simp at hv;subst hv;refine⟨?_,?_,?_⟩
     ·show _=ba (aw (k+1) ⟨t,0,[],vs⟩);rw[cz,if_neg (by omega),if_neg (by omega),if_neg (by omega),if_neg (by omega),if_neg (by omega),if_neg (by omega),if_pos aq,b3]
     ·rw[b4];simp[dI,bE,ou,stepOf,aq]
     ·rw[b5];simp[iK,bE,stepOf,aq]
def uZ(k:Nat)(t:PT)(p st r0:Bs)(n:Nat)(ar:List (Bs×Int))(ways:List (Bs×Bs))(i:Nat)(bad:Bool)(r tx:Bs)(dh:List (Bs×Int))(eV:List (Bs×Bs)):Prop :=
 (bad=false->∃ vs:List PV,vs.length=i/\bR (aS k (t.sub 0)) n [] r0=bR (aS k (t.sub 0)) (n-i) vs r/\tx=aD (aw k) vs/\dh=ar++kids (fun _ x=>dI k (under st [42]) x) 0 vs/\eV=ways++kids (fun j x=>cy k (under p (gq j)) x) 0 vs /\
  dh.length+k*r.length<=ar.length+k*r0.length/\eV.length+k*r.length<=ways.length+k*r0.length/\r.length<=r0.length) /\
 (bad=true->bR (aS k (t.sub 0)) n [] r0=(none,r)/\dh.length<=ar.length+k*r0.length+6*k/\eV.length<=ways.length+k*r0.length+6*k)
theorem uZ.good{r0:Bs}{n:Nat}{ar:List (Bs×Int)}{ways:List (Bs×Bs)}{eK:List (Bs×Int)}{eF:List (Bs×Bs)}(h:uZ k t p st r0 n ar ways i false r tx eK eF)(hi:i<n)(hW:c8 k (t.sub 0))
  {ty:Bs} {nums2:List (Bs×Int)} {ways2:List (Bs×Bs)} (hb:(aS k (t.sub 0) r).1=none->ty=[]/\nums2.length<=eK.length+k*r.length+6*k/\ways2.length<=eF.length+k*r.length+6*k)
  (hg:∀ v,(aS k (t.sub 0) r).1=some v->ty=aw k v/\nums2=eK++dI k (under st [42]) v/\ways2=eF++cy k (under p (gq i)) v) :
  uZ k t p st r0 n ar ways (i+1) (aS k (t.sub 0) r).1.isNone (aS k (t.sub 0) r).2 (tx++nr i++ty) nums2 ways2:=by
 obtain⟨e,b,a,f,g,j,q,s,u⟩:=h.1 rfl;rw[show n-i=(n-(i+1))+1 by omega] at a;simp only[bR] at a;rcases hr:aS k (t.sub 0) r with⟨_|v,w⟩
 ·rw[hr] at a hb;obtain⟨_,c,d⟩:=hb rfl;exact⟨fun h=>by simp at h,fun _=>⟨a,by omega,by omega⟩⟩
 ·rw[hr] at a hg;obtain⟨l,c,d⟩:=hg v rfl;obtain⟨x,m,o⟩:=oo hW hr;refine⟨fun _=>⟨e++[v],by simp[b],a,?_,?_,?_,?_,?_,by simp only;omega⟩,fun h=>by simp at h⟩
  ·rw[mr,f,l];unfold nr;rw[b];simp
  ·rw[l5,c,g];simp
  ·rw[l5,d,j,b];simp
  ·have:=m (under st [42])
   rw[c];simp only[List.length_append];omega
  ·have:=o (under p (gq i))
   rw[d];simp only[List.length_append];omega
theorem Er(i:Nat):gq (i:Int)=ed 20 i:=by
 unfold gq;rw[if_neg (by omega)];simp
theorem zd(l:Bs):(bj l).2.length<=l.length:=by
 rcases l with _|⟨b,l⟩
 ·simp[bj]
 ·simp only[bj]
  split
  ·simp
  ·rcases l with _|⟨c,l⟩
   ·simp
   ·simp only
    split<;>simp<;>omega
theorem CY{ar:List (Bs×Int)}{ways:List (Bs×Bs)}{x:Nat}(hV:qQ k)(p st:Bs)(h:vk w B tb db s l ar ways tab roots)(hI:Is tab x t)(hk:t.kind=7)(hW:c8 (k+1) t)
  (hp:p.length+500*(k+1)<=10000) (iz:st.length+500*(k+1)<=10000) (hn:Room (k+1) ar.length l.length) (hm:Room k ways.length l.length) :
  Calls Tryz.prog 97 #[.pointer (some ⟨tb,0,none⟩),.int .i64 x,.string (ba p),.string (ba st)] w fun e w'=>lM tb B db s ar ways k t p st l w e w':=by
 obtain⟨nv,wv,hb⟩:=h.ks.block;have h0:=hb.dM;have h3:=hb.dw;have HI:=ab h;have aB:=ab hI;have HR:=ab hn;have HM:=ab hm;have HW:=ab hW;have HV:=ab hV;have aC:=hb.lt;clear h hI hn hm hW hV hb;go_enter Tryz.func97,Tryz.ntmps97;go_wp2_with fail;refine(fG HI.o.df x t aB.o HI.o.hB HI.o.tl).mono ?_;rintro e w1 ⟨ah,c,o,a4,a,rfl,aE,J⟩;have oY:t.subs.length=1:=HW.o.2.2.2.2.1 (.inl hk);have D:c.of.length=1:=aE.len.trans oY;have al:=aE.kind;rw[al] at J ⊢;have S:=J.ae ah.dV;obtain⟨go,co,rfl,az⟩:=T9.new S (by omega);obtain⟨pn,qn,rfl⟩:=J.2.2.1.shape;obtain⟨pa,qa,rfl⟩:=J.2.2.2.shape;have T:=ab (aE.sub 0 (by omega));have Q:=ab (ah.trans (Fr.alloc Zero w1 (.cells #[.int .i64 t.kind,.slice (some ⟨go,0,none⟩) c.of.length co,.slice pn (texts c.names).length qn,.slice pa (ints c.ats).length qa] 183)));have U:=ab az;have A:=ab D;have V:Hi (aS (k+1) t l=((ir (aS k (t.sub 0)) l).1.map (bE t 0),(ir (aS k (t.sub 0)) l).2)):=ab (by simp only[aS];rw[if_neg (by omega),if_neg (by omega),if_neg (by omega),if_neg (by omega),if_neg (by omega),if_pos hk]);rw[D] at Q;rw[D];rw[D] at U;rw[hk] at U;rw[hk] at Q;rw[hk];have aD:=ab hk;have X:=ab (HW.o.sub (i:=0) (by omega));clear ah aE J S al az D hk oY;go_wp2_with fail;have am:=ab (HI.o.quiet Q.o);refine(mU am.o.ks (by have:=HI.o.hs;unfold maxLen;omega)).mono ?_;rintro e w2 ⟨ao,ai,n,rfl,IQ,ak⟩;have an:=ab ((gR.quiet Q.o aC).trans ao);have C:=ab ai;have aF:=ab (U.o.ae am.o.ks ao);have E:=ab (zd l);have F:Hi (0<c.of.length):=by show _<_;have:=A.o;omega
 rcases hq:bj l with⟨_|d,r0⟩
 ·rw[hq] at C;have HU:Hi (ir (aS k (t.sub 0)) l=(none,r0)):=ab (by unfold ir;rw[hq]);clear ao ai hq ak;obtain⟨_,_,K⟩:=C.o.block;have g3:=K.dw;simp only[Option.isNone_none] at g3;clear K;go_wp2_with fail;refine wp_loop_rounds 1 ?_;rw[rounds_succ];rcases Nat.eq_zero_or_pos n with aA|aA
  all_goals
   first
    |(have hI:(0:Int)<(n:Int):=by omega)
    |(have hI:decide ((0:Int)<(n:Int))=false:=decide_eq_false (by omega)
      have aG:decide (0<n)=false:=decide_eq_false (by omega))
   clear aA;go_wp2_with fail;go_ret;refine⟨an,_,ar,ways,by rw[V.o,HU.o];exact C.o,rfl,fun _=>⟨by omega,by omega⟩,fun v hv=>?_⟩;rw[V.o,HU.o] at hv;simp at hv
 ·have aH:n=d:=ak d (by rw[hq]);subst aH;have aJ:=lZ hq;rw[hq] at C;rw[hq] at E;have HU:Hi (ir (aS k (t.sub 0)) l=bR (aS k (t.sub 0)) n [] r0):=ab (by unfold ir;rw[hq]);clear ao ai hq ak;simp only[Option.isNone_some] at C;simp only at E;have aK:Hi (k*r0.length<=k*l.length):=Nat.mul_le_mul_left k E.o;go_wp2_with fail
  go_loopw [12,13] (fun sv iv wr=>∃(i:Nat) (R:Bool) (r b:Bs) (eK:List (Bs×Int)) (eF:List (Bs×Bs)),i<=n/\iv=.int .i64 i/\sv=.string (ba b)/\b.length<=i*10000001/\Hi (uZ k t p st r0 n ar ways i R r b eK eF) /\
   Hi (KS wr B tb db s r R eK eF)/\Hi (gR tb w wr)/\Hi (T9 wr B w1.heap.size c 7 go co (.slice pn (texts c.names).length qn) (.slice pa (ints c.ats).length qa))) (fun _ iv _=>n-(intOf iv).toNat)
  case atStart=>exact⟨0,false,r0,[],ar,ways,by omega,rfl,rfl,by simp,⟨fun _=>⟨[],rfl,rfl,rfl,by simp[kids],by simp[kids],by omega,by omega,by omega⟩,fun h=>by simp at h⟩,C,an,aF⟩
  case round =>
   obtain⟨i,R,r,b,eK,eF,GB,rfl,rfl,a5,L,j,HF,m⟩:=hrel;have aL:=aI b;have a1:⟨#[91]⟩++ba b=ba (91::b):=bD [91] b;have a2:ba (91::b)++⟨#[93]⟩=ba (91::(b++[93])):=bD (91::b) [93];have y1:=aI (91::b);simp only[List.length_cons] at y1;have y2:¬(9223372036854775807<1+b.length):=by omega
   have y3:¬(9223372036854775807<b.length+1+1):=by omega
   obtain⟨_,_,K⟩:=j.o.block;have g3:=K.dw;clear K;cases R with
   | true =>
    obtain⟨q2,q3,q4⟩:=L.o.2 rfl;have ap:=ab q2;have aM:=ab q3;have aN:=ab q4;clear q2 q3 q4;rcases Nat.lt_or_ge i n with G|G
    all_goals
     first
      |(have hI:(i:Int)<(n:Int):=by omega)
      |(have hI:decide ((i:Int)<(n:Int))=false:=decide_eq_false (by omega)
        have aG:decide (i<n)=false:=decide_eq_false (by omega))
     clear G;go_wp2_with fail;go_ret;have h2:(k+1)*l.length=k*l.length+l.length:=Nat.succ_mul k _;have h3:=aK.o;have h4:=aM.o;have h5:=aN.o;refine⟨HF,_,eK,eF,by rw[V.o,HU.o,ap.o];exact j,rfl,fun _=>⟨by omega,by omega⟩,fun v hv=>?_⟩;rw[V.o,HU.o,ap.o] at hv;simp at hv
   | false =>
    by_cases G:i<n
    ·have hI:(i:Int)<(n:Int):=by omega
     have c1:=m.o.lg A.o;have c2:=m.o.of 0 F.o;obtain⟨vs,b1,b2,b3,b4,b5,b6,b7,b8⟩:=L.o.1 rfl;have aO:=ab (HI.o.ae j.o HF.o);have aP:=qM (i:Int);have aQ:=eZ p (gq i);have aq:=eZ st [42];simp only[List.length_cons,List.length_nil] at aq;have au:Hi (p.length+(gq i).length+1<=1000000):=by show _<=_;omega
     have av:Hi (st.length+[42].length+1<=1000000):=by show _<=_;simp;omega
     have ax:Hi (∀ W,Fr Zero wr W->Calls Tryz.prog 69 #[.pointer (some ⟨tb,0,none⟩),.int .i64 (aj c.of 0:Nat),.string (ba (under p (gq i))),.string (ba (under st [42]))] W fun e w'=>xR tb B db s eK eF k (t.sub 0) (under p (gq i)) (under st [42]) r W e w'):=fun W hf =>
      HV.o W B tb db s r eK eF tab roots _ (t.sub 0) _ _ (aO.o.quiet hf) T.o X.o (by omega) (by omega) (by have:=HR.o.less E.o;unfold Room at *;omega) (by have:=HM.o.down E.o;unfold Room at *;omega)
     clear b1 b2 b3 b4 b5 b6 b7 b8 aP aQ aq a1 a2 y1 y2 y3 aL
     by_cases aR:i=0
     ·subst aR;have z1:=aI b;have H:Hi (nr 0=[]):=rfl;go_wp2_with fail
      go_region_held3 (fun W=>W.cell? ⟨w1.heap.size,1,none⟩=some (.slice (some ⟨go,0,none⟩) 1 co)/\W.cell? ⟨go,0,none⟩=some (.int .i64 (aj c.of 0:Nat))) (first|exact⟨by assumption,by assumption⟩) (first|(go_at_call 136;refine(jK 0 (by omega) (by omega) _).mono ?_;rintro e w3 ⟨rfl,M⟩;have f:Hi (Fr Zero wr w3):=(Fr.drew Zero wr).trans M;have e1:=(m.o.quiet f.o).lg A.o;have e2:=(m.o.quiet f.o).of 0 F.o;clear M)|(go_at_call 135;refine(hZ _ _ _ (by first|exact au.o|exact av.o)).mono ?_;rintro e w' ⟨rfl,rfl⟩)|(go_at_call 69;refine(ax.o _ (f.o)).mono ?_;rintro e w4 ⟨u,ty,y,z,N,rfl,aY,O,P⟩;have aT:=aI ty;have aU:¬(9223372036854775807<b.length+ty.length):=(by omega);have q:Hi (Fr Zero wr _):=f.o;have g:=(m.o.quiet q.o).ae (j.o.quiet q.o) u;have d1:=g.lg A.o;have d2:=g.of 0 F.o;have Y:=ab g;have Z:=ab ((HF.o.trans (gR.quiet q.o j.o.lt)).trans u);have aa:=ab N;have ac:=ab O;have ad:=ab P;clear u N O P g))
      all_goals
       go_wp2_with fail
       go_roundw
       case rel =>
        have I:=L.o.good (i:=0) (by omega) X.o ac.o ad.o;rw[H.o] at I;exact⟨0+1,_,_,b++ty,y,z,by omega,by go_num,by rw[bD],by simp only[List.length_append];omega,ab (by simpa using I),aa,Z,Y⟩
       case measure=>simp[intOf];omega
     ·have z1:=aI (b++[44]);simp only[List.length_append,List.length_cons,List.length_nil] at z1;replace z1:(ba (b++[44])).size=b.length+1:=z1;have aZ:ba b++⟨#[44]⟩=ba (b++[44]):=bD b [44];have z0:=aI b;have n0:¬(9223372036854775807<b.length+1):=by omega
      have a0:(0:Int)<(i:Int):=by omega
      have a3:decide (0<i)=true:=decide_eq_true (by omega);have H:Hi (nr i=[44]):=if_neg (by omega);go_wp2_with fail
      go_region_held3 (fun W=>W.cell? ⟨w1.heap.size,1,none⟩=some (.slice (some ⟨go,0,none⟩) 1 co)/\W.cell? ⟨go,0,none⟩=some (.int .i64 (aj c.of 0:Nat))) (first|exact⟨by assumption,by assumption⟩) (first|(go_at_call 136;refine(jK i (by omega) (by omega) _).mono ?_;rintro e w3 ⟨rfl,M⟩;have f:Hi (Fr Zero wr w3):=(Fr.drew Zero wr).trans M;have e1:=(m.o.quiet f.o).lg A.o;have e2:=(m.o.quiet f.o).of 0 F.o;clear M)|(go_at_call 135;refine(hZ _ _ _ (by first|exact au.o|exact av.o)).mono ?_;rintro e w' ⟨rfl,rfl⟩)|(go_at_call 69;refine(ax.o _ (f.o)).mono ?_;rintro e w4 ⟨u,ty,y,z,N,rfl,aY,O,P⟩;have aT:=aI ty;have aU:¬(9223372036854775807<b.length+1+ty.length):=(by omega);have q:Hi (Fr Zero wr _):=f.o;have g:=(m.o.quiet q.o).ae (j.o.quiet q.o) u;have d1:=g.lg A.o;have d2:=g.of 0 F.o;have Y:=ab g;have Z:=ab ((HF.o.trans (gR.quiet q.o j.o.lt)).trans u);have aa:=ab N;have ac:=ab O;have ad:=ab P;clear u N O P g))
      all_goals
       go_wp2_with fail
       go_roundw
       case rel =>
        have I:=L.o.good (i:=i) (by omega) X.o ac.o ad.o;rw[H.o] at I;exact⟨i+1,_,_,(b++[44])++ty,y,z,by omega,by go_num,by rw[bD],by simp only[List.length_append,List.length_cons,List.length_nil];omega,ab (by simpa using I),aa,Z,Y⟩
       case measure=>simp[intOf];omega
    ·have ay:i=n:=by omega
     subst ay;have hI:¬(i:Int)<(i:Int):=by omega
     obtain⟨vs,b1,b2,b3,b4,b5,_⟩:=L.o.1 rfl;rw[Nat.sub_self] at b2;have af:Hi (ir (aS k (t.sub 0)) l=(some vs,r)):=HU.o.trans b2;have aV:=ab b3;have aW:=ab b4;have aX:=ab b5;clear b1 b2 b3 b4 b5;go_wp2_with fail;go_ret;have ag:=aD.o;refine⟨HF,_,eK,eF,by rw[V.o,af.o];exact j,rfl,fun dH=>?_,fun v hv=>?_⟩
     ·rw[V.o,af.o] at dH;simp at dH
     ·rw[V.o,af.o] at hv;simp at hv;subst hv;refine⟨?_,?_,?_⟩
      ·show _=ba (aw (k+1) ⟨t,0,[],vs⟩);rw[cz,if_neg (by omega),if_neg (by omega),if_neg (by omega),if_neg (by omega),if_pos ag,aV.o]
      ·rw[aW.o];simp[dI,bE,ou,ag]
      ·rw[aX.o];simp[iK,bE,stepOf,ag,Er]
theorem vI(hV:qQ k):GK k:=by
 intro w B A C s l ar ways m g x t p a h b d e iz c f;have z:=d.1
 by_cases j:t.kind<=2
 ·exact Fp p a h b j c
 obtain n|o|q|r|u|v|y|i:t.kind=3\/t.kind=4\/t.kind=5\/t.kind=6\/t.kind=7\/t.kind=8\/t.kind=9\/t.kind=10:=by omega
 ·exact Fq p a h b n c
 ·exact CZ p a h b o c
 ·exact CX p a h b q c
 ·exact A3 p a h b r c
 ·exact CY hV p a h b u d e iz c f
 ·exact yn hV p a h b v d e iz c f
 ·exact ym hV p a h b y d e iz c f
 ·exact yo hV p a h b i d e iz c f
theorem vz:∀ k,qQ k:=by
 intro k
 induction k with
 | zero=>intro w B d e s l ar ways b a x t p f h g c;exact c.elim
 | succ k ih=>exact CK (vI ih)
def Iq(w:World)(db:Nat)(data:ByteArray)(R:Option PV×Bs)(e:Ending)(w':World):Prop :=
 Fr Zero w w'/\((∃ v tb,R=(some v,[])/\e=.returned (.tuple #[.pointer (some ⟨tb,0,none⟩),.int .i64 0,.int .i64 0])/\KS w' w.heap.size tb db data [] false (dI 12 [] v) (cy 12 [] v)) \/
  ((¬∃ v,R=(some v,[]))/\e=.returned (.tuple #[.pointer none,.int .i64 6,.int .i64 (pos data R.2)])))
theorem mD(hD:DF w w.heap.size db tab roots)(hp:0<roots.length)(hl:roots.length<=1000)(htl:tab.length<=1000000)(t:PT)(hI:Is tab (aj roots (roots.length-1)) t)(hW:c8 12 t)(data:ByteArray)(hd:data.size<=1000):
  Calls Tryz.prog 49 #[.pointer (some ⟨db,0,none⟩),.string data] w fun e w'=>Iq w db data (aS 12 t data.data.toList) e w':=by
 have H:=ab hD;have I:=ab hI;have J:=ab hW;have K:¬(1000:Int)<(data.size:Int):=by omega
 have L:db<w.heap.size:=by
  obtain⟨g,au,P,_⟩:=hD.root hp;exact World.block_lt_of_cell? w _ P
 clear hD hI hW;go_enter Tryz.func49,Tryz.ntmps49;go_wp2_with fail;have j:=ab (H.o.ae (Fr.alloc (bk w.heap.size) w (.cells #[.pointer (some ⟨db,0,none⟩),.string data,.int .i64 0,.bool false,.slice none 0 0,.slice none 0 0] 108)));refine(vR j.o hp hl).mono ?_;rintro e E ⟨rfl,m,Q⟩;obtain rfl:=Q.symm;have k:Hi (Fr Zero w ((w.alloc (.cells #[.pointer (some ⟨db,0,none⟩),.string data,.int .i64 0,.bool false,.slice none 0 0,.slice none 0 0] 108)).drewN m)):=(Fr.alloc _ _ _).trans (Fr.drewN _ _ _)
 have u:Hi (KB ((w.alloc (.cells #[.pointer (some ⟨db,0,none⟩),.string data,.int .i64 0,.bool false,.slice none 0 0,.slice none 0 0] 108)).drewN m) w.heap.size db data data.data.toList false (.slice none 0 0) (.slice none 0 0)):=by
  obtain⟨R,n⟩:=tA data;refine⟨by rw[Array.length_toList];exact Nat.le_refl _,R,?_⟩;rw[n];exact af rfl _
 have x:Hi (KS ((w.alloc (.cells #[.pointer (some ⟨db,0,none⟩),.string data,.int .i64 0,.bool false,.slice none 0 0,.slice none 0 0] 108)).drewN m) w.heap.size w.heap.size db data data.data.toList false [] []) :=
  ⟨_,_,u.o,Nat.le_refl _,World.ownsRow_nil _ _ _ _,World.ownsRow_nil _ _ _ _⟩
 have y:=ab (j.o.ae (Fr.drewN (bk w.heap.size) _ m));generalize (w.alloc (.cells #[.pointer (some ⟨db,0,none⟩),.string data,.int .i64 0,.bool false,.slice none 0 0,.slice none 0 0] 108)).drewN m=E at *;have k9:data.data.toList.length<=1000:=by rw[Array.length_toList];exact hd
 have G:Hi (vk E w.heap.size w.heap.size db data data.data.toList [] [] tab roots):=⟨x.o,y.o,hd,htl,k.o.size⟩;go_wp2_with fail;refine(vz 12 E w.heap.size w.heap.size db data data.data.toList [] [] tab roots _ t [] [] G.o I.o J.o (by simp) (by simp) (by unfold Room;simp;omega) (by unfold Room;simp;omega)).mono ?_;rintro e S ⟨ao,T,dh,eV,i,rfl,_,_,p⟩;have M:=ab ao
 have c:Hi (Fr Zero w S):=by
  have:=G.o.ks.mH ao
  exact k.o.past this
 have d:=ab i;have z:=ab p;obtain⟨_,_,a⟩:=i.block;have A:=a.fM;have q:=a.dw;have f:=ab a;have l:=a.gj;clear ao i p a;rcases hr:aS 12 t data.data.toList with⟨_|v,r⟩
 ·rw[hr] at A q;have s:=ab hr;simp only[Option.isNone_none] at q;clear hr;go_wp2_with fail
  go_quiet (fail)
  go_wp2_with fail;go_ret3;rw[s.o];exact⟨c.o.trans (Fr.drewN _ _ _),.inr ⟨fun⟨v,h⟩=>by simp at h,rfl⟩⟩
 ·rw[hr] at A q l f;obtain⟨_,n,F⟩:=z.o v (by rw[hr]);rw[hr] at d;have s:=ab hr;simp only[Option.isNone_some] at q d;simp only at A l;rcases r with _|⟨b,r⟩
  ·have N:=f.o.end;have B:¬((pos data []:Nat):Int)<(data.size:Int):=by omega
   have C:Hi (dh=dI 12 [] v):=ab (by rw[n];simp);have D:Hi (eV=cy 12 [] v):=ab (by rw[F];simp);clear hr n F N;go_wp2_with fail;go_ret3;rw[s.o];refine⟨c,.inl ⟨v,w.heap.size,rfl,rfl,?_⟩⟩;rw[<-C.o,<-D.o];exact d
  ·have O:=f.o.next.1;have B:((pos data (b::r):Nat):Int)<(data.size:Int):=by omega
   clear hr n F;go_wp2_with fail
   go_quiet (fail)
   go_wp2_with fail;go_ret3;rw[s.o];exact⟨c.o.trans (Fr.drewN _ _ _),.inr ⟨fun⟨v,h⟩=>by simp at h,rfl⟩⟩
theorem uI(a:Option Addr)(data:ByteArray)(hs:data.size<=maxLen)(hd:1000<data.size):
  Calls Tryz.prog 49 #[.pointer a,.string data] w fun e w'=>Fr Zero w w'/\e=.returned (.tuple #[.pointer none,.int .i64 1,.int .i64 0]):=by
 unfold maxLen at hs;have b:(1000:Int)<(data.size:Int):=by omega
 go_enter Tryz.func49,Tryz.ntmps49;go_wp2_with fail;go_ret3;exact⟨Fr.refl _ _,rfl⟩
theorem tN:∀(l:List (Bs×Bs)) (i:Nat) (q:Bs×Bs),l[i]?=some q->(cj l)[i*2]?=some (.string (ba q.1))/\(cj l)[i*2+1]?=some (.string (ba q.2)):=by
 intro l
 induction l with
 | nil=>intro i q h;simp at h
 | cons p l ih =>
  intro i q h;have e:cj (p::l)=.string (ba p.1)::.string (ba p.2)::cj l:=rfl;rw[e];cases i with
  | zero=>simp at h;subst h;exact⟨rfl,rfl⟩
  | succ i =>
   rw[List.getElem?_cons_succ] at h;obtain⟨a,b⟩:=ih i q h;rw[show(i+1)*2=i*2+1+1 by omega];exact⟨a,b⟩
theorem KS.told{ar:List (Bs×Int)}{ways:List (Bs×Bs)}(h:KS w B tb db s l bad ar ways)(hn:ways≠[]):
  ∃ g au,w.cell? ⟨tb,5,none⟩=some (.slice (some ⟨g,0,none⟩) ways.length au)/\tb<w.heap.size/\g<w.heap.size/\∀(i:Nat) (q:Bs×Bs),ways[i]?=some q->w.cell? ⟨g,i*2,none⟩=some (.string (ba q.1))/\w.cell? ⟨g,i*2+1,none⟩=some (.string (ba q.2)):=by
 obtain⟨m,n,b,o,p,a⟩:=h;rcases a.2 with⟨q,c⟩|⟨g,au,d,rfl,r,t,_⟩
 ·exact absurd (List.length_eq_zero_iff.1 c) hn
 ·refine⟨g,au,b.n9,b.lt,(a.lt g rfl).2,fun i q hq=>?_⟩;have j:=(List.getElem?_eq_some_iff.1 hq).1;have k:=fi ways;obtain⟨e,f⟩:=tN ways i q hq;exact⟨(a.cellAt (i*2) (by omega)).trans e,(a.cellAt (i*2+1) (by omega)).trans f⟩
def CH(r:Option Bs):Ending :=
 match r with
 | none=>.returned (.tuple #[.string ⟨#[]⟩,.bool false])
 | some x=>.returned (.tuple #[.string (ba x),.bool true])
theorem zS{ar:List (Bs×Int)}{ways:List (Bs×Bs)}(h:KS w B tb db s l bad ar ways)(hn:ways≠[])(hl:ways.length<=1000000000)(path:ByteArray):
  Calls Tryz.prog 74 #[.pointer (some ⟨tb,0,none⟩),.string path] w fun e w'=>Fr Zero w w'/\e=CH (et (ways.drop 1) path.data.toList):=by
 obtain⟨g,au,D,k,t,u⟩:=h.told hn;have y:=ab u;have H:0<ways.length:=by cases ways;exact absurd rfl hn;simp
 clear h u hn;go_enter Tryz.func74,Tryz.ntmps74;go_wp2_with fail
 go_loopw [6] (fun iv wr=>∃ i:Nat,1<=i/\i<=ways.length/\iv=.int .i64 i/\Hi (Fr Zero w wr)/\Hi (et (ways.drop 1) path.data.toList=et (ways.drop i) path.data.toList)) (fun iv _=>ways.length-(intOf iv).toNat)
 case atStart=>exact⟨1,by omega,by omega,rfl,Fr.refl _ _,rfl⟩
 case round =>
  obtain⟨i,E,L,rfl,d,m⟩:=hrel;have I:wr.cell? ⟨tb,5,none⟩=some (.slice (some ⟨g,0,none⟩) ways.length au):=(d.o.cell (a:=⟨tb,5,none⟩) k (fun h=>h)).trans D
  by_cases z:i<ways.length
  ·have A:(i:Int)<(ways.length:Int):=by omega
   obtain⟨⟨f,n⟩,p⟩:∃ q,ways[i]?=some q:=⟨ways[i],by simp⟩;obtain⟨v,x⟩:=y.o i _ p
   have r:Hi (ways.drop i=(f,n)::ways.drop (i+1)):=by
    obtain⟨F,G⟩:=List.getElem?_eq_some_iff.1 p;show _=_;rw[List.drop_eq_getElem_cons F,G]
   have J:wr.cell? ⟨g,i*2,none⟩=some (.string (ba f)):=(d.o.cell (a:=⟨g,i*2,none⟩) t (fun h=>h)).trans v;have K:wr.cell? ⟨g,i*2+1,none⟩=some (.string (ba n)):=(d.o.cell (a:=⟨g,i*2+1,none⟩) t (fun h=>h)).trans x;clear p v x
   by_cases c:f=path.data.toList
   ·have C:((ba f).toList==path.toList)=true:=by rw[fJ];exact decide_eq_true (by rw[c,eC])
    have b:Hi (et (ways.drop 1) path.data.toList=some n):=by
     show _=_;rw[m.o,r.o,gK,if_pos c]
    clear c;go_wp2_with fail;go_ret2;refine⟨d,?_⟩;rw[List.drop_one] at b
    first|rw[b.o];rfl|(rw[List.drop_one,b.o];rfl)
   ·have C:((ba f).toList==path.toList)=false:=by rw[fJ];exact decide_eq_false (fun e=>c (by rw[<-e,dk]))
    have j:Hi (et (ways.drop 1) path.data.toList=et (ways.drop (i+1)) path.data.toList):=by
     show _=_;rw[m.o,r.o,gK,if_neg c]
    clear c;go_wp2_with fail;exact⟨⟨i+1,by omega,by omega,by simp,d,j⟩,by simp[intOf];omega⟩
  ·have A:¬(i:Int)<(ways.length:Int):=by omega
   have b:Hi (et (ways.drop 1) path.data.toList=none):=by
    show _=_;rw[m.o,List.drop_eq_nil_of_le (by omega),B4]
   go_wp2_with fail;go_ret2;refine⟨d,?_⟩;rw[List.drop_one] at b
   first|rw[b.o];rfl|(rw[List.drop_one,b.o];rfl)
theorem CT(hW:c8 (k+1) t)(hV:Valid (k+1) t v)(i:Nat):(stepOf v.of v.num i).length<=400:=by
 have a:∀ j,(t.name j).length<=400:=fun j=>by
  unfold PT.name;rcases h:t.names[j]? with _|n
  ·simp
  ·have b:=hW.2.2.2.2.2.1.2 n (List.mem_of_getElem? h);rw[Option.getD_some,Array.length_toList];exact b
 unfold stepOf;rw[hV.1]
 split
 ·have:=qL 20 i;omega
 split
 ·simp
 split
 ·exact a _
 ·exact a _
theorem CG:∀(k:Nat) (t:PT) (v:PV) (p:Bs),c8 k t->NE k t->Valid k t v->∀ a∈cy k p v,a.1.length<=p.length+k*401:=by
 intro k
 induction k with
 | zero=>intro t v p h;exact h.elim
 | succ k ih =>
  intro t v p c e d a b;simp only[cy] at b;rcases List.mem_cons.1 b with rfl|b
  ·show p.length<=_;omega
  ·obtain⟨j,x,_,_,f,g⟩:=lC _ _ b;obtain⟨i,l,m,n⟩:=(nj c e d).2.2 x (List.mem_iff_getElem?.2 ⟨_,f⟩);have o:=ih i x _ l m n a g;have q:=eZ p (stepOf v.of v.num j);have r:=CT c d j;omega
theorem tn{l:List (Bs×Bs)}{x:Bs}(h:et l p=some x):(p,x)∈l:=by
 induction l with
 | nil=>simp[et] at h
 | cons q l ih =>
  rw[gK] at h
  split at h
  ·rename_i e;simp at h;rw[<-e,<-h];simp
  ·exact List.mem_cons_of_mem _ (ih h)
theorem vE(s:ByteArray)(i:Nat):(s.extract 0 i).data.toList=s.data.toList.take i:=by
 simp[ByteArray.data_extract]
theorem Eo(hD:DF w w.heap.size db tab roots)(hp:0<roots.length)(hl:roots.length<=1000)(htl:tab.length<=1000000)(t:PT)(hI:Is tab (aj roots (roots.length-1)) t)(hW:c8 12 t)(hN:NE 12 t)(data path:ByteArray)(hd:data.size<=maxLen)(jq:path.size<=9223372036854775807):
  Calls Tryz.prog 52 #[.pointer (some ⟨db,0,none⟩),.string data,.string path] w fun e w'=>jM w (kg t data path) e w':=by
 have HD:=ab hD;have HI:=ab hI;have H:=ab hW;have X:=ab hN;clear hD hI hW hN;go_enter Tryz.func52,Tryz.ntmps52
 by_cases dJ:data.size<=1000
 ·have l:Hi (kg t data path=rX data path (aS 12 t data.data.toList)):=ab (by unfold kg;rw[if_pos dJ]);go_wp2_with fail;refine(mD HD.o hp hl htl t HI.o H.o data dJ).mono ?_;rcases hq:aS 12 t data.data.toList with⟨q,r⟩;have L:=ab hq;rw[hq] at l;clear hq;rintro e w2 ⟨ao,Z⟩;have d:=ab ao;rcases Z with⟨v,tb,hr,rfl,U⟩|⟨dH,rfl⟩
  ·simp only[Prod.mk.injEq] at hr;obtain⟨rfl,rfl⟩:=hr;obtain⟨C,V⟩:=jc 12 t _ _ _ H.o L.o;have Y:=ab U;have A:=ab C;have E:Hi (kg t data path=iR v path):=l;obtain⟨g,au,c5,W,hg,hc⟩:=U.told (by simp[cy])
   have M:(cy 12 [] v).length<=1000000000:=by
    have K:=(oo H.o L.o).2.2 [];have Z:data.data.toList.length<=1000:=by rw[Array.length_toList];exact dJ
    omega
   have c1:=(hc 0 ([],aw 12 v) rfl).2;simp only[Nat.zero_mul,Nat.zero_add] at c1;have mi:(0:Int)<(((cy 12 [] v).length:Nat):Int):=by simp[cy]
   have I:=ab M;clear ao C V U L l hc
   by_cases u:path=⟨#[]⟩
   ·subst u;have n:Hi (iR v ⟨#[]⟩=(ba (aw 12 v),0,0)):=ab (by unfold iR;rw[if_pos rfl]);generalize (cy 12 [] v).length=wl at *;go_wp2_with fail;go_ret3;rw[E.o,n.o];exact⟨d,rfl⟩
   ·have aa:(path.toList.isEmpty)=false:=by rw[mB];exact decide_eq_false u
    have HR:Hi (kF ((cy 12 [] v).drop 1) path.data.toList (path.data.toList.length+1) 0 0 []=iR v path):=Ba H.o X.o A.o path u;have m:Hi (path.data.toList.length=path.size):=ab (by rw[Array.length_toList];rfl);have B:Hi (∀ a∈cy 12 [] v,a.1.length<=4812):=fun a ha=>by have:=CG 12 t v [] H.o X.o A.o a ha;simpa using this
    have J:Hi (cy 12 [] v≠[]):=by show _≠_;simp[cy]
    clear u c1 mi c5 W hg;generalize N:cy 12 [] v=ways at *;clear N;go_wp2_with fail
    go_loopw [12,13,14] (fun sv tv iv wr=>∃(i step:Nat) (c:Bs),i<=path.size+1/\step<=i/\i<=9223372036854775807/\iv=.int .i64 i/\sv=.int .i64 step/\tv=.string (ba c)/\Hi (Fr Zero w2 wr)/\Hi (kF (ways.drop 1) path.data.toList (path.data.toList.length+1-i) i step c=iR v path)) (fun _ _ iv _=>path.size+1-(intOf iv).toNat)
    case atStart=>exact⟨0,0,[],by omega,by omega,by omega,rfl,rfl,rfl,Fr.refl _ _,HR⟩
    case round =>
     clear HR;obtain⟨i,step,c,hi,iz,Ai,rfl,rfl,rfl,G,D⟩:=hrel;have O:=ab (d.o.trans G.o)
     by_cases bZ:i<=path.size
     ·have hI:(i:Int)<=(path.size:Int):=by omega
      have b:Hi (path.data.toList.length+1-i=(path.data.toList.length-i)+1/\path.data.toList.length+1-(i+1)=path.data.toList.length-i):=by have:=m.o;exact⟨by omega,by omega⟩
      by_cases P:i<path.size
      ·have Q:(i:Int)<(path.size:Int):=by omega
       have iX:path.data.toList[i]?=some path[i]:=by
        rw[List.getElem?_eq_getElem (by rw[Array.length_toList];exact P)];rfl
       by_cases F:path[i]=47
       ·have n:Hi (¬(i<path.data.toList.length/\path.data.toList[i]?≠some 47)):=fun h=>h.2 (by rw[iX,F])
        have R:((path[i].toNat:Nat):Int)=47:=by rw[F];rfl
        clear iX F;go_wp2_with fail;refine(zS (Y.o.quiet G.o) J.o I.o (path.extract 0 i)).mono ?_;rintro e w3 ⟨s,k⟩;rw[vE] at k;have f:=ab (G.o.trans s);clear s;rcases hfd:et (ways.drop 1) (path.data.toList.take i) with _|x
        ·rw[hfd] at k
         have j:Hi (iR v path=(⟨#[]⟩,7,step)):=by
          show _=_;rw[<-D.o,b.o.1,kF,if_neg n.o,hfd]
         simp only[CH] at k;subst k;clear hfd;go_wp2_with fail;go_ret3;rw[E.o,j.o];exact⟨d.o.trans f.o,rfl⟩
        ·rw[hfd] at k;simp only[CH] at k;subst k
         by_cases y:i=0
         ·have j:Hi (iR v path=(⟨#[]⟩,7,step)):=by
           show _=_;rw[<-D.o,b.o.1,kF,if_neg n.o,hfd];simp only[y,if_true]
          have p:(i:Int)=0:=by omega
          clear hfd y;go_wp2_with fail;go_ret3;rw[E.o,j.o];exact⟨d.o.trans f.o,rfl⟩
         ·have j:Hi (kF (ways.drop 1) path.data.toList (path.data.toList.length+1-(i+1)) (i+1) (step+1) x=iR v path):=by
           show _=_;rw[<-D.o,b.o.1,b.o.2]
           conv=>rhs;rw[kF,if_neg n.o,hfd]
           simp only[if_neg y]
          have z:i<=4812:=by
           have K:=B.o _ (List.mem_of_mem_drop (tn hfd));simp only[List.length_take] at K
           have:=m.o
           omega
          have p:(i:Int)≠0:=by omega
          have S:((i:Int)==0)=false:=beq_eq_false_iff_ne.2 p;clear hfd y;go_wp2_with fail;exact⟨⟨i+1,step+1,x,by omega,by omega,by omega,by simp,by simp,rfl,f,j⟩,by simp[intOf];omega⟩
       ·have n:Hi (i<path.data.toList.length/\path.data.toList[i]?≠some 47):=⟨by have:=m.o;omega,by rw[iX];simpa using F⟩;have R:((path[i].toNat:Nat):Int)≠47:=fun e=>F (UInt8.toNat_inj.1 (by show path[i].toNat=47;omega))
        clear iX F
        have j:Hi (kF (ways.drop 1) path.data.toList (path.data.toList.length+1-(i+1)) (i+1) step c=iR v path):=by
         show _=_;rw[<-D.o,b.o.1,b.o.2]
         conv=>rhs;rw[kF,if_pos n.o]
        go_wp2_with fail;exact⟨⟨i+1,step,c,by omega,by omega,by omega,by simp,rfl,rfl,G,j⟩,by simp[intOf];omega⟩
      ·have Q:¬(i:Int)<(path.size:Int):=by omega
       have n:Hi (¬(i<path.data.toList.length/\path.data.toList[i]?≠some 47)):=fun h=>by have:=m.o;omega
       go_wp2_with fail;refine(zS (Y.o.quiet G.o) J.o I.o (path.extract 0 i)).mono ?_;rintro e w3 ⟨s,k⟩;rw[vE] at k;have f:=ab (G.o.trans s);clear s;rcases hfd:et (ways.drop 1) (path.data.toList.take i) with _|x
       ·rw[hfd] at k
        have j:Hi (iR v path=(⟨#[]⟩,7,step)):=by
         show _=_;rw[<-D.o,b.o.1,kF,if_neg n.o,hfd]
        simp only[CH] at k;subst k;clear hfd;go_wp2_with fail;go_ret3;rw[E.o,j.o];exact⟨d.o.trans f.o,rfl⟩
       ·rw[hfd] at k;simp only[CH] at k;subst k
        by_cases y:i=0
        ·have j:Hi (iR v path=(⟨#[]⟩,7,step)):=by
          show _=_;rw[<-D.o,b.o.1,kF,if_neg n.o,hfd];simp only[y,if_true]
         have p:(i:Int)=0:=by omega
         clear hfd y;go_wp2_with fail;go_ret3;rw[E.o,j.o];exact⟨d.o.trans f.o,rfl⟩
        ·have j:Hi (kF (ways.drop 1) path.data.toList (path.data.toList.length+1-(i+1)) (i+1) (step+1) x=iR v path):=by
          show _=_;rw[<-D.o,b.o.1,b.o.2]
          conv=>rhs;rw[kF,if_neg n.o,hfd]
          simp only[if_neg y]
         have z:i<=4812:=by
          have K:=B.o _ (List.mem_of_mem_drop (tn hfd));simp only[List.length_take] at K
          have:=m.o
          omega
         have p:(i:Int)≠0:=by omega
         have S:((i:Int)==0)=false:=beq_eq_false_iff_ne.2 p;clear hfd y;go_wp2_with fail;exact⟨⟨i+1,step+1,x,by omega,by omega,by omega,by simp,by simp,rfl,f,j⟩,by simp[intOf];omega⟩
     ·have hI:¬(i:Int)<=(path.size:Int):=by omega
      have j:Hi (iR v path=(ba c,0,0)):=by
       show _=_;rw[<-D.o,show path.data.toList.length+1-i=0 by have:=m.o;omega,kF]
      go_wp2_with fail;go_ret3;rw[E.o,j.o];exact⟨O,rfl⟩
  ·have T:=ab (Aj (data:=data) (path:=path) dH);clear ao dH;go_wp2_with fail;go_ret3;rw[l.o,T.o];exact⟨d,rfl⟩
 ·have l:Hi (kg t data path=(⟨#[]⟩,1,0)):=ab (by unfold kg;rw[if_neg dJ]);have nJ:1000<data.size:=by omega
  clear dJ;go_wp2_with fail;refine(uI _ data hd nJ).mono ?_;rintro e w2 ⟨(d:Hi _),rfl⟩;go_wp2_with fail;go_ret3;rw[l.o];exact⟨d,rfl⟩
end Go.Proofs.YtpffifpbpmlhdaaGreatDoor
