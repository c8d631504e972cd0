import Derived.Test.YtpffifpbpmlhdaaGreatDoorBsGPure
import Derived.Test.YtpffifpbpmlhdaaGreatDoorBsSStep
import Derived.Test.YtpffifpbpmlhdaaGreatDoorBsDRow
set_option maxHeartbeats 32000000
set_option maxRecDepth 100000
namespace Go.Proofs.YtpffifpbpmlhdaaGreatDoor.Q
open Go.RowKit
variable {w:World}{rb yb k B bb:Nat}{a:Addr}{t:PT}{R:PR}{v fv:Value}{xs:List Value}{X:Nat->Prop}
structure BM(w:World)(B bb rb yb:Nat)(a:Addr)(t:PT)(R:PR):Prop where
 b:w.heap[bb]?=some (.cells #[.pointer (some a),.pointer (some ⟨rb,0,none⟩)] 98 (0,0))
 r:∃ fv,RM w rb yb R fv
 t:TR w (bk B) a t
 x:∀ k,RX w rb yb k->B<=k
section
variable {w w':World} {B bb rb yb:Nat} {a:Addr} {t:PT} {R R':PR}
theorem BM.dM(h:BM w B bb rb yb a t R):w.cell? ⟨bb,0,none⟩=some (.pointer (some a)):=by rw[cell_of_heap h.b];rfl
theorem BM.cE(h:BM w B bb rb yb a t R):w.cell? ⟨bb,1,none⟩=some (.pointer (some ⟨rb,0,none⟩)):=by rw[cell_of_heap h.b];rfl
theorem BM.lt(h:BM w B bb rb yb a t R):rb<w.heap.size:=by obtain⟨fv,h1⟩:=h.r;exact h1.lt
theorem BM.le(h:BM w B bb rb yb a t R):B<=rb:=h.x rb (.inl rfl)
theorem BM.tr(h:BM w B bb rb yb a t R):TR w Zero a t:=h.t.aY (fun _ _ e=>e.elim)
theorem RX.quiet{w':World}(hf:Fr Zero w w')(hb:rb<w.heap.size)(h:RX w' rb yb k):RX w rb yb k:=by
 rcases h with h|h|⟨v,b,c⟩
 ·exact .inl h
 ·exact .inr (.inl h)
 ·exact .inr (.inr ⟨v,(hf.cell (a:=⟨rb,1,none⟩) hb (fun h=>h)).symm.trans b,c⟩)
theorem BM.quiet(h:BM w B bb rb yb a t R)(hf:Fr Zero w w'):BM w' B bb rb yb a t R:=by
 have c:=h.lt;obtain⟨d,e⟩:=h.r;exact⟨hf.ae h.b (fun h=>h),⟨d,e.quiet hf⟩,h.t.ae hf.dV,fun k hk=>h.x k (RX.quiet hf c hk)⟩
theorem BM.next{fh:Value}(h:BM w B bb rb yb a t R)(hf:iA rb yb w w')(h':RM w' rb yb R' fh):BM w' B bb rb yb a t R':=by
 have c:=h.lt;have bZ:=h.le;obtain⟨f,d⟩:=h.r;refine⟨hf.fr.ae h.b (d.eh h.b (by decide) (by decide) (by decide)),⟨fh,h'⟩,h.t.ae (hf.fr.mono (fun k _ e=>h.x k e)),fun k hk=>?_⟩;rcases Nat.lt_or_ge k w.heap.size with q|q
 ·exact h.x k (hf.own k q hk)
 ·omega
theorem BM.from(h:BM w B bb rb yb a t R)(hf:iA rb yb w w'):Fr (bk B) w w':=hf.fr.mono (fun k _ e=>h.x k e)
end
def xW(w:World)(B bb rb yb:Nat)(a:Addr)(t:PT)(R':PR)(w':World):Prop:=iA rb yb w w'/\BM w' B bb rb yb a t R'
theorem Fw(h:BM w B bb rb yb a t R)(hT:Tidy R)(data:ByteArray)(hd:data.size<=1000000000000000):
  Calls Tryz.prog 27 #[.pointer (some ⟨bb,0,none⟩),.string data] w fun e w'=>e=.returned (.int .i64 (eu R data.data.toList).1)/\xW w B bb rb yb a t (eu R data.data.toList).2 w':=by
 have g:=h.cE;obtain⟨i,d⟩:=h.r;go_enter Tryz.func27,Tryz.ntmps27;go_wp2_with fail;refine(lX d hT data hd).mono ?_;rintro e j ⟨rfl,(b:Hi _),fh,eU⟩;have c:=ab (h.next b eU);go_wp2_with fail;go_ret;exact⟨rfl,b,c⟩
theorem uT(h:BM w B bb rb yb a t R)(hl:R.fs.length<=1000000)(nM:1<=R.first)(jt:R.first<=1000000000000)(n:Int)(eQ:-9223372036854775808<=n)(ka:n<=9223372036854775807):
  Calls Tryz.prog 32 #[.pointer (some ⟨bb,0,none⟩),.int .i64 n] w fun e w'=>e=.returned (.int .i64 (gx R n).1)/\xW w B bb rb yb a t (gx R n).2 w':=by
 have g:=h.cE;obtain⟨i,d⟩:=h.r;go_enter Tryz.func32,Tryz.ntmps32;go_wp2_with fail;refine(lk d hl nM (by omega) n eQ ka).mono ?_;rintro e j ⟨rfl,(b:Hi _),fh,eU⟩;have c:=ab (h.next b eU);go_wp2_with fail;go_ret;exact⟨rfl,b,c⟩
theorem Cj(h:BM w B bb rb yb a t R):
  Calls Tryz.prog 33 #[.pointer (some ⟨bb,0,none⟩)] w fun e w'=>e=.returned (.int .i64 (gT R).1)/\xW w B bb rb yb a t (gT R).2 w':=by
 have g:=h.cE;obtain⟨i,d⟩:=h.r;go_enter Tryz.func33,Tryz.ntmps33;go_wp2_with fail;refine(vH d).mono ?_;rintro e j ⟨rfl,(b:Hi _),fh,eU⟩;have c:=ab (h.next b eU);go_wp2_with fail;go_ret;exact⟨rfl,b,c⟩
theorem Ck(h:BM w B bb rb yb a t R)(ht:taken R.fs<=1000000)(hl:R.fs.length<=1000000):
  Calls Tryz.prog 34 #[.pointer (some ⟨bb,0,none⟩)] w fun e w'=>e=.returned (jA R)/\Fr Zero w w':=by
 have q:=h.cE;have j:bb<w.heap.size:=lt_of_heap h.b;obtain⟨E,i⟩:=h.r;go_enter Tryz.func34,Tryz.ntmps34;go_wp2_with fail;refine(vS (i.quiet (Fr.alloc _ _ _)) ht hl).mono ?_;rintro e c ⟨rfl,(f:Hi _)⟩;have d:Hi (c.heap[w.heap.size]?=some (.cells #[.int .i64 0,.int .i64 0,.int .i64 0,.bool false] 68 (0,0))):=f.o.ae (af rfl _) (fun h=>h);have s:c.cell? ⟨w.heap.size,0,none⟩=some (.int .i64 0):=by rw[cell_of_heap d.o];rfl
 have u:c.cell? ⟨w.heap.size,1,none⟩=some (.int .i64 0):=by rw[cell_of_heap d.o];rfl
 have x:c.cell? ⟨w.heap.size,2,none⟩=some (.int .i64 0):=by rw[cell_of_heap d.o];rfl
 have y:c.cell? ⟨w.heap.size,3,none⟩=some (.bool false):=by rw[cell_of_heap d.o];rfl
 have g:∀ o,c.frozen? ⟨w.heap.size,o,none⟩=false:=fun o=>ak d.o
 have l:=g 0;have m:=g 1;have n:=g 2;have p:=g 3;unfold jA;go_wp2_with fail;refine bodyPost_ret (v:=jA R) ?_ rfl ⟨rfl,?_⟩
 ·rw[fw rfl];have e:=eL d.o (.int .i64 (taken R.fs)) (.int .i64 (aQ 0 R.fs)) (.int .i64 (aQ 1 R.fs)) (.bool R.shut);have z:=cell_of_heap (o:=0) e;have A:=cell_of_heap (o:=1) e;have C:=cell_of_heap (o:=2) e;have D:=cell_of_heap (o:=3) e
  go_simp
  try rfl
 ·exact((Fr.alloc Zero w _).trans f.o).past (Fr.four (fun b=>w.heap.size<=b) c w.heap.size _ _ _ _ (Nat.le_refl _))
def dt(t:PT)(R:PR)(n:Int)(path:ByteArray):ByteArray×Nat×Nat :=
 if(cD R n).2=0 then kg t (ba (cD R n).1) path else(⟨#[]⟩,(cD R n).2,0)
theorem m5(hK:Kept R)(n:Int):(cD R n).1.length<=1000:=by
 unfold cD
 split
 ·simp
 ·split
  ·simp
  ·rename_i f a;exact(hK _ f a).2
theorem FX(t:PT)(data path:ByteArray):(kg t data path).2.1<=10:=by
 unfold kg
 split
 ·rcases aS 12 t data.data.toList with⟨_|v,_|⟨b,l⟩⟩
  ·simp[rX]
  ·simp[rX]
  ·simp only[rX,iR]
   split
   ·simp
   ·rcases g9 v (bP path.data.toList) 0 with⟨_|u,n⟩<;>simp
  ·simp[rX]
 ·simp
theorem tC(R:PR)(n:Int):(cD R n).2<=13:=by
 unfold cD
 split
 ·simp
 ·split<;>simp
theorem B6(t:PT)(R:PR)(n:Int)(path:ByteArray):(dt t R n path).2.1<=100:=by
 unfold dt
 split
 ·have:=FX t (ba (cD R n).1) path;omega
 ·have:=tC R n;show(cD R n).2<=100;omega
theorem tp(h:BM w B bb rb yb a t R)(Ac:ey w)(hW:c8 12 t)(hK:Kept R)(hl:R.fs.length<=1000000)(nM:1<=R.first)(jt:R.first<=1000000000000)(n:Int)(eQ:-9223372036854775808<=n)(ka:n<=9223372036854775807)(path:ByteArray)(jq:path.size<=maxLen):
  Calls Tryz.prog 30 #[.pointer (some ⟨bb,0,none⟩),.int .i64 n,.string path] w fun e w'=>jM w (dt t R n path) e w':=by
 have p:=h.dM;have y:=h.cE;have kV:=lt_of_heap h.b;have aX:=m5 hK n;have bZ:=tC R n;obtain⟨A,j⟩:=h.r;go_enter Tryz.func30,Tryz.ntmps30;go_wp2_with fail;refine(tk j hK hl nM (by omega) n eQ ka).mono ?_;rintro e x ⟨rfl,(c:Hi _)⟩;have z:x.cell? ⟨bb,0,none⟩=some (.pointer (some a)):=(c.o.cell (a:=⟨bb,0,none⟩) kV (fun h=>h)).trans p
 by_cases d:(cD R n).2=0
 ·have f:Hi (dt t R n path=kg t (ba (cD R n).1) path):=ab (by unfold dt;rw[if_pos d]);rw[d];have u:(ba (cD R n).1).size<=maxLen:=by rw[aI];unfold maxLen;omega
  generalize ba (cD R n).1=data at *;go_wp2_with fail;refine(Ed _ a t data path (Ac.ae c.o (fun h=>h)) (h.quiet c.o).tr hW u jq).mono ?_;rintro e C ⟨ao,rfl⟩;have g:=ab (c.o.trans ao);go_wp2_with fail;go_ret3;rw[f.o];exact⟨g,rfl⟩
 ·have f:Hi (dt t R n path=(⟨#[]⟩,(cD R n).2,0)):=ab (by unfold dt;rw[if_neg d]);generalize (cD R n).2=m at *;have i:(m:Int)≠0:=by omega
  have v:((m:Int)==0)=false:=beq_eq_false_iff_ne.2 i;go_wp2_with fail;go_ret3;rw[f.o];exact⟨c,rfl⟩
def mg(t:PT)(R:PR)(value:ByteArray):Nat×Nat×PR :=
 if(gm ⟨#[]⟩ value (ay 12 t value.data.toList)).2.1=0 then((eu R (gm ⟨#[]⟩ value (ay 12 t value.data.toList)).1.data.toList).1,0,(eu R (gm ⟨#[]⟩ value (ay 12 t value.data.toList)).1.data.toList).2)
 else((gm ⟨#[]⟩ value (ay 12 t value.data.toList)).2.1,(gm ⟨#[]⟩ value (ay 12 t value.data.toList)).2.2,R)
theorem tt(s value:ByteArray)(r:Option PV×Bs):(gm s value r).1.size<=1000:=by
 rcases r with⟨_|v,_|⟨b,l⟩⟩
 ·exact Nat.zero_le _
 ·exact Nat.zero_le _
 ·unfold gm;simp only
  split
  ·rw[aI];assumption
  ·exact Nat.zero_le _
 ·exact Nat.zero_le _
theorem Al(s value:ByteArray)(r:Option PV×Bs):(gm s value r).2.1<=5:=by
 rcases r with⟨_|v,_|⟨b,l⟩⟩
 ·simp[gm]
 ·simp[gm]
 ·unfold gm;simp only
  split<;>simp
 ·simp[gm]
theorem wi(h:BM w B bb rb yb a t R)(hW:c8 12 t)(hT:Tidy R)(value:ByteArray)(hv:value.size<=140737488355328):
  Calls Tryz.prog 25 #[.pointer (some ⟨bb,0,none⟩),.string value] w fun e w'=>e=.returned (.tuple #[.int .i64 (mg t R value).1,.int .i64 (mg t R value).2.1])/\xW w B bb rb yb a t (mg t R value).2.2 w':=by
 have z:=h.dM;have s:=h.cE;have kV:=lt_of_heap h.b;have dK:=h.lt;go_enter Tryz.func25,Tryz.ntmps25;go_wp2_with fail;refine(Ek ⟨#[]⟩ _ a t value h.tr hW hv).mono ?_;rintro e x ⟨(d:Hi _),rfl⟩;have A:x.cell? ⟨bb,1,none⟩=some (.pointer (some ⟨rb,0,none⟩)):=(d.o.cell (a:=⟨bb,1,none⟩) kV (fun h=>h)).trans s;have i:=ab (h.quiet d);obtain⟨C,n⟩:=i.o.r;have dJ:=tt ⟨#[]⟩ value (ay 12 t value.data.toList);have bZ:=Al ⟨#[]⟩ value (ay 12 t value.data.toList);rcases hx:gm ⟨#[]⟩ value (ay 12 t value.data.toList) with⟨m,f,y⟩;have c:Hi (mg t R value=if f=0 then((eu R m.data.toList).1,0,(eu R m.data.toList).2) else(f,y,R)):=ab (by unfold mg;rw[hx]);rw[hx] at dJ bZ;simp only at dJ bZ ⊢
 by_cases g:f=0
 ·rw[if_pos g] at c;subst g;go_wp2_with fail;refine(lX n hT m (by omega)).mono ?_;rintro e D ⟨rfl,ao,fh,Eb⟩;have j:=ab ((iA.quiet d.o dK).trans ao);have k:=ab (i.o.next ao Eb);go_wp2_with fail;go_ret2;rw[c.o];exact⟨rfl,j,k⟩
 ·rw[if_neg g] at c;have l:(f:Int)≠0:=by omega
  have v:((f:Int)==0)=false:=beq_eq_false_iff_ne.2 l;go_wp2_with fail;go_ret2;rw[c.o];exact⟨rfl,iA.quiet d.o dK,i.o⟩
def kO(t:PT)(R:PR):Nat×ByteArray×Nat×PR :=
 if(aN R).2.1=0 then
  if(dt t (aN R).2.2 (aN R).1 ⟨#[]⟩).2.1=0 then((aN R).1,(dt t (aN R).2.2 (aN R).1 ⟨#[]⟩).1,0,(aN R).2.2)
  else((aN R).1,⟨#[]⟩,6,(gx (aN R).2.2 (aN R).1).2)
 else(0,⟨#[]⟩,(aN R).2.1,R)
theorem vw{l:List PF}{i:Nat}(h:iI l=some i):i<l.length:=by
 unfold iI at h;exact(List.findIdx?_eq_some_iff_getElem.1 h).1
theorem sx(R:PR):(aN R).2.2.fs.length=R.fs.length/\(aN R).2.2.first=R.first/\(aN R).1<=R.first+R.fs.length/\(aN R).2.1<=12:=by
 unfold aN
 split
 ·rename_i i a;refine⟨by simp[aZ],rfl,?_,by simp⟩
  have:=vw a
  show R.first+i<=_;omega
 ·refine⟨rfl,rfl,by simp,?_⟩
  show(if R.shut then 12 else 11)<=12
  split<;>omega
theorem xE(h:BM w B bb rb yb a t R)(Ac:ey w)(Cr:4<B)(hW:c8 12 t)(hF:Fit R)(hl:R.fs.length<=1000000)(jt:R.first<=1000000000):
  Calls Tryz.prog 28 #[.pointer (some ⟨bb,0,none⟩)] w fun e w'=>e=.returned (.tuple #[.int .i64 (kO t R).1,.string (kO t R).2.1,.int .i64 (kO t R).2.2.1])/\xW w B bb rb yb a t (kO t R).2.2.2 w':=by
 have c:=ab hF.take;have U:=h.cE;have kV:=lt_of_heap h.b;have dK:=h.lt;obtain⟨x,lh,ka,k⟩:=sx R;obtain⟨X,L⟩:=h.r
 have d:Hi (kO t R=if(aN R).2.1=0 then
  if(dt t (aN R).2.2 (aN R).1 ⟨#[]⟩).2.1=0 then((aN R).1,(dt t (aN R).2.2 (aN R).1 ⟨#[]⟩).1,0,(aN R).2.2)
  else((aN R).1,⟨#[]⟩,6,(gx (aN R).2.2 (aN R).1).2)
 else(0,⟨#[]⟩,(aN R).2.1,R)):=rfl
 have l:Hi ((aN R).2.1≠0->(aN R).2.2=R):=by
  unfold aN
  split
  ·exact fun h=>absurd rfl h
  ·exact fun _=>rfl
 go_enter Tryz.func28,Tryz.ntmps28;go_wp2_with fail;refine(jZ L hl (by omega)).mono ?_;rintro e Y ⟨rfl,j,Q,eU⟩;have f:=ab (h.next j eU);have V:=f.o.cE;have C:=ab (Ac.ae (h.from j) (fun e=>by unfold bk at e;omega));rcases hq:aN R with⟨n,I,R1⟩;rw[hq] at f d l c x lh ka k;simp only at x lh ka k f d l c ⊢
 by_cases s:I=0
 ·rw[if_pos s] at d;subst s;go_wp2_with fail;refine(tp f.o C.o hW c.o.kept (by omega) c.o.first (by omega) n (by omega) (by omega) ⟨#[]⟩ (by decide)).mono ?_;rintro e Z ⟨ao,rfl⟩;have g:=ab (f.o.quiet ao);have u:=ab (j.trans (iA.quiet ao f.o.lt));have W:=g.o.cE;rcases hx:dt t R1 n ⟨#[]⟩ with⟨x0,A,x2⟩
  have P:A<=100:=by
   have K:(dt t R1 n ⟨#[]⟩).2.1<=100:=B6 t R1 n _;rw[hx] at K;exact K
  rw[hx] at d;simp only at d ⊢
  by_cases i:A=0
  ·rw[if_pos i] at d;subst i;go_wp2_with fail;go_ret3;rw[d.o];exact⟨rfl,u,g⟩
  ·rw[if_neg i] at d;have m:(A:Int)≠0:=by omega
   have D:((A:Int)==0)=false:=beq_eq_false_iff_ne.2 m;obtain⟨S,y⟩:=g.o.r;go_wp2_with fail;refine(lk y (by omega) c.o.first (by omega) n (by omega) (by omega)).mono ?_;rintro e w3 ⟨rfl,p,T,z⟩;have F:=ab (g.o.next p z);have G:=ab (u.o.trans p);go_wp2_with fail;go_ret3;rw[d.o];exact⟨rfl,G,F⟩
 ·rw[if_neg s] at d;have v:=l.o s;subst v;have m:(I:Int)≠0:=by omega
  have D:((I:Int)==0)=false:=beq_eq_false_iff_ne.2 m;go_wp2_with fail;go_ret3;rw[d.o];exact⟨rfl,j,f⟩
def Hv(w:World)(s:ByteArray)(g:Nat)(e:Ending)(w':World):Prop :=
 Fr Zero w w'/\((aL s≠(0,0)/\e=.returned (.tuple #[.pointer none,.int .i64 (aL s).1,.int .i64 (aL s).2])) \/
  (aL s=(0,0)/\∃ B bb rb yb a,e=.returned (.tuple #[.pointer (some ⟨bb,0,none⟩),.int .i64 0,.int .i64 0])/\w.heap.size<=B/\w.heap.size<=bb/\BM w' B bb rb yb a (iJ s) (jQ g)))
theorem yV(s:ByteArray)(g:Nat)(h2:2<=g)(tj:g<=64)(w:World)(hw:Words w)(GC:m8 w)(hs:s.size<=maxLen):
  Calls Tryz.prog 37 #[.string s,.int .i64 g] w fun e w'=>Hv w s g e w':=by
 go_enter Tryz.func37,Tryz.ntmps37;go_wp2_with fail;refine(pP s _ hw GC hs).mono ?_;rintro e q ⟨i,a,rfl,dq⟩
 by_cases l:(aL s).1=0
 ·have d:=kl l;obtain⟨x,rfl,r⟩:=dq d;rw[d];go_wp2_with fail;refine(z6 g h2 tj _).mono ?_;rintro e y ⟨rfl,ao,Eb⟩;have f:=ab (ao);have j:=ab Eb;go_wp2_with fail;go_ret3;have dJ:=f.o.size;refine⟨i.trans (f.o.trans (Fr.alloc _ _ _)),.inr ⟨d,q.heap.size,y.heap.size,q.heap.size+1,q.heap.size,x,rfl,i.size,Nat.le_trans i.size dJ,⟨af rfl _,⟨_,j.o.quiet (Fr.alloc _ _ _)⟩,?_,?_⟩⟩⟩
  ·exact(r.aY (fun b hb e=>by unfold bk at e;omega)).ae (f.o.trans (Fr.alloc _ _ _)).dV
  ·intro k z;rcases RX.of (j.o.quiet (Fr.alloc Zero _ _)) z with h|h|h
   ·omega
   ·omega
   ·simp[al] at h
 ·have d:aL s≠(0,0):=fun e=>l (by rw[e])
  have p:(((aL s).1:Nat):Int)≠0:=by omega
  have v:((((aL s).1:Nat):Int)==0)=false:=beq_eq_false_iff_ne.2 p;go_wp2_with fail;go_ret3;exact⟨i,.inl ⟨d,rfl⟩⟩
def qC:List TypeId:=[121,5,125,38,50,31,41,39,47,45]
def dR(w:World)(X:Nat->Prop):Prop:=∀(k:Nat) (cs:Array Value) (t:TypeId) (f:Nat×Nat),w.heap[k]?=some (.cells cs t f)->X k->t∈qC
section
variable {w w':World} {Y:Nat->Prop}
theorem dR.zero(w:World):dR w Zero:=fun _ _ _ _ _ h=>h.elim
theorem dR.not(h:dR w Y){cs:Array Value}{t:TypeId}{f:Nat×Nat}(hk:w.heap[k]?=some (.cells cs t f))(ht:t∉qC):¬Y k:=fun hy=>ht (h k cs t f hk hy)
theorem rL{base:Nat}{e:TypeId}{size:Nat}{n:Nat}(h:w.ownsRow base e size v n xs){g:Nat}(hg:v.ownBlock=some g):∃ cur,w.heap[g]?=some (.cells cur e (0,0)):=by
 rcases h.2 with⟨b,_⟩|⟨c,au,cur,d,f,a,r⟩
 ·rw[b] at hg;simp[Value.ownBlock] at hg
 ·rw[d] at hg;obtain rfl:c=g:=Option.some.inj hg;exact⟨cur,a⟩
theorem fy{base:Nat}{e:TypeId}{size:Nat}{n:Nat}(h:w.ownsRow base e size v n xs)(hf:Fr Y w w')(hY:dR w Y)(he:e∉qC):w'.ownsRow base e size v n xs :=
 ag h hf (fun g hg=>by
  obtain⟨cur,hc⟩:=rL h hg
  exact hY.not hc he)
theorem zL(hf:Fr Y w w')(hY:dR w Y):∀(k:Nat) (a:Addr) (t:PT),lf w X k a t->lf w' X k a t:=by
 intro k
 induction k with
 | zero=>intro a t h;exact h.elim
 | succ k ih =>
  intro a t h;obtain⟨b,e,c,f,d,g,i,l,m,n,o⟩:=h;exact⟨b,e,c,f,hf.ae d (hY.not d (by decide)),g,fy i hf hY (by decide),l,m,n,fun j p u hp hu=>ih p.2 u (o j p u hp hu)⟩
theorem EL(h:TR w X a t)(hf:Fr Y w w')(hY:dR w Y):TR w' X a t:=by
 obtain⟨k,h⟩:=h;exact⟨k,zL hf hY k a t h⟩
theorem qR{e:TypeId}(h:SL w X e v xs)(hf:Fr Y w w')(hY:dR w Y)(he:e∉qC):SL w' X e v xs:=⟨fy h.1 hf hY he,h.2⟩
def DG(w:World)(db:Nat)(tab:List RT)(roots:List Nat):Prop :=
 ∃(X:Nat->Prop) (s:ByteArray) (n:Nat) (tv lv av rv:Value) (lines:List ByteArray) (ats:List Nat) (B0:Nat),DS w X db s n false tv lv av rv tab/\LD w B0 lv av rv lines ats roots
theorem DG.df{db:Nat}{tab:List RT}{roots:List Nat}(h:DG w db tab roots):DF w w.heap.size db tab roots:=by
 obtain⟨X,s,n,c,d,e,f,a,b,B0,g,i⟩:=h;exact⟨w,X,s,n,c,d,e,f,a,b,B0,Nat.le_refl _,Fr.refl _ _,g,i⟩
theorem DG.ae{db:Nat}{tab:List RT}{roots:List Nat}(h:DG w db tab roots)(hf:Fr Y w w')(hY:dR w Y):DG w' db tab roots:=by
 obtain⟨X,s,n,g,i,k,l,a,d,B0,⟨e,b,m,f⟩,c⟩:=h;refine⟨X,s,n,g,i,k,l,a,d,B0,⟨hf.ae e (hY.not e (by decide)),b,fy m hf hY (by decide),f.1,fun j r t hr ht=>?_⟩,⟨fy c.sl hf hY (by decide),fy c.sa hf hY (by decide),fy c.sr hf hY (by decide),c.ne,c.base⟩⟩;obtain⟨o,p,q,u⟩:=f.2 j r t hr ht;exact⟨o,qR p hf hY (by decide),qR q hf hY (by decide),qR u hf hY (by decide)⟩
theorem DG.of{s:ByteArray}{a:Option Addr}(h:EM w s a):∃ db,a=some ⟨db,0,none⟩/\DG w db (bl (eT s)).2 (eT s).roots/\(bl (eT s)).2.length<=1000/\(eT s).roots.length<=1000:=by
 obtain⟨db,X,n,d,e,f,g,b,c,B0,i,j,k,l,m⟩:=h;exact⟨db,i,⟨X,s,n,d,e,f,g,b,c,B0,j,k⟩,l,m⟩
theorem RM.ae(hr:RM w rb yb R fv)(hf:Fr Y w w')(hx:∀ k,RX w rb yb k->¬Y k):RM w' rb yb R fv/\∀ k,RX w' rb yb k↔RX w rb yb k:=by
 have a:RM w' rb yb R fv :=
  ⟨hf.ae hr.r (hx _ (.inl rfl)),hf.ae hr.y (hx _ (.inr (.inl rfl))),hr.f.ae hf (fun g hg=>hx _ (.inr (.inr ⟨fv,hr.cE,hg⟩))),hr.g2,hr.g64,hr.len⟩
 refine⟨a,fun k=>?_⟩;unfold RX;rw[a.cE,hr.cE]
theorem BM.ae(h:BM w B bb rb yb a t R)(hf:Fr Y w w')(hY:dR w Y)(hx:∀ k,RX w rb yb k->¬Y k):BM w' B bb rb yb a t R/\∀ k,RX w' rb yb k↔RX w rb yb k:=by
 obtain⟨c,d⟩:=h.r;have k:=d.ae hf hx;exact⟨⟨hf.ae h.b (hY.not h.b (by decide)),⟨c,k.1⟩,EL h.t hf hY,fun j hj=>h.x j ((k.2 j).1 hj)⟩,k.2⟩
theorem RX.loose(h:RM w rb yb R fv):dR w (RX w rb yb):=fun k cs t f hk hx=>by
 rcases RX.of h hx with e|e|e
 ·subst e;rw[h.r] at hk;simp at hk;rw[<-hk.2.1];decide
 ·subst e;rw[h.y] at hk;simp at hk;rw[<-hk.2.1];decide
 ·rcases h.f with⟨q,_⟩|⟨fb,off,au,cur,q1,q2,_⟩
  ·rw[q] at e;simp[al] at e
  ·rw[q1] at e;simp[al] at e;subst e;rw[q2] at hk;simp at hk;rw[<-hk.2.1];decide
theorem QX.loose{qb:Nat}{Q:RR}(h:RQ w qb Q fv):dR w (QX w qb):=fun k cs t f hk hx=>by
 obtain⟨c,u,e1,e2⟩:=nz h hx;rw[e1] at hk;simp at hk;rw[<-hk.2.1];rcases e2 with rfl|rfl<;>decide
end
structure BP where
 B:Nat
 bb:Nat
 rb:Nat
 yb:Nat
 a:Addr
 t:PT
 R:PR
 cb:Nat
 db:Nat
 qb:Nat
 tab:List RT
 roots:List Nat
 Q:RR
structure GO(q:BP):Prop where
 hp:0<q.roots.length
 hl:q.roots.length<=1000
 htl:q.tab.length<=1000000
 hI:Is q.tab (aj q.roots (q.roots.length-1)) q.t
 hW:c8 12 q.t
 hN:NE 12 q.t
 hB:5<q.B/\4<q.B
structure me(w:World)(q:BP):Prop where
 bm:BM w q.B q.bb q.rb q.yb q.a q.t q.R
 c:w.heap[q.cb]?=some (.cells #[.pointer (some ⟨q.db,0,none⟩),.pointer (some ⟨q.qb,0,none⟩)] 44 (0,0))
 d:DG w q.db q.tab q.roots
 rq:∃ fv,RQ w q.qb q.Q fv
 same:dO q.R q.Q
 fit:Fit q.R
 good:GO q
def BX(w:World)(q:BP):Nat->Prop:=fun k=>RX w q.rb q.yb k\/QX w q.qb k
structure Gu(q q':BP)(w w':World):Prop where
 fr:Fr (BX w q) w w'
 own:∀ k,k<w.heap.size->BX w' q' k->BX w q k
 bb:q'.bb=q.bb
 cb:q'.cb=q.cb
 len:q'.Q.fs.length<=q.Q.fs.length+1
section
variable {w w1 w2:World} {q:BP}
theorem Gz{qb:Nat}{Q:RR}{fq:Value}(h:RQ w qb Q fq)(hr:RM w rb yb R fv)(hk:QX w qb k):¬RX w rb yb k:=by
 obtain⟨c,t,a,b⟩:=nz h hk;refine hr.eh a ?_ ?_ ?_
 all_goals
  rcases b with rfl|rfl<;>decide
theorem me.loose(h:me w q):dR w (BX w q):=fun k cs t f hk hx=>by
 obtain⟨fv,hr⟩:=h.bm.r;obtain⟨fq,hq⟩:=h.rq;rcases hx with e|e
 ·exact RX.loose hr k cs t f hk e
 ·exact QX.loose hq k cs t f hk e
theorem me.Iv(h:me w q)(hx:BX w q k):k<w.heap.size:=by
 obtain⟨l,a⟩:=h.bm.r;obtain⟨m,c⟩:=h.rq;rcases hx with e|e
 ·rcases RX.of a e with e|e|e
  ·rw[e];exact a.lt
  ·rw[e];exact lt_of_heap a.y
  ·rcases a.f with⟨b,_⟩|⟨n,d,au,g,b,i,_⟩
   ·rw[b] at e;simp[al] at e
   ·rw[b] at e;simp[al] at e;rw[<-e];exact lt_of_heap i
 ·obtain⟨o,t,j,_⟩:=nz c e;exact lt_of_heap j
theorem me.ae{Y:Nat->Prop}(h:me w q)(hf:Fr Y w w1)(hY:dR w Y)(hx:∀ k,BX w q k->¬Y k):me w1 q/\∀ k,BX w1 q k↔BX w q k:=by
 obtain⟨e,f⟩:=h.rq;have a:=h.bm.ae hf hY (fun k hk=>hx k (.inl hk));have b:=f.ae hf (fun k hk=>hx k (.inr hk));refine⟨⟨a.1,hf.ae h.c (hY.not h.c (by decide)),h.d.ae hf hY,⟨e,b.1⟩,h.same,h.fit,h.good⟩,fun k=>?_⟩;unfold BX;rw[a.2 k,b.2 k]
theorem me.prog{R':PR}(h:me w q)(hf:iA q.rb q.yb w w1)(_hM:BM w1 q.B q.bb q.rb q.yb q.a q.t R'):w1.heap[q.cb]?=some (.cells #[.pointer (some ⟨q.db,0,none⟩),.pointer (some ⟨q.qb,0,none⟩)] 44 (0,0))/\DG w1 q.db q.tab q.roots/\∃ fv,RQ w1 q.qb q.Q fv/\∀ k,QX w1 q.qb k↔QX w q.qb k:=by
 obtain⟨fv,e⟩:=h.bm.r;obtain⟨g,f⟩:=h.rq;have b:=RX.loose e;exact⟨hf.fr.ae h.c (b.not h.c (by decide)),h.d.ae hf.fr b,g,f.ae hf.fr (fun k hk=>Gz f e hk)⟩
theorem me.ref{R':PR}{Q':RR}{fh:Value}(h:me w q)(hf:iA q.rb q.yb w w1)(hM:BM w1 q.B q.bb q.rb q.yb q.a q.t R')(hq:RQ w1 q.qb q.Q fv)(hX:∀ k,QX w1 q.qb k↔QX w q.qb k)(hc:w1.heap[q.cb]?=some (.cells #[.pointer (some ⟨q.db,0,none⟩),.pointer (some ⟨q.qb,0,none⟩)] 44 (0,0)))(hd:DG w1 q.db q.tab q.roots)(lh:kq q.qb w1 w2)(iD:RQ w2 q.qb Q' fh)(hS:dO R' Q')(hF:Fit R')(hl:R'.first+R'.fs.length<=q.R.first+q.R.fs.length+1):
  me w2 { q with R:=R',Q:=Q' }/\Gu q { q with R:=R',Q:=Q' } w w2:=by
 obtain⟨i,d⟩:=hM.r;have c:=QX.loose hq;have b:=hM.ae lh.fr c (fun k b hx=>Gz hq d hx b);refine⟨⟨b.1,lh.fr.ae hc (c.not hc (by decide)),hd.ae lh.fr c,⟨fh,iD⟩,hS,hF,⟨h.good.hp,h.good.hl,h.good.htl,h.good.hI,h.good.hW,h.good.hN,h.good.hB⟩⟩,⟨(hf.fr.mono (fun k _ e=>.inl e)).trans (lh.fr.mono (fun k _ e=>.inr ((hX k).1 e))),fun k hk' hx=>?_,rfl,rfl,?_⟩⟩
 ·rcases hx with e|e
  ·exact .inl (hf.own k hk' ((b.2 k).1 e))
  ·exact .inr ((hX k).1 (lh.own k (Nat.lt_of_lt_of_le hk' hf.fr.size) e))
 ·have f:=h.same.len;have g:=hS.len;show Q'.fs.length<=q.Q.fs.length+1;omega
theorem me.quiet(h:me w q)(hf:Fr Zero w w1):me w1 q/\Gu q q w w1:=by
 have a:=h.ae hf (dR.zero w) (fun _ _ h=>h);exact⟨a.1,⟨hf.dV,fun k _ hx=>(a.2 k).1 hx,rfl,rfl,Nat.le_succ _⟩⟩
theorem Gu.jo{q':BP}(h:Gu q q w w1)(hl:Fr Zero w w1)(k:Gu q q' w1 w2):Gu q q' w w2 :=
 ⟨⟨k.fr.os.trans hl.os,k.fr.tape.trans hl.tape,k.fr.output.trans hl.output,Nat.le_trans hl.size k.fr.size,fun i hi hx=>(k.fr.block i (Nat.lt_of_lt_of_le hi hl.size) (fun e=>hx (h.own i hi e))).trans (hl.block i hi (fun e=>e))⟩,fun i hi hx=>h.own i hi (k.own i (Nat.lt_of_lt_of_le hi hl.size) hx),k.bb,k.cb,k.len⟩
theorem me.bounds(h:me w q)(hl:q.Q.fs.length<=5000000):q.R.fs.length<=64/\1<=q.R.first/\q.R.first<=6000000/\taken q.R.fs<=64:=by
 have d:=h.same.len;have a:=h.fit.tidy;have b:=a.len;have c:=h.fit.first;have e:=a.taken;have f:=h.fit.g64;exact⟨b,c,by omega,by omega⟩
end
def jD(s:ByteArray):Nat×Nat:=if aL s=(0,0) then(8,0) else aL s
theorem yU(s:ByteArray)(g:Int)(hg:g<2\/64<g)(w:World)(hw:Words w)(GC:m8 w)(hs:s.size<=maxLen):
  Calls Tryz.prog 37 #[.string s,.int .i64 g] w fun e w'=>Fr Zero w w'/\e=.returned (.tuple #[.pointer none,.int .i64 (jD s).1,.int .i64 (jD s).2]):=by
 have j:=ab hw;have k:=ab GC;clear hw GC;go_enter Tryz.func37,Tryz.ntmps37;go_wp2_with fail;refine(pP s _ j k hs).mono ?_;rintro e p ⟨c,a,rfl,dq⟩;have d:=ab c
 by_cases f:(aL s).1=0
 ·have b:=kl f;obtain⟨q,rfl,m⟩:=dq b;have h:Hi (jD s=(8,0)):=ab (by unfold jD;rw[if_pos b]);rw[b];clear c dq f b m;go_wp2_with fail;refine(zZ g hg _).mono ?_;rintro e r ⟨rfl,n⟩;obtain rfl:=n.symm;go_wp2;go_ret3;rw[h.o];exact⟨d,rfl⟩
 ·have b:aL s≠(0,0):=fun e=>f (by rw[e])
  have h:Hi (jD s=aL s):=ab (by unfold jD;rw[if_neg b]);have i:(((aL s).1:Nat):Int)≠0:=by omega
  have l:((((aL s).1:Nat):Int)==0)=false:=beq_eq_false_iff_ne.2 i;clear c dq f b;go_wp2;go_ret3;rw[h.o];exact⟨d,rfl⟩
theorem Et(s:ByteArray)(g:Int)(hg:g<2\/64<g)(w:World)(hs:s.size<=maxLen):
  Calls Tryz.prog 38 #[.string s,.int .i64 g] w fun e w'=>Fr Zero w w'/\e=.returned (.tuple #[.pointer none,.int .i64 (jD s).1,.int .i64 (jD s).2]):=by
 have i:=ab (tH s);go_enter Tryz.func38,Tryz.ntmps38;go_wp2_with fail;refine(vX s _ hs i.o.1).mono ?_;unfold lO;rw[<-i.o.2];rintro e m ⟨(c:Hi _),a,rfl,j⟩
 by_cases d:(aL s).1=0
 ·have b:=kl d;have f:Hi (jD s=(8,0)):=ab (by unfold jD;rw[if_pos b]);rw[b];clear d b j;go_wp2_with fail;refine(vT g hg _).mono ?_;rintro e n ⟨rfl,l⟩;obtain rfl:=l.symm;go_wp2;go_ret3;rw[f.o];exact⟨c,rfl⟩
 ·have b:aL s≠(0,0):=fun e=>d (by rw[e])
  have f:Hi (jD s=aL s):=ab (by unfold jD;rw[if_neg b]);have h:(((aL s).1:Nat):Int)≠0:=by omega
  have k:((((aL s).1:Nat):Int)==0)=false:=beq_eq_false_iff_ne.2 h;clear d b j;go_wp2;go_ret3;rw[f.o];exact⟨c,rfl⟩
def Hu(w:World)(s:ByteArray)(g:Nat)(e:Ending)(w':World):Prop :=
 Fr Zero w w'/\((aL s≠(0,0)/\e=.returned (.tuple #[.pointer none,.int .i64 (aL s).1,.int .i64 (aL s).2])) \/
  (aL s=(0,0)/\∃ cb db qb,e=.returned (.tuple #[.pointer (some ⟨cb,0,none⟩),.int .i64 0,.int .i64 0])/\w.heap.size<=qb /\
   w'.heap[cb]?=some (.cells #[.pointer (some ⟨db,0,none⟩),.pointer (some ⟨qb,0,none⟩)] 44 (0,0))/\DG w' db (bl (eT s)).2 (eT s).roots/\(bl (eT s)).2.length<=1000/\(eT s).roots.length<=1000/\RQ w' qb ⟨g,[],0,false⟩ (.slice none 0 0)))
theorem xG(s:ByteArray)(g:Nat)(h2:2<=g)(tj:g<=64)(w:World)(hs:s.size<=maxLen):
  Calls Tryz.prog 38 #[.string s,.int .i64 g] w fun e w'=>Hu w s g e w':=by
 have p:=ab (tH s);go_enter Tryz.func38,Tryz.ntmps38;go_wp2_with fail;refine(vX s _ hs p.o.1).mono ?_;unfold lO;rw[<-p.o.2];rintro e u ⟨(c:Hi _),a,rfl,l⟩
 by_cases h:(aL s).1=0
 ·have b:=kl h;have i:=ab b;obtain⟨v,rfl,q,m,n⟩:=DG.of (l b);have r:=ab q;rw[b];clear h b l q;go_wp2_with fail;refine(vU g h2 tj _).mono ?_;rintro e x ⟨rfl,(d:Hi _),f⟩;have j:=ab f;clear f;go_wp2;go_ret3;exact⟨c.o.trans (d.o.trans (Fr.alloc _ _ _)),.inr ⟨i.o,x.heap.size,v,u.heap.size,rfl,c.o.size,af rfl _,r.o.ae (d.o.trans (Fr.alloc Zero _ _)) (dR.zero _),m,n,j.o.quiet (Fr.alloc Zero _ _)⟩⟩
 ·have b:aL s≠(0,0):=fun e=>h (by rw[e])
  have i:=ab b;have k:(((aL s).1:Nat):Int)≠0:=by omega
  have t:((((aL s).1:Nat):Int)==0)=false:=beq_eq_false_iff_ne.2 k;clear h b l;go_wp2;go_ret3;exact⟨c,.inl ⟨i,rfl⟩⟩
end Go.Proofs.YtpffifpbpmlhdaaGreatDoor.Q
