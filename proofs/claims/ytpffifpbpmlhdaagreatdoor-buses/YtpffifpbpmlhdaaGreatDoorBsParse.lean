import Derived.Deep.RegionLaw
import Derived.Test.YtpffifpbpmlhdaaGreatDoorBsEPure
set_option maxHeartbeats 32000000
set_option maxRecDepth 100000
namespace Go.Proofs.YtpffifpbpmlhdaaGreatDoor
open Go.RowKit
variable {w w' w1:World}{X:Nat->Prop}{pb n base size f rb B:Nat}{s nm:ByteArray}{lv v:Value}{lines:List (ByteArray×PT)}{bad deep:Option Nat}{xs:List Value}{a:Addr}{t:PT}{rows:List (ByteArray×Addr)}{o:Obj}{fz:Nat×Nat}
theorem PS.cX(hX:X pb)(h:PS w X pb s n lv lines bad deep)(hf:Fr Zero w w'):PS w' X pb s n lv lines bad deep:=by
 obtain⟨g,i,b,c,d,a,e,f,hd⟩:=h;exact PS.step hX c d a e f hd hf.dV (hf.ae c (fun h=>h))
theorem PS.dM(h:PS w X pb s n lv lines bad deep):w.cell? ⟨pb,0,none⟩=some (.int .i64 n):=by
 obtain⟨c,d,a,b,_⟩:=h;exact b.dM
theorem nA(hX:X pb)(h:PS w X pb s n lv lines bad deep)(rZ:Nat):
  Calls Tryz.prog 206 #[.pointer (some ⟨pb,0,none⟩),.int .i64 rZ] w fun e w'=>e=.returned (.tuple #[])/\Fr (One pb) w w'/\PS w' X pb s n lv lines (orElse bad rZ) deep:=by
 obtain⟨m,j,a,c,i,d,k,l,hd⟩:=h;refine(pX rZ bad c l).mono ?_;rintro e w' ⟨rfl,b,f,g,kc⟩;exact⟨rfl,b,f,j,a,g,ag i b (nF c i),d,k.ae (b.one hX),kc,hd.ae c b⟩
theorem rJ(hX:X pb)(h:PS w X pb s n lv lines bad deep)(rZ:Nat):
  Calls Tryz.prog 182 #[.pointer (some ⟨pb,0,none⟩),.int .i64 rZ] w fun e w'=>e=.returned (.tuple #[])/\Fr (One pb) w w'/\PS w' X pb s n lv lines bad (orElse deep rZ):=by
 obtain⟨k,o,a,c,j,d,l,m,hd⟩:=h;refine(pe rZ deep c hd).mono ?_;rintro e w' ⟨rfl,b,f,g,i⟩;exact⟨rfl,b,k,f,a,g,ag j b (nF c j),d,l.ae (b.one hX),m.ae c b,i⟩
theorem sO(hX:X pb)(h:PS w X pb s n lv lines bad deep)(hs:s.size<=maxLen)(bZ:n<=s.size):
  Calls Tryz.prog 203 #[.pointer (some ⟨pb,0,none⟩)] w fun e w'=>e=.returned (.string (ax s n))/\Fr (One pb) w w'/\PS w' X pb s (ah s n 6) lv lines bad deep:=by
 obtain⟨k,l,c,d,g,a,i,j,hd⟩:=h;refine(xg d hs bZ).mono ?_;rintro e w' ⟨rfl,b,f⟩;exact⟨rfl,f,PS.step hX d g a i j hd f b⟩
theorem cq(hX:X pb)(h:PS w X pb s n lv lines bad deep)(hs:s.size<=maxLen)(bZ:n<=s.size)(c:Int)(hc:(aq s n:Int)≠c):
  Calls Tryz.prog 153 #[.pointer (some ⟨pb,0,none⟩),.int .u8 c] w fun e w'=>e=.returned (.bool false)/\Fr (One pb) w w'/\PS w' X pb s n lv lines bad deep:=by
 obtain⟨l,m,d,f,i,a,j,k,hd⟩:=h;refine(yQ f hs bZ c hc).mono ?_;rintro e w' ⟨rfl,b,g⟩;exact⟨rfl,g,PS.step hX f i a j k hd g b⟩
theorem dD(hX:X pb)(h:PS w X pb s n lv lines bad deep)(hs:s.size<=maxLen)(c:Int)(hc:(aq s n:Int)=c)(BU:c<256):
  Calls Tryz.prog 153 #[.pointer (some ⟨pb,0,none⟩),.int .u8 c] w fun e w'=>e=.returned (.bool true)/\Fr (One pb) w w'/\PS w' X pb s (n+1) lv lines bad deep:=by
 obtain⟨l,m,d,f,i,a,j,k,hd⟩:=h;refine(wJ f hs c hc BU).mono ?_;rintro e w' ⟨rfl,b,g⟩;exact⟨rfl,g,PS.step hX f i a j k hd g b⟩
theorem Fz(hX:X pb)(h:PS w X pb s n lv lines bad deep)(hs:s.size<=maxLen)(bZ:n<=s.size):
  Calls Tryz.prog 83 #[.pointer (some ⟨pb,0,none⟩)] w fun e w'=>e=.returned (.bool (decide (n=s.size)))/\Fr (One pb) w w'/\PS w' X pb s n lv lines bad deep:=by
 obtain⟨k,l,c,d,g,a,i,j,hd⟩:=h;refine(GX d hs bZ).mono ?_;rintro e w' ⟨rfl,b,f⟩;exact⟨rfl,f,PS.step hX d g a i j hd f b⟩
theorem oM(nm:ByteArray)(k:Nat)(hk:k<7)(he:wd k=nm)(w:World)(hw:Words w):
  Calls Tryz.prog 204 #[.string nm] w fun e w'=>e=.returned (.tuple #[.pointer (some ⟨w.heap.size,0,none⟩),.bool true])/\w'=w.alloc (.cells #[.int .i64 k,.slice none 0 0,.int .i64 1] 214):=by
 subst he;exact rl k hk w hw
theorem extract_empty{m:Nat}(h1:n<=m)(h2:m<=s.size):(s.extract n m=⟨#[]⟩)↔m=n:=by
 constructor
 ·intro h;have a:=congrArg ByteArray.size h;have b:(⟨#[]⟩:ByteArray).size=0:=rfl;rw[b] at a;simp[ByteArray.size_extract] at a;omega
 ·intro h;subst h;apply ByteArray.ext;simp
theorem mB(a:ByteArray):a.toList.isEmpty=decide (a=⟨#[]⟩):=by
 rw[<-fJ,ByteArray.toList_eq,ByteArray.toList_eq];cases a.data.toList<;>rfl
theorem qy(h:n<=s.size):(ax s n).toList.isEmpty=decide (ah s n 6=n):=by
 rw[mB]
 have:=extract_empty (s:=s) (d6 s 6 n) (gV s 6 n h)
 simp[ax,this]
def EO(w:World)(X:Nat->Prop)(pb:Nat)(s:ByteArray)(n:Nat)(lv:Value)(lines:List (ByteArray×PT))(br:List ByteArray)(bad deep:Option Nat)(e:Ending)(w':World):Prop :=
 Fr (One pb) w w'/\(∃ v,e=.returned (.tuple #[.string v,.bool (fF s n)])/\(fF s n=true->v=ax s n)) /\
  PS w' X pb s (ah s n 6) lv lines (if fF s n=true then di s br n bad else bad) deep
theorem wS(hX:X pb)(h:PS w X pb s n lv lines bad deep)(hw:Words w)(hs:s.size<=maxLen)(bZ:n<=s.size)
  (ov:Value) (orows:List (ByteArray×Addr)) (hol:orows.length<=1000) (hO:w.ownsRow 0 198 2 ov orows.length (aU orows)) (cF:∀ g,ov.ownBlock=some g->¬One pb g) :
  Calls Tryz.prog 190 #[.pointer (some ⟨pb,0,none⟩),ov] w fun e w'=>EO w X pb s n lv lines (orows.map (·.1)) bad deep e w':=by
 have E:=h.dM;have eQ:=ab (h.EZ hw);have G:=ab h;have H:=ab hw;have I:=ab hO;have J:=ab cF;have F:=ab (qy (s:=s) bZ);clear h hw hO cF;go_enter Tryz.func190,Tryz.ntmps190;go_wp2_with fail;refine(gw pb n _ E).mono ?_;rintro e N ⟨rfl,K⟩;obtain rfl:=K.symm;clear E;go_wp2_with fail;refine(sO hX G hs bZ).mono ?_;rintro e O ⟨rfl,(d:Hi _),u⟩;have i:=ab u;have p:=ab (H.o.ae d eQ);clear u;go_wp2_with fail;rcases hk:cY (ax s n) with _|k
 ·refine(mo (ax s n) _ p (kr hk)).mono ?_;rintro e L ⟨rfl,M⟩;obtain rfl:=M.symm
  by_cases m:ah s n 6=n
  ·have b:Hi (fF s n=false):=by simp[Hi,fF,m]
   have z:=F.o;rw[decide_eq_true m] at z;clear m hk;generalize ax s n=nm at *;go_wp2_with fail;go_ret2;refine⟨d,⟨⟨#[]⟩,by rw[b.o];rfl,fun h=>by rw[b.o] at h;cases h⟩,by rw[b.o];exact i⟩
  ·have b:Hi (fF s n=true):=by simp[Hi,fF,m,hk]
   have z:=F.o;rw[decide_eq_false m] at z;clear m hk;have A:=ab (ag I.o d J.o);generalize q:ax s n=nm at *;have f:=ab q;clear q;go_wp2_with fail;refine(xx ov orows nm 0 _ hol A).mono ?_;rintro e P ⟨rfl,l⟩;have r:=ab (d.o.trans l.dV);have t:=ab (PS.cX hX i l);clear l;have c:=xy (nm:=nm) (rows:=orows);unfold uC;rcases hfr:d8 nm orows with _|a
   ·rw[hfr] at c;have j:=ab c;clear c hfr;go_wp2_with fail;go_ret2;refine⟨r,⟨nm,by rw[b.o];rfl,fun _=>f.o.symm⟩,?_⟩;rw[b.o,if_pos rfl,di,f.o,<-j.o];exact t
   ·rw[hfr] at c;have j:=ab c;clear c hfr;go_wp2_with fail;refine(nA hX t n).mono ?_;rintro e Q ⟨rfl,v,x⟩;have B:=ab (r.o.trans v);have C:=ab x;clear v x;go_wp2_with fail;go_ret2;refine⟨B,⟨nm,by rw[b.o];rfl,fun _=>f.o.symm⟩,?_⟩;rw[b.o,if_pos rfl,di,f.o,<-j.o];exact C
 ·obtain⟨D,y⟩:=eY hk;have b:Hi (fF s n=false):=by simp[Hi,fF,hk]
  refine(oM (ax s n) k D y _ p).mono ?_;rintro e L ⟨rfl,rfl⟩;clear hk y;go_wp2_with fail;go_ret2;refine⟨d.o.trans (Fr.alloc _ _ _),⟨⟨#[]⟩,by rw[b.o];rfl,fun h=>by rw[b.o] at h;cases h⟩,by rw[b.o];exact PS.cX hX i (Fr.alloc _ _ _)⟩
theorem rO(l:List (ByteArray×PT))(q:ByteArray×PT):maxDepth (l++[q])=max (maxDepth l) q.2.depth:=by
 simp[maxDepth,List.foldl_append]
theorem rN(l:List (ByteArray×PT))(k:Nat)(q:ByteArray×PT)(h:l[k]?=some q):maxDepth (l.take (k+1))=max (maxDepth (l.take k)) q.2.depth:=by
 obtain⟨a,b⟩:=List.getElem?_eq_some_iff.1 h;rw[List.take_succ_eq_append_getElem a,b,rO]
theorem jE(l:List (ByteArray×PT))(D:Nat)(h:∀ q∈l,q.2.depth<=D):maxDepth l<=D:=by
 have:∀(m:List Nat) (a:Nat),a<=D->(∀ x∈m,x<=D)->m.foldl max a<=D:=by
  intro m
  induction m with
  | nil=>intro a b _;exact b
  | cons x m ih=>intro a b c;exact ih (max a x) (by have:=c x (by simp);omega) (fun y hy=>c y (by simp[hy]))
 unfold maxDepth;exact this _ 0 (by omega) (fun x hx=>by obtain⟨q,d,rfl⟩:=List.mem_map.1 hx;exact h q d)
theorem G1(a b:Nat):(if a<b then(b:Int) else(a:Int))=((max a b:Nat):Int):=by split<;>omega
theorem uh{e:TypeId}(h:w.ownsRow base e size v n xs):w.ownsRow 0 e size v n xs:=by
 refine⟨h.1,?_⟩;rcases h.2 with b|⟨g,au,a,c,d,r⟩
 ·exact .inl b
 ·exact .inr ⟨g,au,a,c,Nat.zero_le _,r⟩
theorem TR.depth(h:TR w X a t):∃ b,a=⟨b,0,none⟩/\b<w.heap.size/\¬X b/\w.cell? ⟨b,2,none⟩=some (.int .i64 t.depth):=by
 obtain⟨k,h⟩:=h;cases k with
 | zero=>exact h.elim
 | succ k =>
  obtain⟨b,g,c,e,d,f,_⟩:=h;exact⟨b,e,lt_of_heap d,f,by rw[cell_of_heap d];rfl⟩
theorem TR.n7(kind:Nat){sv:Value}{l:List (ByteArray×PT)}(hL:du w X rows l)(hO:w.ownsRow 0 198 2 sv rows.length (aU rows))(hx:∀ g,sv.ownBlock=some g->¬X g)
  {b:Nat} (hb:w.heap[b]?=some (.cells #[.int .i64 kind,sv,.int .i64 ((maxDepth l+1:Nat):Int)] 214 (0,0))) (hbx:¬X b):TR w X ⟨b,0,none⟩ (aP kind l):=by
 have:∀ m:Nat,m<=rows.length->∃ k,∀ j,j<m->∀ p q,rows[j]?=some p->l[j]?=some q->lf w X k p.2 q.2:=by
  intro m
  induction m with
  | zero=>intro _;exact⟨0,fun j hj=>by omega⟩
  | succ m ih =>
   intro f;obtain⟨k,c⟩:=ih (by omega);have aX:=hL.length;obtain⟨d,gg⟩:=hL.2 m rows[m] (l[m]'(by omega)) (by simp) (by simp);refine⟨max k d,fun j hj p q hp a=>?_⟩
   by_cases e:j<m
   ·exact lf.mono _ _ _ (c j e p q hp a) _ (by omega)
   ·have:j=m:=by omega
    subst this;obtain⟨_,rfl⟩:=List.getElem?_eq_some_iff.1 hp;obtain⟨_,rfl⟩:=List.getElem?_eq_some_iff.1 a;exact lf.mono _ _ _ gg _ (by omega)
 obtain⟨k,c⟩:=this rows.length (Nat.le_refl _);refine⟨k+1,b,sv,rows,rfl,hb,hbx,hO,hx,hL.1,by simp[aP,hL.length],fun j p u hp hu=>?_⟩;simp only[aP,List.getElem?_map,Option.map_eq_some_iff] at hu;obtain⟨q,a,rfl⟩:=hu;exact c j (List.getElem?_eq_some_iff.1 hp).1 p q hp a
theorem nQ(kind g au base:Nat)(rows:List (ByteArray×Addr))(l:List (ByteArray×PT))(X:Nat->Prop)(w:World)(aX:rows.length<=1000)(hD:∀ q∈l,q.2.depth<=1000000)(hL:du w X rows l)
  (hO:w.ownsRow base 198 2 (.slice (some ⟨g,0,none⟩) rows.length au) rows.length (aU rows)) (hgx:¬X g) (aH:∀ b,X b->b<w.heap.size) :
  Calls Tryz.prog 217 #[.int .i64 kind,.slice (some ⟨g,0,none⟩) rows.length au] w fun e w'=>Fr Zero w w'/\∃ a,e=.returned (.pointer (some a))/\TR w' X a (aP kind l):=by
 have A:g<w.heap.size:=(hO.lt g rfl).2;have j:=ab hL.length;go_enter Tryz.func217,Tryz.ntmps217;go_wp2_with fail
 go_loopw [5,10] (fun d i wr=>∃ k:Nat,k<=rows.length/\i=.int .i64 k/\d=.int .i64 (maxDepth (l.take k))/\Hi (Fr Zero w wr)) (fun _ i _=>rows.length-(intOf i).toNat)
 case atStart=>exact⟨0,by omega,rfl,rfl,Fr.refl _ _⟩
 case round =>
  obtain⟨k,H,rfl,rfl,f⟩:=hrel;have u:maxDepth (l.take k)<=1000000:=jE _ _ (fun q n=>hD q (List.mem_of_mem_take n))
  by_cases v:k<rows.length
  ·obtain⟨p,s⟩:∃ p,rows[k]?=some p:=⟨rows[k],by simp[v]⟩;obtain⟨q,n⟩:∃ q,l[k]?=some q:=⟨l[k]'(by have:=j.o;omega),by simp⟩;obtain⟨b,D,c,z,r⟩:=(hL.2 k p q s n).depth
   have qU:wr.cell? ⟨g,k*2,none⟩=some (.string p.1):=by
    rw[f.o.cell (a:=⟨g,k*2,none⟩) A (by intro h;exact h),hO.cellAt (k*2) (by omega)];exact(a8 rows k p s).1
   have G:wr.cell? ⟨g,k*2+1,none⟩=some (.pointer (some ⟨b,0,none⟩)):=by
    rw[f.o.cell (a:=⟨g,k*2+1,none⟩) A (by intro h;exact h),hO.cellAt (k*2+1) (by omega),<-D];exact(a8 rows k p s).2
   have ju:wr.cell? ⟨b,2,none⟩=some (.int .i64 q.2.depth):=by
    rw[f.o.cell (a:=⟨b,2,none⟩) c (by intro h;exact h)];exact r
   have kV:b<wr.heap.size:=Nat.lt_of_lt_of_le c f.o.size;go_wp2_with fail;exact⟨⟨k+1,by omega,by go_num,by rw[rN l k q n,G1],f.o.trans (Fr.alloc _ _ _)⟩,by simp[intOf];omega⟩
  ·have y:k=rows.length:=by omega
   subst y;have C:Hi (l.take rows.length=l):=by rw[j.o];exact List.take_length
   rw[C.o];rw[C.o] at u;go_wp2_with fail;go_ret;refine⟨f.o.trans (Fr.alloc _ _ _),⟨wr.heap.size,0,none⟩,rfl,?_⟩;have m:Fr X w (wr.alloc (.cells #[.int .i64 kind,.slice (some ⟨g,0,none⟩) rows.length au,.int .i64 ((maxDepth l:Int)+1)] 214)):=(f.o.trans (Fr.alloc _ _ _)).dV;refine TR.n7 kind (hL.ae m) (ag (uh hO) m (fun g' hg'=>?_)) (fun g' hg'=>?_) (af rfl _) (fun hx=>?_)
   ·simp[Value.ownBlock] at hg';subst hg';exact hgx
   ·simp[Value.ownBlock] at hg';subst hg';exact hgx
   ·have:=aH wr.heap.size hx
    have:=f.o.size
    omega
theorem uN(kind base:Nat)(v:Value)(rows:List (ByteArray×Addr))(l:List (ByteArray×PT))(X:Nat->Prop)(w:World)(aX:rows.length<=1000)(mi:0<rows.length)(hD:∀ q∈l,q.2.depth<=1000000)(hL:du w X rows l)
  (hO:w.ownsRow base 198 2 v rows.length (aU rows)) (hgx:∀ g,v.ownBlock=some g->¬X g) (aH:∀ b,X b->b<w.heap.size) :
  Calls Tryz.prog 217 #[.int .i64 kind,v] w fun e w'=>Fr Zero w w'/\∃ a,e=.returned (.pointer (some a))/\TR w' X a (aP kind l):=by
 rcases hO.2 with⟨_,d⟩|⟨g,au,c,rfl,_⟩
 ·omega
 ·exact nQ kind g au base rows l X w aX hD hL hO (hgx g rfl) aH
theorem TR.leaf{b:Nat}{kind depth:Nat}(hb:w.heap[b]?=some (.cells #[.int .i64 kind,.slice none 0 0,.int .i64 depth] 214 (0,0)))(hx:¬X b):TR w X ⟨b,0,none⟩ ⟨kind,depth,[],[]⟩ :=
 ⟨1,b,.slice none 0 0,[],rfl,hb,hx,World.ownsRow_nil _ _ _ _,fun g hg=>by simp[Value.ownBlock] at hg,rfl,rfl,fun j p u hp=>by simp at hp⟩
theorem uq{Y:Nat->Prop}(hX:∀ b,X b->b<w.heap.size)(hf:Fr Y w w'){k:Nat}(hk:w'.heap.size<=k):¬X k:=fun h=>by
 have:=hX k h
 have:=hf.size
 omega
theorem rM(hX:X pb)(h:PS w X pb s n lv lines bad deep)(hw:Words w)(aH:∀ b,X b->b<w.heap.size)(hs:s.size<=maxLen)(bZ:n<=s.size)(k9:lines.length<=1000):
  Calls Tryz.prog 209 #[.pointer (some ⟨pb,0,none⟩)] w fun e w'=>iT w X pb s lv lines deep (cL s lines n bad) e w':=by
 have J:=h.dM;have eQ:=ab (h.EZ hw);have O:=ab h;have P:=ab hw;have K:=ab aH;have L:=ab (qy (s:=s) bZ);have j:=ab (gV s 6 n bZ);go_enter Tryz.func209,Tryz.ntmps209;go_wp2_with fail;refine(gw pb n _ J).mono ?_;rintro e w0 ⟨rfl,U⟩;obtain rfl:=U.symm;go_wp2_with fail;refine(sO hX O hs bZ).mono ?_;rintro e V ⟨rfl,(f:Hi _),v⟩;have d:=ab v;have p:=ab (P.o.ae f eQ)
 by_cases l:ah s n 6=n
 ·have m:Hi (cL s lines n bad=cV n bad):=by simp[Hi,cL,l]
  have A:=L.o;rw[decide_eq_true l] at A;have B:=ab l;generalize ax s n=nm at *;go_wp2_with fail;go_ret2;rw[m.o];exact⟨f,bZ,⟨bad,by rw[B.o] at d;exact d,fun h=>by cases h⟩,none,rfl,fun h=>by cases h⟩
 ·have A:=L.o;rw[decide_eq_false l] at A;have B:=ab l
  have c:Hi (cL s lines n bad=match cY (ax s n) with
    | some k=>⟨true,PT.word k,ah s n 6,bad⟩
    | none=>match gJ (ax s n) lines with
     | some t=>⟨true,t,ah s n 6,bad⟩
     | none=>⟨true,PT.dummy,ah s n 6,orElse bad n⟩):=by simp only[Hi,cL];rw[if_neg B.o];rfl
  generalize ax s n=nm at *;go_wp2_with fail;rcases hk:cY nm with _|k
  ·refine(mo nm _ p (kr hk)).mono ?_;rintro e W ⟨rfl,Y⟩;obtain rfl:=Y.symm;rw[hk] at c;obtain⟨bn,td,i,M,N,E,F,G,H⟩:=d.o;have Q:=M.fM;have R:=ab F;have S:=ab N;have dK:i.length<=1000:=by rw[F.length];exact k9
   go_wp2_with fail;refine(xx lv i nm 0 _ dK S).mono ?_;rintro e w3 ⟨rfl,g⟩;have q:=ab (f.o.trans g.dV);have r:=ab (PS.cX hX d g);have C:=ab (R.o.ae g.dV);unfold uC;rcases C.o.find (nm:=nm) with⟨f1,f2⟩|⟨a,t,f1,f2,ht⟩
   ·rw[f1]
    have m:Hi (cL s lines n bad=⟨true,PT.dummy,ah s n 6,orElse bad n⟩):=by
     have:=c.o
     rw[f2] at this;exact this
    go_wp2_with fail;refine(nA hX r n).mono ?_;rintro e Z ⟨rfl,x,y⟩;have u:=ab (q.o.trans x);have D:=ab y;go_wp2_with fail;go_ret2;rw[m.o];exact⟨u.o.trans (Fr.alloc _ _ _),j,⟨_,PS.cX hX D (Fr.alloc _ _ _),fun _=>rfl⟩,some ⟨Z.heap.size,0,none⟩,rfl,fun _=>⟨_,rfl,TR.leaf (af rfl _) (uq K u.o (Nat.le_refl _))⟩⟩
   ·rw[f1]
    have m:Hi (cL s lines n bad=⟨true,t,ah s n 6,bad⟩):=by
     have:=c.o
     rw[f2] at this;exact this
    have T:=ab ht;go_wp2_with fail;go_ret2;rw[m.o];exact⟨q,j,⟨_,r,fun _=>rfl⟩,some a,rfl,fun _=>⟨_,rfl,T⟩⟩
  ·obtain⟨I,z⟩:=eY hk;refine(oM nm k I z _ p).mono ?_;rintro e W ⟨rfl,rfl⟩
   have m:Hi (cL s lines n bad=⟨true,PT.word k,ah s n 6,bad⟩):=by
    have:=c.o
    rw[hk] at this;exact this
   go_wp2_with fail;go_ret2;rw[m.o];exact⟨f.o.trans (Fr.alloc _ _ _),j,⟨_,PS.cX hX d (Fr.alloc _ _ _),fun _=>rfl⟩,some ⟨V.heap.size,0,none⟩,rfl,fun _=>⟨_,rfl,TR.leaf (af rfl _) (uq K f.o (Nat.le_refl _))⟩⟩
def gF(kind:Nat)(r:lN):lN:=if r.ok=false then cV r.n r.bad else⟨true,aP kind [(⟨#[]⟩,r.t)],r.n,r.bad⟩
theorem wL(w:World)(nm:ByteArray)(a:Addr):(w.alloc (.cells #[.string nm,.pointer (some a)] 198)).ownsRow 0 198 2 (.slice (some ⟨w.heap.size,0,none⟩) 1 1) 1 (aU [(nm,a)]) :=
 ⟨rfl,.inr ⟨w.heap.size,1,_,rfl,Nat.zero_le _,af rfl _,Nat.le_refl _,by unfold maxLen;omega,rfl,rfl⟩⟩
theorem zI(hT:iS s lines f)(hX:X pb)(h:PS w X pb s n lv lines bad deep)(hw:Words w)(aH:∀ b,X b->b<w.heap.size)
  (bZ:n<=s.size) (hf:s.size<n+f) (kind:Nat) (hd:(aJ s lines f n bad).t.depth<=1000000) :
  Calls Tryz.prog 207 #[.pointer (some ⟨pb,0,none⟩),.int .i64 kind] w fun e w'=>iT w X pb s lv lines deep (gF kind (aJ s lines f n bad)) e w':=by
 have D:=ab (hT w X pb n lv bad deep h hw hX aH bZ hf);generalize aJ s lines f n bad=r at *;go_enter Tryz.func207,Tryz.ntmps207;go_wp2_with fail;refine D.o.mono ?_;rintro e x ⟨(d:Hi _),y,⟨bd,z,c⟩,a,rfl,dq⟩;rcases hr:r.ok with _|_
 ·go_wp2_with fail;go_ret2;simp only[gF,hr,if_true];exact⟨d,y,⟨bd,z,fun h=>by cases h⟩,none,rfl,fun h=>by cases h⟩
 ·obtain⟨A,rfl,B⟩:=dq hr;have E:=ab (c hr);go_wp2_with fail;refine(nQ kind x.heap.size 1 0 [(⟨#[]⟩,A)] [(⟨#[]⟩,r.t)] X _ (by simp) (fun q hq=>by simp at hq;subst hq;exact hd) ?_ (wL x ⟨#[]⟩ A) (uq aH d.o (Nat.le_refl _)) (fun b hb=>?_)).mono ?_
  ·refine⟨rfl,fun j p q hp hq=>?_⟩;cases j with
   | zero=>simp at hp hq;subst hp hq;exact B.ae (Fr.alloc _ _ _)
   | succ j=>simp at hp
  ·have:=aH b hb
   have:=d.o.size
   simp;omega
  ·rintro e F ⟨ao,C,rfl,Cp⟩;have k:=ab (d.o.trans ((Fr.alloc _ _ _).trans ao.dV));have l:=ab (PS.cX hX z ((Fr.alloc _ _ _).trans ao));go_wp2_with fail;go_ret2;have e:gF kind r=⟨true,aP kind [(⟨#[]⟩,r.t)],r.n,r.bad⟩:=by simp[gF,hr]
   rw[e];exact⟨k,y,⟨bd,l,fun _=>E⟩,some C,rfl,fun _=>⟨C,rfl,Cp⟩⟩
def xS(w:World)(X:Nat->Prop)(pb:Nat)(s:ByteArray)(n:Nat)(lv:Value)(lines:List (ByteArray×PT))(deep:Option Nat)(r:lN)(e:Ending)(w':World):Prop :=
 Fr (One pb) w w'/\r.n<=s.size/\(∃ bd,PS w' X pb s r.n lv lines bd deep/\(r.ok=true->bd=r.bad)) /\
  ∃(nm:ByteArray) (a:Option Addr),e=.returned (.tuple #[.agg #[.string nm,.pointer a],.bool r.ok])/\(r.ok=true->nm=ax s n/\∃ a',a=some a'/\TR w' X a' r.t)
theorem pk{o':Obj}(hf:Fr X (w.alloc o) w')(hx:¬X w.heap.size)(he:o=o'):w'.heap[w.heap.size]?=some o':=by
 subst he;exact hf.ae (af rfl o) hx
theorem mn.GS{gh:Int}{r:Option Nat}{c:Array Value}{t:TypeId}(h:mn w gh v r)(dG:w.heap[rb]?=some (.cells c t fz))(ht:t≠156)(hf:Fr (One rb) w w'):mn w' gh v r:=by
 cases r with
 | none=>exact h
 | some m =>
  obtain⟨b,f,a⟩:=h;refine⟨b,f,hf.ae a (fun e=>?_)⟩;have d:b=rb:=e;subst d;rw[a] at dG;simp at dG;exact ht dG.2.1.symm
theorem PS.aY{Y:Nat->Prop}(h:PS w X pb s n lv lines bad deep)(od:∀ b,b<w.heap.size->Y b->X b)(hl:∀ g,lv.ownBlock=some g->Y g):PS w Y pb s n lv lines bad deep:=by
 obtain⟨c,d,a,e,f,i,j,k,hd⟩:=h;exact⟨c,d,a,e,f,hl,j.aY od,k,hd⟩
theorem PS.lx(h:PS w X pb s n lv lines bad deep):∀ g,lv.ownBlock=some g->X g:=by
 obtain⟨c,d,b,e,f,a,i,j,hd⟩:=h;exact a
theorem PS.other{c:Array Value}(h:PS w X pb s n lv lines bad deep)(dG:w.heap[rb]?=some (.cells c 198 fz))(IW:X rb)(hl:∀ g,lv.ownBlock=some g->g≠rb)(hf:Fr (One rb) w w'):PS w' X pb s n lv lines bad deep:=by
 obtain⟨i,j,a,b,k,d,l,m,hd⟩:=h;refine⟨i,j,a,hf.ae b (fun e=>?_),ag k hf (fun g hg e=>hl g hg e),d,l.ae (hf.one IW),m.GS dG (by decide) hf,hd.GS dG (by decide) hf⟩;have f:pb=rb:=e;subst f;unfold PB at b;rw[b] at dG;simp at dG
theorem Fr.oK(h:Fr X w w1)(ha:w.heap.size<=a.block)(v:Value):Fr X w (w1.setCell a v) :=
 ⟨h.os,h.tape,h.output,by simp[World.setCell];exact h.size,fun k hk hx=>by rw[Below.heap_setCell _ _ _ _ (by omega)];exact h.block k hk hx⟩
theorem tP{x y a b:Value}{t:TypeId}(h:w.heap[rb]?=some (.cells #[x,y] t fz)):((w.setCell ⟨rb,0,none⟩ a).setCell ⟨rb,1,none⟩ b).heap[rb]?=some (.cells #[a,b] t fz):=by
 rw[heap_setCell_same (heap_setCell_same h)];rfl
theorem Fr.two(w:World)(b:Nat)(x y:Value):Fr (One b) w ((w.setCell ⟨b,0,none⟩ x).setCell ⟨b,1,none⟩ y) :=
 (Fr.setCell (One b) w ⟨b,0,none⟩ x rfl).trans (Fr.setCell (One b) _ ⟨b,1,none⟩ y rfl)
def xT(X:Nat->Prop)(b:Nat):Nat->Prop:=fun k=>X k\/k=b
theorem xT.lt(hX:∀ b,X b->b<w.heap.size)(o:Obj):∀ b,xT X w.heap.size b->b<(w.alloc o).heap.size:=by
 intro b a;rcases a with h|h
 ·have:=hX b h;simp;omega
 ·simp;omega
theorem xT.old:∀ b,b<w.heap.size->xT X w.heap.size b->X b:=by
 intro b a h;rcases h with h|h
 ·exact h
 ·omega
theorem Dt(hT:iS s lines f)(hX:X pb)(h:PS w X pb s n lv lines bad deep)(hw:Words w)(aH:∀ b,X b->b<w.heap.size)(hs:s.size<=maxLen)
  (bZ:n<=s.size) (hf:s.size<n+f) (ov:Value) (orows:List (ByteArray×Addr)) (hol:orows.length<=1000) (hO:w.ownsRow 0 198 2 ov orows.length (aU orows)) (cF:∀ g,ov.ownBlock=some g->¬One pb g) (de:Nat) (Ha:de<256) :
  Calls Tryz.prog 181 #[.pointer (some ⟨pb,0,none⟩),ov,.int .u8 de] w fun e w'=>xS w X pb s n lv lines deep (aM (aJ s lines f) s (orows.map (·.1)) de n bad) e w':=by
 have jq:pb<w.heap.size:=aH pb hX;have eQ:=ab (h.EZ hw);have z:=ab h.lx;have k:xT X w.heap.size pb:=.inl hX;have HS:=ab (PS.cX (w':=w.alloc (.cells #[.string ⟨#[]⟩,.pointer none] 198)) k (h.aY xT.old (fun g hg=>.inl (h.lx g hg))) (Fr.alloc _ _ _));have HW:=ab (Words.ae hw (Fr.alloc Zero w (.cells #[.string ⟨#[]⟩,.pointer none] 198)) (fun h=>h));have HO:=ab (hO.alloc (.cells #[.string ⟨#[]⟩,.pointer none] 198));have Q:=ab (xT.lt aH (.cells #[.string ⟨#[]⟩,.pointer none] 198));have A:=gV s 6 n bZ;have aa:=d6 s 6 n;have B:Hi (∀ g,lv.ownBlock=some g->g≠w.heap.size):=fun g hg=>by have:=aH g (h.lx g hg);omega
 go_enter Tryz.func181,Tryz.ntmps181;go_wp2_with fail;refine(wS k HS HW hs bZ ov orows hol HO cF).mono ?_;rintro e F ⟨(t:Hi _),⟨v,rfl,P⟩,N⟩;have dG:F.heap[w.heap.size]?=some (.cells #[.string ⟨#[]⟩,.pointer none] 198 (0,0)):=pk t (fun e=>by have R:w.heap.size=pb:=e;omega) rfl;have C:=ab ((Fr.alloc _ _ _).trans t);have S:=ab (HW.o.ae t eQ);rcases hk:fF s n with _|_
 ·have J:Hi (aM (aJ s lines f) s (orows.map (·.1)) de n bad=cV (ah s n 6) bad):=by simp[Hi,aM,hk]
  rw[hk,if_neg (by simp)] at N;have c0:F.cell? ⟨w.heap.size,0,none⟩=some (.string ⟨#[]⟩):=by rw[cell_of_heap dG];rfl
  have c1:F.cell? ⟨w.heap.size,1,none⟩=some (.pointer none):=by rw[cell_of_heap dG];rfl
  have f0:F.frozen? ⟨w.heap.size,0,none⟩=false:=ak dG;have f1:F.frozen? ⟨w.heap.size,1,none⟩=false:=ak dG;go_wp2_with fail;have x:=tP (a:=.string ⟨#[]⟩) (b:=.pointer none) dG;have K:=cell_of_heap (o:=0) x;have L:=cell_of_heap (o:=1) x;refine bodyPost_ret (v:=.tuple #[.agg #[.string ⟨#[]⟩,.pointer none],.bool false]) (by simp[results,Tryz.results181,go_sem,K,L]) rfl ?_;rw[J.o];have ao:Fr (One w.heap.size) F ((F.setCell ⟨w.heap.size,0,none⟩ (.string ⟨#[]⟩)).setCell ⟨w.heap.size,1,none⟩ (.pointer none)):=Fr.two _ _ _ _;exact⟨(C.o.oK (Nat.le_refl _) _).oK (Nat.le_refl _) _,A,⟨bad,(PS.other N dG (.inr rfl) B ao).aY (fun b _ hb=>.inl hb) z,fun h=>by cases h⟩,⟨#[]⟩,none,rfl,fun h=>by cases h⟩
 ·rw[hk,if_pos rfl] at N;have p:=P hk;subst p
  by_cases I:aq s (ah s n 6)=de
  ·have J:Hi (aM (aJ s lines f) s (orows.map (·.1)) de n bad=aJ s lines f (ah s n 6+1) (di s (orows.map (·.1)) n bad)):=by simp[Hi,aM,hk,I]
   have D:Hi ((aq s (ah s n 6):Int)=de):=by simp[Hi,I]
   have T:ah s n 6+1<=s.size:=bt (by omega);generalize p:ax s n=nm at *;go_wp2_with fail;refine(dD k N hs de D (by omega)).mono ?_;rintro e u ⟨rfl,(j:Hi _),m⟩;go_wp2_with fail;refine(hT u (xT X w.heap.size) pb _ lv _ deep m (S.o.ae j eQ) k (fun b hb=>?_) T (by omega)).mono ?_
   ·exact Nat.lt_of_lt_of_le (Q b hb) (Nat.le_trans t.o.size j.o.size)
   generalize hr:aJ s lines f (ah s n 6+1) (di s (orows.map (·.1)) n bad)=r at *;rintro e G ⟨H,Z,⟨bd,O,y⟩,a,rfl,dq⟩
   have c:G.heap[w.heap.size]?=some (.cells #[.string ⟨#[]⟩,.pointer none] 198 (0,0)) :=
    H.ae (j.o.ae dG (fun e=>by have R:w.heap.size=pb:=e;omega)) (fun e=>by have R:w.heap.size=pb:=e;omega)
   have c0:G.cell? ⟨w.heap.size,0,none⟩=some (.string ⟨#[]⟩):=by rw[cell_of_heap c];rfl
   have c1:G.cell? ⟨w.heap.size,1,none⟩=some (.pointer none):=by rw[cell_of_heap c];rfl
   have f0:G.frozen? ⟨w.heap.size,0,none⟩=false:=ak c;have f1:G.frozen? ⟨w.heap.size,1,none⟩=false:=ak c;have V:=ab (C.o.trans (j.o.trans H));go_wp2_with fail;have x:=tP (a:=.string nm) (b:=.pointer a) c;have K:=cell_of_heap (o:=0) x;have L:=cell_of_heap (o:=1) x;refine bodyPost_ret (v:=.tuple #[.agg #[.string nm,.pointer a],.bool r.ok]) (by simp[results,Tryz.results181,go_sem,K,L]) rfl ?_;rw[J.o];have q:Fr (One w.heap.size) G ((G.setCell ⟨w.heap.size,0,none⟩ (.string nm)).setCell ⟨w.heap.size,1,none⟩ (.pointer a)):=Fr.two _ _ _ _
   exact⟨(V.o.oK (Nat.le_refl _) _).oK (Nat.le_refl _) _,Z,⟨bd,(PS.other O c (.inr rfl) B q).aY (fun b _ hb=>.inl hb) z,y⟩,nm,a,rfl,fun h=>⟨p.symm,by
    obtain⟨a',e,ht⟩:=dq h
    exact⟨a',e,(ht.ae (q.one (.inr rfl))).aY (fun b _ hb=>.inl hb)⟩⟩⟩
  ·have J:Hi (aM (aJ s lines f) s (orows.map (·.1)) de n bad=cV (ah s n 6) (di s (orows.map (·.1)) n bad)):=by simp[Hi,aM,hk,I]
   have D:Hi ((aq s (ah s n 6):Int)≠de):=fun e=>I (by omega)
   generalize ax s n=nm at *;go_wp2_with fail;refine(cq k N hs A de D).mono ?_;rintro e u ⟨rfl,ao,m⟩
   have c:u.heap[w.heap.size]?=some (.cells #[.string ⟨#[]⟩,.pointer none] 198 (0,0)) :=
    ao.ae dG (fun e=>by have R:w.heap.size=pb:=e;omega)
   have c0:u.cell? ⟨w.heap.size,0,none⟩=some (.string ⟨#[]⟩):=by rw[cell_of_heap c];rfl
   have c1:u.cell? ⟨w.heap.size,1,none⟩=some (.pointer none):=by rw[cell_of_heap c];rfl
   have f0:u.frozen? ⟨w.heap.size,0,none⟩=false:=ak c;have f1:u.frozen? ⟨w.heap.size,1,none⟩=false:=ak c;have j:=ab (C.o.trans ao);go_wp2_with fail;have x:=tP (a:=.string ⟨#[]⟩) (b:=.pointer none) c;have K:=cell_of_heap (o:=0) x;have L:=cell_of_heap (o:=1) x;refine bodyPost_ret (v:=.tuple #[.agg #[.string ⟨#[]⟩,.pointer none],.bool false]) (by simp[results,Tryz.results181,go_sem,K,L]) rfl ?_;rw[J.o];have q:Fr (One w.heap.size) u ((u.setCell ⟨w.heap.size,0,none⟩ (.string ⟨#[]⟩)).setCell ⟨w.heap.size,1,none⟩ (.pointer none)):=Fr.two _ _ _ _;exact⟨(j.o.oK (Nat.le_refl _) _).oK (Nat.le_refl _) _,A,⟨_,(PS.other m c (.inr rfl) B q).aY (fun b _ hb=>.inl hb) z,fun h=>by cases h⟩,⟨#[]⟩,none,rfl,fun h=>by cases h⟩
theorem zY(hT:iS s lines f)(hX:X pb)(h:PS w X pb s n lv lines bad deep)(hw:Words w)(aH:∀ b,X b->b<w.heap.size)(hs:s.size<=maxLen)
  (bZ:n<=s.size) (hf:s.size<n+f) (ov:Value) (orows:List (ByteArray×Addr)) (hol:orows.length<=1000) (hO:w.ownsRow 0 198 2 ov orows.length (aU orows)) (cF:∀ g,ov.ownBlock=some g->¬One pb g) (sg:Int) (de:Nat) (Ha:de<256) (he:sg=(de:Int)) :
  Calls Tryz.prog 181 #[.pointer (some ⟨pb,0,none⟩),ov,.int .u8 sg] w fun e w'=>xS w X pb s n lv lines deep (aM (aJ s lines f) s (orows.map (·.1)) de n bad) e w':=by
 subst he;exact Dt hT hX h hw aH hs bZ hf ov orows hol hO cF de Ha
def XO(X:Nat->Prop)(v:Value):Nat->Prop:=fun k=>X k\/v.ownBlock=some k
theorem Fr.past{w2:World}(h:Fr X w w1)(k:Fr (fun b=>w.heap.size<=b) w1 w2):Fr X w w2 :=
 ⟨k.os.trans h.os,k.tape.trans h.tape,k.output.trans h.output,Nat.le_trans h.size k.size,fun i hi hx=>(k.block i (Nat.lt_of_lt_of_le hi h.size) (by intro h';omega)).trans (h.block i hi hx)⟩
theorem bH{e:TypeId}(h:w.ownsRow base e size v n xs){g:Nat}(hg:v.ownBlock=some g):∃ cur,w.heap[g]?=some (.cells cur e (0,0)):=by
 rcases h.2 with⟨rfl,_⟩|⟨b,au,cur,rfl,c,a,r⟩
 ·simp[Value.ownBlock] at hg
 ·simp[Value.ownBlock] at hg;subst hg;exact⟨cur,a⟩
theorem PS.grow(h:PS w X pb s n lv lines bad deep){k:Nat}(ho:w.ownsRow base 198 size v k xs)
  (IW:∀ g,v.ownBlock=some g->X g) (hl:∀ g,lv.ownBlock=some g->v.ownBlock≠some g) (hg:w.grownBy w' v.ownBlock):PS w' X pb s n lv lines bad deep:=by
 cases hv:v.ownBlock with
 | none =>
  rw[hv] at hg;obtain⟨f,i,b,c,j,d,l,m,hd⟩:=h;have a:Fr Zero w w':=Fr.grown hg (fun k e=>by cases e);exact⟨f,i,b,a.ae c (fun h=>h),ag j a (fun _ _ h=>h),d,l.ae a.dV,m.ae c a.dV,hd.ae c a.dV⟩
 | some g =>
  rw[hv] at hg;obtain⟨o,p⟩:=bH ho hv;have a:Fr (One g) w w':=Fr.grown hg (fun k e _=>by cases e;rfl);exact PS.other h p (IW g hv) (fun g' hg' e=>hl g' hg' (by rw[hv,e])) a
theorem grow_step{w2:World}{m:Nat}{pv v':Value}{acc:List (ByteArray×PT)}
  (hO:w1.ownsRow 0 198 2 pv rows.length (aU rows)) (hpv:∀ g,pv.ownBlock=some g->B<=g) (aH:∀ b,X b->b<B) (hB:B<=w1.heap.size)
  (hL:du w1 (XO X pv) rows acc) (hS:PS w1 (XO X pv) pb s m lv lines bad deep) (ht:TR w1 (XO X pv) a t) (BR:∀ g,lv.ownBlock=some g->X g)
  (iE:w2.ownsRow 0 198 2 v' (rows.length+1) (aU rows++[.string nm,.pointer (some a)])) (hg:w1.grownBy w2 pv.ownBlock) (hv:∃ g au,v'=.slice (some ⟨g,0,none⟩) (rows.length+1) au/\(pv.ownBlock=some g\/w1.heap.size<=g)) :
  du w2 (XO X v') (rows++[(nm,a)]) (acc++[(nm,t)])/\PS w2 (XO X v') pb s m lv lines bad deep/\w2.ownsRow 0 198 2 v' (rows++[(nm,a)]).length (aU (rows++[(nm,a)]))/\(∀ g,v'.ownBlock=some g->B<=g)/\Fr (fun k=>B<=k) w1 w2:=by
 obtain⟨g,au,rfl,j⟩:=hv
 have f:∀ b,b<w1.heap.size->(XO X pv b\/w1.heap.size<=b)->XO X pv b:=fun b hb h=>by
  rcases h with h|h
  ·exact h
  ·omega
 have i:∀ b,b<w2.heap.size->XO X (.slice (some ⟨g,0,none⟩) (rows.length+1) au) b->(XO X pv b\/w1.heap.size<=b):=fun b _ h=>by
  rcases h with h|h
  ·exact .inl (.inl h)
  ·simp[Value.ownBlock] at h;subst h;rcases j with h|h
   ·exact .inl (.inr h)
   ·exact .inr h
 have l:Fr (fun b=>XO X pv b\/w1.heap.size<=b) w1 w2:=Fr.grown hg (fun k e _=>.inl (.inr e))
 have cF:∀ g,lv.ownBlock=some g->pv.ownBlock≠some g:=fun d o p=>by
  have:=aH d (BR d o)
  have:=hpv d p
  omega
 refine⟨?_,?_,?_,?_,?_⟩
 ·have n:du w1 (XO X pv) (rows++[(nm,a)]) (acc++[(nm,t)]):=hL.snoc ht;exact((n.aY f).ae l).aY i
 ·have o:PS w1 (fun b=>XO X pv b\/w1.heap.size<=b) pb s m lv lines bad deep:=hS.aY f (fun d c=>.inl (hS.lx d c));have p:=PS.grow o hO (fun d c=>.inl (.inr c)) cF hg;exact p.aY i (fun d c=>.inl (BR d c))
 ·rw[mw,List.length_append];exact iE
 ·intro d c;simp[Value.ownBlock] at c;subst c;rcases j with h|h
  ·exact hpv _ h
  ·omega
 ·exact Fr.grown hg (fun k e _=>hpv k e)
theorem Tryz.zP:(Tryz.prog.info? 198).map (fun i=>(i.zero,i.size,i.bytes))=some (some (.agg #[.string ⟨#[]⟩,.pointer none]),2,24):=by kernel_rfl
theorem sQ(rd:Nat->Option Nat->lN)(iW:∀ n bad,n<=(rd n bad).n)(s:ByteArray)(kind cR close:Nat):∀(k:Nat) (acc:List (ByteArray×PT)) (n:Nat) (bad:Option Nat),n<=(bJ rd s kind cR close k acc n bad).n:=by
 have c:∀ br n bad,n<=(aM rd s br 58 n bad).n:=by
  intro br n bad;unfold aM;have a:=d6 s 6 n
  split
  ·exact a
  ·split
   ·have:=iW (ah s n 6+1) (di s br n bad);omega
   ·exact a
 intro k
 induction k with
 | zero=>intro acc n bad;exact Nat.le_refl _
 | succ k ih =>
  intro acc n bad;have b:=c (acc.map (·.1)) n bad;simp only[bJ]
  split
  ·exact b
  ·split
   ·show n<=_+1;omega
   ·split
    ·exact b
    ·exact Nat.le_trans b (Nat.le_trans (Nat.le_succ _) (ih _ _ _))
theorem Bo(s:ByteArray)(lines:List (ByteArray×PT))(n:Nat)(bad:Option Nat):n<=(cL s lines n bad).n:=by
 have a:=d6 s 6 n;unfold cL
 split
 ·exact Nat.le_refl _
 ·split
  ·exact a
  ·split
   ·exact a
   ·exact a
theorem uf(s:ByteArray)(lines:List (ByteArray×PT)):∀(f n:Nat) (bad:Option Nat),n<=(aJ s lines f n bad).n:=by
 intro f
 induction f with
 | zero=>intro n bad;exact Nat.le_refl _
 | succ f ih =>
  intro n bad;have a:=ih (n+1) bad;simp only[aJ]
  split
  ·split
   ·show n<=_;simp only[cV];omega
   ·split
    ·show n<=_+1;omega
    ·show n<=_;simp only[cV];omega
  ·split
   ·split
    ·show n<=_;simp only[cV];omega
    ·exact Nat.le_trans (Nat.le_succ n) a
   ·split
    ·have:=sQ (aJ s lines f) ih s 9 44 125 6 [] (n+1) bad;omega
    ·split
     ·have:=sQ (aJ s lines f) ih s 10 124 62 6 [] (n+1) bad;omega
     ·exact Bo s lines n bad
def mh:Value->Nat
 | .slice _ n _=>n
 | _=>0
theorem Dw(s:ByteArray)(lines:List (ByteArray×PT))(f:Nat)(br:List ByteArray)(de n:Nat)(bad:Option Nat):n<=(aM (aJ s lines f) s br de n bad).n\/(aM (aJ s lines f) s br de n bad).ok=false:=by
 unfold aM;have a:=d6 s 6 n
 split
 ·exact .inl a
 ·split
  ·have:=uf s lines f (ah s n 6+1) (di s br n bad)
   exact .inl (by omega)
  ·exact .inl a
theorem Bk(hT:iS s lines f)(hX:X pb)(h:PS w X pb s n lv lines bad deep)(hw:Words w)(aH:∀ b,X b->b<w.heap.size)(hs:s.size<=maxLen)
  (bZ:n<=s.size) (hf:s.size<n+f) (kind cR close:Nat) (GD:cR<256) (pC:close<256) (hd:∀ n bad,(aJ s lines f n bad).t.depth<=1000000) :
  Calls Tryz.prog 208 #[.pointer (some ⟨pb,0,none⟩),.int .i64 kind,.int .u8 cR,.int .u8 close] w fun e w'=>iT w X pb s lv lines deep (bJ (aJ s lines f) s kind cR close 6 [] n bad) e w':=by
 have eQ:=ab (h.EZ hw);have E:=ab h.lx;go_enter Tryz.func208,Tryz.ntmps208;go_wp2
 go_loopw [10] (fun pv wr=>∃(k m:Nat) (bd:Option Nat) (c:List (ByteArray×PT)) (d:List (ByteArray×Addr)),k+1+c.length=6/\mh pv=c.length/\n<=m/\m<=s.size /\
   Hi (bJ (aJ s lines f) s kind cR close 6 [] n bad=bJ (aJ s lines f) s kind cR close (k+1) c m bd)/\Hi (wr.ownsRow 0 198 2 pv d.length (aU d))/\Hi (∀ g,pv.ownBlock=some g->w.heap.size<=g) /\
   Hi (du wr (XO X pv) d c)/\Hi (PS wr (XO X pv) pb s m lv lines bd deep)/\Hi (Words wr)/\Hi (Fr (One pb) w wr)/\Hi (∀ q∈c,q.2.depth<=1000000)) (fun pv _=>6-mh pv)
 case atStart=>exact⟨5,n,bad,[],[],rfl,rfl,Nat.le_refl _,bZ,rfl,World.ownsRow_nil _ _ _ _,fun g hg=>by simp[Value.ownBlock] at hg,⟨rfl,fun j p q hp=>by simp at hp⟩,h.aY (fun b _ v=>by rcases v with h|h;exact h;simp[Value.ownBlock] at h) (fun g hg=>.inl (E g hg)),hw,Fr.refl _ _,fun q hq=>by simp at hq⟩
 case round =>
  obtain⟨k,m,bd,c,d,hk,aX,a2,aZ,HP,HO,ah,HL,av,aw,HF,a0⟩:=hrel;have dK:Hi (d.length=c.length):=HL.o.length;have O:XO X u10 pb:=.inl hX
  have aj:Hi (∀ b,XO X u10 b->b<wr.heap.size):=fun b v=>by
   rcases v with h|h
   ·exact Nat.lt_of_lt_of_le (aH b h) HF.o.size
   ·exact(HO.o.lt b h).2
  have P:Hi (∀ g,u10.ownBlock=some g->¬One pb g):=fun g hg e=>by
   have e':g=pb:=e;subst e'
   have:=ah g hg
   have:=aH g hX
   omega
  have al:d.map (·.1)=c.map (·.1):=HL.o.1;go_wp2_with fail;refine(zY hT O av aw aj hs aZ (by omega) u10 d (by have:=dK.o;omega) HO P 58 58 (by omega) rfl).mono ?_;rw[al]
  have x:Hi (bJ (aJ s lines f) s kind cR close (k+1) c m bd =
    if(aM (aJ s lines f) s (c.map (·.1)) 58 m bd).ok=false then cV (aM (aJ s lines f) s (c.map (·.1)) 58 m bd).n (aM (aJ s lines f) s (c.map (·.1)) 58 m bd).bad else
    if aq s (aM (aJ s lines f) s (c.map (·.1)) 58 m bd).n=close then⟨true,aP kind (c++[(ax s m,(aM (aJ s lines f) s (c.map (·.1)) 58 m bd).t)]),(aM (aJ s lines f) s (c.map (·.1)) 58 m bd).n+1,(aM (aJ s lines f) s (c.map (·.1)) 58 m bd).bad⟩ else
    if c.length+1=6\/aq s (aM (aJ s lines f) s (c.map (·.1)) 58 m bd).n≠cR then cV (aM (aJ s lines f) s (c.map (·.1)) 58 m bd).n (aM (aJ s lines f) s (c.map (·.1)) 58 m bd).bad else
    bJ (aJ s lines f) s kind cR close k (c++[(ax s m,(aM (aJ s lines f) s (c.map (·.1)) 58 m bd).t)]) ((aM (aJ s lines f) s (c.map (·.1)) 58 m bd).n+1) (aM (aJ s lines f) s (c.map (·.1)) 58 m bd).bad):=rfl
  have iW:(aM (aJ s lines f) s (c.map (·.1)) 58 m bd).t.depth<=1000000:=by
   unfold aM
   split
   ·exact Nat.zero_le _
   ·split
    ·exact hd _ _
    ·exact Nat.zero_le _
  have T:m<=(aM (aJ s lines f) s (c.map (·.1)) 58 m bd).n\/(aM (aJ s lines f) s (c.map (·.1)) 58 m bd).ok=false:=Dw s lines f _ 58 m bd;generalize aM (aJ s lines f) s (c.map (·.1)) 58 m bd=r at *;rintro e w1 ⟨(R:Hi _),J,⟨ay,aA,ai⟩,D,a,rfl,dq⟩;rcases hr:r.ok with _|_
  ·have Q:Hi (bJ (aJ s lines f) s kind cR close 6 [] n bad=cV r.n r.bad):=HP.o.trans (by rw[x.o,hr];rfl);go_wp2;go_ret2;rw[Q.o];refine⟨HF.o.trans (R.o.trans (Fr.alloc _ _ _)),J,⟨ay,(PS.cX O aA (Fr.alloc _ _ _)).aY (fun b _ v=>.inl v) E,fun h=>by cases h⟩,none,rfl,fun h=>by cases h⟩
  ·obtain⟨aB,a',rfl,aC⟩:=dq hr;have aR:=ai hr;subst aB;subst aR
   have aS:m<=r.n:=by
    rcases T with h|h
    ·exact h
    ·rw[hr] at h;cases h
   have l:Hi (bJ (aJ s lines f) s kind cR close 6 [] n bad =
     if aq s r.n=close then⟨true,aP kind (c++[(ax s m,r.t)]),r.n+1,r.bad⟩ else
     if c.length+1=6\/aq s r.n≠cR then cV r.n r.bad else
     bJ (aJ s lines f) s kind cR close k (c++[(ax s m,r.t)]) (r.n+1) r.bad):=HP.o.trans (by rw[x.o,hr];rfl)
   generalize ax s m=D at *;obtain⟨i0,hi,aD,aE,aF⟩:=info_parts Tryz.zP
   go_wp2_with (at_builtin;refine az _ rfl _ _ 194 rfl 0 198 i0 (.agg #[.string ⟨#[]⟩,.pointer none]) 2 24 Tryz.underlying194 hi aD aE aF rfl (by decide) u10 d.length (aU d) rfl ?o1 ⟨w1.heap.size+1,0,none⟩ 1 1 (by omega) [.string D,.pointer (some a')] rfl rfl ?c1 ?c2 ?c3 ?c4 (Nat.zero_le _) ?_)
   case o1=>exact(ag HO.o R P.o).alloc _ |>.alloc _
   case c1 =>
    intro j u S
    match j,S with
    | 0,S=>simp at S;subst S;simp[Addr.add]
    | 1,S=>simp at S;subst S;simp[Addr.add]
    | j+2,S=>simp at S
   case c2=>intro u hu;simp at hu;rcases hu with rfl|rfl<;>rfl
   case c3=>have:=dK.o;unfold maxLen;omega
   case c4=>have:=dK.o;omega
   intro v' w2 iE aG g au aI aK;have H:Fr (One pb) wr ((w1.alloc (.cells #[.string D,.pointer (some a')] 198)).alloc (.cells #[.string D,.pointer (some a')] 198)):=R.o.trans ((Fr.alloc _ _ _).trans (Fr.alloc _ _ _));have Z:Fr Zero w1 ((w1.alloc (.cells #[.string D,.pointer (some a')] 198)).alloc (.cells #[.string D,.pointer (some a')] 198)):=(Fr.alloc _ _ _).trans (Fr.alloc _ _ _);have aT:=grow_step (B:=w.heap.size) (ag HO.o H P.o) ah aH (Nat.le_trans HF.o.size H.size) (HL.o.ae (H.one O)) (PS.cX O aA Z) (aC.ae Z.dV) E iE aG ⟨g,au,aI,by simpa using aK⟩;obtain⟨rW,aL,aN,V,ao⟩:=aT;have F:=ab ((HF.o.trans H).past ao);have aV:=ab (hw.ae F.o eQ);subst aI;have z:XO X (.slice (some ⟨g,0,none⟩) (d.length+1) au) pb:=.inl hX
   have U:Hi (∀ q∈c++[(D,r.t)],q.2.depth<=1000000):=fun q hq=>by
    rcases List.mem_append.1 hq with h|h
    ·exact a0 q h
    ·simp at h;subst h;exact iW
   by_cases hc:aq s r.n=close
   ·have Q:Hi (bJ (aJ s lines f) s kind cR close 6 [] n bad=⟨true,aP kind (c++[(D,r.t)]),r.n+1,r.bad⟩):=l.o.trans (by rw[if_pos hc]);have aa:Hi ((aq s r.n:Int)=close):=by simp[Hi,hc]
    have ac:r.n+1<=s.size:=bt (by omega);go_wp2_with fail;refine(dD z aL hs close aa (by omega)).mono ?_;rintro e w3 ⟨rfl,(y:Hi _),K⟩;go_wp2_with fail;refine(uN kind 0 (.slice (some ⟨g,0,none⟩) (d.length+1) au) (d++[(D,a')]) (c++[(D,r.t)]) X _ (by have:=dK.o;simp;omega) (by simp) U ((rW.ae (y.o.one z)).aY (fun b _ v=>.inl v)) (ag aN y ?_) ?_ ?_).mono ?_
    ·intro N L e;have e':N=pb:=e;subst e'
     have:=V N L
     have:=aH N hX
     omega
    ·intro N L hx
     have:=V N L
     have:=aH N hx
     omega
    ·intro b v
     have:=aH b v
     have:=F.o.size
     have:=y.o.size
     omega
    rintro e w4 ⟨(G:Hi _),a4,rfl,aO⟩;go_wp2;go_ret2;rw[Q.o];exact⟨F.o.trans (y.o.trans G.o.dV),ac,⟨r.bad,(PS.cX z K G).aY (fun b _ v=>.inl v) E,fun _=>rfl⟩,some a4,rfl,fun _=>⟨a4,rfl,aO⟩⟩
   ·have aa:Hi ((aq s r.n:Int)≠close):=fun e=>hc (by omega)
    have i:Hi (bJ (aJ s lines f) s kind cR close 6 [] n bad =
      if c.length+1=6\/aq s r.n≠cR then cV r.n r.bad else
      bJ (aJ s lines f) s kind cR close k (c++[(D,r.t)]) (r.n+1) r.bad):=l.o.trans (by rw[if_neg hc])
    go_wp2_with fail;refine(cq z aL hs J close aa).mono ?_;rintro e w3 ⟨rfl,(y:Hi _),K⟩
    by_cases h6:c.length+1=6
    ·have Q:Hi (bJ (aJ s lines f) s kind cR close 6 [] n bad=cV r.n r.bad):=i.o.trans (by rw[if_pos (.inl h6)]);have hq:((d.length:Int)+1==6)=true:=beq_iff_eq.2 (by have:=dK.o;omega);go_wp2;go_ret2;rw[Q.o];exact⟨F.o.trans y.o,J,⟨r.bad,K.aY (fun b _ v=>.inl v) E,fun h=>by cases h⟩,none,rfl,fun h=>by cases h⟩
    ·have hq:((d.length:Int)+1==6)=false:=beq_eq_false_iff_ne.2 (by have:=dK.o;omega)
     by_cases v:aq s r.n=cR
     ·have Q:Hi (bJ (aJ s lines f) s kind cR close 6 [] n bad=bJ (aJ s lines f) s kind cR close k (c++[(D,r.t)]) (r.n+1) r.bad):=i.o.trans (by rw[if_neg (by omega)]);have ad:Hi ((aq s r.n:Int)=cR):=by simp[Hi,v]
      have ac:r.n+1<=s.size:=bt (by omega);have a1:=h6;go_wp2_with fail;refine(dD z K hs cR ad (by omega)).mono ?_;rintro e w4 ⟨rfl,(G:Hi _),M⟩;go_wp2
      go_roundw
      case rel =>
       have C:Fr (One pb) w2 w4:=y.o.trans G.o;refine⟨k-1,r.n+1,r.bad,c++[(D,r.t)],d++[(D,a')],by simp;omega,by have:=dK.o;simp[mh];omega,by omega,ac,?_,ag aN C (fun N L e=>?_),V,rW.ae (C.one z),M,aV.o.ae C eQ,F.o.trans C,U⟩
       ·rw[Q.o,show k-1+1=k by omega];rfl
       ·have e':N=pb:=e;subst e'
        have:=V N L
        have:=aH N hX
        omega
      case measure =>
       show 6-(d.length+1)<6-mh u10;rw[aX]
       have:=dK.o
       omega
     ·have Q:Hi (bJ (aJ s lines f) s kind cR close 6 [] n bad=cV r.n r.bad):=i.o.trans (by rw[if_pos (.inr v)]);have ad:Hi ((aq s r.n:Int)≠cR):=fun e=>v (by omega)
      go_wp2_with fail;refine(cq z K hs J cR ad).mono ?_;rintro e w4 ⟨rfl,(G:Hi _),M⟩;go_wp2;go_ret2;rw[Q.o];exact⟨F.o.trans (y.o.trans G.o),J,⟨r.bad,M.aY (fun b _ v=>.inl v) E,fun h=>by cases h⟩,none,rfl,fun h=>by cases h⟩
theorem tG(hT:iS s lines f)(hX:X pb)(h:PS w X pb s n lv lines bad deep)(hw:Words w)(aH:∀ b,X b->b<w.heap.size)
  (bZ:n<=s.size) (hf:s.size<n+f) (kI:Int) (kind:Nat) (he:kI=(kind:Int)) (hd:(aJ s lines f n bad).t.depth<=1000000) :
  Calls Tryz.prog 207 #[.pointer (some ⟨pb,0,none⟩),.int .i64 kI] w fun e w'=>iT w X pb s lv lines deep (gF kind (aJ s lines f n bad)) e w':=by
 subst he;exact zI hT hX h hw aH bZ hf kind hd
theorem wy(hT:iS s lines f)(hX:X pb)(h:PS w X pb s n lv lines bad deep)(hw:Words w)(aH:∀ b,X b->b<w.heap.size)(hs:s.size<=maxLen)
  (bZ:n<=s.size) (hf:s.size<n+f) (kI bI cI:Int) (kind cR close:Nat) (hk:kI=(kind:Int)) (hb:bI=(cR:Int)) (hc:cI=(close:Int)) (GD:cR<256) (pC:close<256) (hd:∀ n bad,(aJ s lines f n bad).t.depth<=1000000) :
  Calls Tryz.prog 208 #[.pointer (some ⟨pb,0,none⟩),.int .i64 kI,.int .u8 bI,.int .u8 cI] w fun e w'=>iT w X pb s lv lines deep (bJ (aJ s lines f) s kind cR close 6 [] n bad) e w':=by
 subst hk hb hc;exact Bk hT hX h hw aH hs bZ hf kind cR close GD pC hd
theorem iT.after{w0:World}{r:lN}{e:Ending}(h:iT w0 X pb s lv lines deep r e w')(hf:Fr (One pb) w w0):iT w X pb s lv lines deep r e w' :=
 ⟨hf.trans h.1,h.2⟩
theorem CQ(hT:iS s lines f)(hs:s.size<=maxLen)(hd:∀ n bad,(aJ s lines f n bad).t.depth<=1000000)(k9:lines.length<=1000):iS s lines (f+1):=by
 intro w X pb n lv bad ai h hw m aH bZ aj;have eQ:=ab (h.EZ hw)
 by_cases B:aq s n=91
 ·have A:Hi (aJ s lines (f+1) n bad=if(aJ s lines f (n+1) bad).ok=false then cV (aJ s lines f (n+1) bad).n (aJ s lines f (n+1) bad).bad else
    if aq s (aJ s lines f (n+1) bad).n=93 then⟨true,aP 7 [(⟨#[]⟩,(aJ s lines f (n+1) bad).t)],(aJ s lines f (n+1) bad).n+1,(aJ s lines f (n+1) bad).bad⟩ else cV (aJ s lines f (n+1) bad).n (aJ s lines f (n+1) bad).bad):=by
   show aJ s lines (f+1) n bad=_;simp only[aJ];rw[if_pos B]
  have J:Hi ((aq s n:Int)=91):=by show(aq s n:Int)=91;omega
  have K:n+1<=s.size:=bt (by omega);go_enter Tryz.func191,Tryz.ntmps191;go_wp2_with fail;refine(dD m h hs 91 J (by omega)).mono ?_;rintro e w1 ⟨rfl,(l:Hi _),c⟩;have aa:=ab (hw.ae l eQ);go_wp2_with fail;refine(tG hT m c aa (fun b hb=>Nat.lt_of_lt_of_le (aH b hb) l.o.size) K (by omega) 7 7 rfl (hd _ _)).mono ?_;generalize aJ s lines f (n+1) bad=r at *;rintro e w2 ⟨ao,V,⟨I,d,W⟩,a,rfl,dq⟩;have i:=ab (l.o.trans ao);rcases hr:r.ok with _|_
  ·have L:gF 7 r=cV r.n r.bad:=by simp[gF,hr]
   rw[L] at d V;rw[L];have z:Hi (aJ s lines (f+1) n bad=cV r.n r.bad):=A.o.trans (by rw[hr];rfl);go_wp2;go_ret2;rw[z.o];exact⟨i,V,⟨I,d,fun h=>by cases h⟩,a,rfl,fun h=>by cases h⟩
  ·have L:gF 7 r=⟨true,aP 7 [(⟨#[]⟩,r.t)],r.n,r.bad⟩:=by simp[gF,hr]
   rw[L] at d V W dq;rw[L];have z:Hi (aJ s lines (f+1) n bad=if aq s r.n=93 then⟨true,aP 7 [(⟨#[]⟩,r.t)],r.n+1,r.bad⟩ else cV r.n r.bad):=A.o.trans (by rw[hr];rfl);obtain⟨a',rfl,ht⟩:=dq rfl;have ac:I=r.bad:=W rfl;subst ac
   by_cases T:aq s r.n=93
   ·have M:Hi (aJ s lines (f+1) n bad=⟨true,aP 7 [(⟨#[]⟩,r.t)],r.n+1,r.bad⟩):=z.o.trans (by rw[if_pos T]);have h3:Hi ((aq s r.n:Int)=93):=by show(aq s r.n:Int)=93;omega
    have af:r.n+1<=s.size:=bt (by omega);go_wp2_with fail;refine(dD m d hs 93 h3 (by omega)).mono ?_;rintro e Y ⟨rfl,(k:Hi _),g⟩;go_wp2;go_ret2;rw[M.o];exact⟨i.o.trans k.o,af,⟨r.bad,g,fun _=>rfl⟩,some a',rfl,fun _=>⟨a',rfl,ht.ae (k.o.one m)⟩⟩
   ·have M:Hi (aJ s lines (f+1) n bad=cV r.n r.bad):=z.o.trans (by rw[if_neg T]);have h3:Hi ((aq s r.n:Int)≠93):=fun e=>T (by omega)
    go_wp2_with fail;refine(cq m d hs V 93 h3).mono ?_;rintro e Y ⟨rfl,(k:Hi _),g⟩;go_wp2;go_ret2;rw[M.o];exact⟨i.o.trans k.o,V,⟨r.bad,g,fun h=>by cases h⟩,some a',rfl,fun h=>by cases h⟩
 ·have n1:Hi ((aq s n:Int)≠91):=fun e=>B (by omega)
  by_cases H:aq s n=63
  ·have A:Hi (aJ s lines (f+1) n bad=gF 8 (aJ s lines f (n+1) bad)):=by
    show aJ s lines (f+1) n bad=_;simp only[aJ,gF];rw[if_neg B,if_pos H]
   have J:Hi ((aq s n:Int)=63):=by show(aq s n:Int)=63;omega
   have K:n+1<=s.size:=bt (by omega);go_enter Tryz.func191,Tryz.ntmps191;go_wp2_with fail;refine(cq m h hs bZ 91 n1).mono ?_;rintro e w1 ⟨rfl,(l:Hi _),c⟩;go_wp2_with fail;refine(dD m c hs 63 J (by omega)).mono ?_;rintro e w2 ⟨rfl,ao,d⟩;have i:=ab (l.o.trans ao);have ag:=ab (hw.ae i.o eQ);go_wp2_with fail;refine(tG hT m d ag (fun b hb=>Nat.lt_of_lt_of_le (aH b hb) i.o.size) K (by omega) 8 8 rfl (hd _ _)).mono ?_;generalize gF 8 (aJ s lines f (n+1) bad)=r at *;intro e Y y;obtain⟨a,rfl,dq⟩:=y.2.2.2;have v:=ab (y.after i.o);go_wp2;go_ret2;rw[A.o];exact v
  ·have n2:Hi ((aq s n:Int)≠63):=fun e=>H (by omega)
   by_cases N:aq s n=123
   ·have A:Hi (aJ s lines (f+1) n bad=bJ (aJ s lines f) s 9 44 125 6 [] (n+1) bad):=by
     show aJ s lines (f+1) n bad=_;simp only[aJ];rw[if_neg B,if_neg H,if_pos N]
    have J:Hi ((aq s n:Int)=123):=by show(aq s n:Int)=123;omega
    have K:n+1<=s.size:=bt (by omega);go_enter Tryz.func191,Tryz.ntmps191;go_wp2_with fail;refine(cq m h hs bZ 91 n1).mono ?_;rintro e w1 ⟨rfl,(l:Hi _),c⟩;go_wp2_with fail;refine(cq m c hs bZ 63 n2).mono ?_;rintro e w2 ⟨rfl,ao,d⟩;have i:=ab (l.o.trans ao);go_wp2_with fail;refine(dD m d hs 123 J (by omega)).mono ?_;rintro e Y ⟨rfl,u,g⟩;have k:=ab (i.o.trans u);have ah:=ab (hw.ae k.o eQ);go_wp2_with fail;refine(wy hT m g ah (fun b hb=>Nat.lt_of_lt_of_le (aH b hb) k.o.size) hs K (by omega) 9 44 125 9 44 125 rfl rfl rfl (by omega) (by omega) hd).mono ?_;generalize bJ (aJ s lines f) s 9 44 125 6 [] (n+1) bad=r at *;intro e w4 y;obtain⟨a,rfl,dq⟩:=y.2.2.2;have v:=ab (y.after k.o);go_wp2;go_ret2;rw[A.o];exact v
   ·have n3:Hi ((aq s n:Int)≠123):=fun e=>N (by omega)
    by_cases U:aq s n=60
    ·have A:Hi (aJ s lines (f+1) n bad=bJ (aJ s lines f) s 10 124 62 6 [] (n+1) bad):=by
      show aJ s lines (f+1) n bad=_;simp only[aJ];rw[if_neg B,if_neg H,if_neg N,if_pos U]
     have J:Hi ((aq s n:Int)=60):=by show(aq s n:Int)=60;omega
     have K:n+1<=s.size:=bt (by omega);go_enter Tryz.func191,Tryz.ntmps191;go_wp2_with fail;refine(cq m h hs bZ 91 n1).mono ?_;rintro e w1 ⟨rfl,(l:Hi _),c⟩;go_wp2_with fail;refine(cq m c hs bZ 63 n2).mono ?_;rintro e w2 ⟨rfl,ao,d⟩;have i:=ab (l.o.trans ao);go_wp2_with fail;refine(cq m d hs bZ 123 n3).mono ?_;rintro e Y ⟨rfl,u,g⟩;have k:=ab (i.o.trans u);go_wp2_with fail;refine(dD m g hs 60 J (by omega)).mono ?_;rintro e w5 ⟨rfl,D,E⟩;have x:=ab (k.o.trans D);have P:=ab (hw.ae x.o eQ);go_wp2_with fail;refine(wy hT m E P (fun b hb=>Nat.lt_of_lt_of_le (aH b hb) x.o.size) hs K (by omega) 10 124 62 10 124 62 rfl rfl rfl (by omega) (by omega) hd).mono ?_;generalize bJ (aJ s lines f) s 10 124 62 6 [] (n+1) bad=r at *;intro e w4 y;obtain⟨a,rfl,dq⟩:=y.2.2.2;have v:=ab (y.after x.o);go_wp2;go_ret2;rw[A.o];exact v
    ·have n4:Hi ((aq s n:Int)≠60):=fun e=>U (by omega)
     have A:Hi (aJ s lines (f+1) n bad=cL s lines n bad):=by
      show aJ s lines (f+1) n bad=_;simp only[aJ];rw[if_neg B,if_neg H,if_neg N,if_neg U]
     go_enter Tryz.func191,Tryz.ntmps191;go_wp2_with fail;refine(cq m h hs bZ 91 n1).mono ?_;rintro e w1 ⟨rfl,(l:Hi _),c⟩;go_wp2_with fail;refine(cq m c hs bZ 63 n2).mono ?_;rintro e w2 ⟨rfl,ao,d⟩;have i:=ab (l.o.trans ao);go_wp2_with fail;refine(cq m d hs bZ 123 n3).mono ?_;rintro e Y ⟨rfl,u,g⟩;have k:=ab (i.o.trans u);go_wp2_with fail;refine(cq m g hs bZ 60 n4).mono ?_;rintro e w5 ⟨rfl,D,E⟩;have x:=ab (k.o.trans D);have P:=ab (hw.ae x.o eQ);go_wp2_with fail;refine(rM m E P (fun b hb=>Nat.lt_of_lt_of_le (aH b hb) x.o.size) hs bZ k9).mono ?_;generalize cL s lines n bad=r at *;intro e w4 y;obtain⟨a,rfl,dq⟩:=y.2.2.2;have v:=ab (y.after x.o);go_wp2;go_ret2;rw[A.o];exact v
theorem nE(rd:Nat->Option Nat->lN)(D:Nat)(iW:∀ n bad,(rd n bad).t.depth<=D)(s:ByteArray)(kind cR close:Nat):∀(k:Nat) (acc:List (ByteArray×PT)) (n:Nat) (bad:Option Nat),(∀ q∈acc,q.2.depth<=D)->(bJ rd s kind cR close k acc n bad).t.depth<=D+1:=by
 intro k
 induction k with
 | zero=>intro acc n bad _;exact Nat.zero_le _
 | succ k ih =>
  intro acc n bad b
  have c:(aM rd s (acc.map (·.1)) 58 n bad).t.depth<=D:=by
   unfold aM
   split
   ·exact Nat.zero_le _
   ·split
    ·exact iW _ _
    ·exact Nat.zero_le _
  have a:∀ q∈acc++[(ax s n,(aM rd s (acc.map (·.1)) 58 n bad).t)],q.2.depth<=D:=by
   intro q d;rcases List.mem_append.1 d with h|h
   ·exact b q h
   ·simp at h;subst h;exact c
  simp only[bJ]
  split
  ·exact Nat.zero_le _
  ·split
   ·show maxDepth _+1<=D+1
    have:=jE _ D a
    omega
   ·split
    ·exact Nat.zero_le _
    ·exact ih _ _ _ a
theorem mT:∀ {lines:List (ByteArray×PT)},gJ nm lines=some t->∃ q∈lines,q.2=t:=by
 intro lines
 induction lines with
 | nil=>intro h;cases h
 | cons p r ih =>
  intro h;rw[gJ] at h
  split at h
  ·exact⟨p,by simp,by simpa using h⟩
  ·obtain⟨q,a,e⟩:=ih h;exact⟨q,by simp[a],e⟩
theorem mQ(s:ByteArray)(lines:List (ByteArray×PT))(D:Nat)(hD:∀ q∈lines,q.2.depth<=D):∀(f n:Nat) (bad:Option Nat),(aJ s lines f n bad).t.depth<=D+1+f:=by
 intro f
 induction f with
 | zero=>intro n bad;exact Nat.zero_le _
 | succ f ih =>
  intro n bad;have b:=ih (n+1) bad;simp only[aJ]
  split
  ·split
   ·exact Nat.zero_le _
   ·split
    ·show maxDepth _+1<=_
     have:=jE [((⟨#[]⟩:ByteArray),(aJ s lines f (n+1) bad).t)] (D+1+f) (fun q a=>by simp at a;subst a;exact b)
     omega
    ·exact Nat.zero_le _
  ·split
   ·split
    ·exact Nat.zero_le _
    ·show maxDepth _+1<=_
     have:=jE [((⟨#[]⟩:ByteArray),(aJ s lines f (n+1) bad).t)] (D+1+f) (fun q a=>by simp at a;subst a;exact b)
     omega
   ·split
    ·have:=nE (aJ s lines f) (D+1+f) ih s 9 44 125 6 [] (n+1) bad (fun q a=>by simp at a);omega
    ·split
     ·have:=nE (aJ s lines f) (D+1+f) ih s 10 124 62 6 [] (n+1) bad (fun q a=>by simp at a);omega
     ·unfold cL
      split
      ·exact Nat.zero_le _
      ·split
       ·show 1<=_;omega
       ·split
        ·rename_i t c;obtain⟨q,a,e⟩:=mT c
         have:=hD q a
         rw[e] at this;show t.depth<=_;omega
        ·exact Nat.zero_le _
theorem Fj(hs:s.size<=maxLen)(hD:∀ q∈lines,q.2.depth<=500000)(k9:lines.length<=1000):∀ f,f<=1000->iS s lines f:=by
 intro f
 induction f with
 | zero =>
  intro _ w X d n e a b h g i aH bZ c;omega
 | succ f ih =>
  intro j;exact CQ (ih (by omega)) hs (fun n a=>by have:=mQ s lines 500000 hD f n a;omega) k9
theorem eG{P:Program}{oU:Array Oper}{o:Oper}{a:Act}{K:Act->World->Prop}{Q:Exit->Act->World->Prop}{E:Prop}
  (hg:o.guard=none) (s x:Operand) (t:TypeId) (hop:o.op=Op.call { callee:=Callee.builtin Builtin.append,args:=#[s,x],argTypes:=#[t,t] })
  (base:Nat) (e:TypeId) (i:TypeInfo) (z:Value) (size bytes:Nat) (ht:P.underlying t=some (.slice e)) (hi:P.info? e=some i) (hz:i.zero=some z)
  (hsize:i.size=size) (hby:i.bytes=bytes) (hzs:z.cells.size=size) (dJ:0<size)
  (v:Value) (n:Nat) (xs:List Value) (hs:a.eval s=v) (fT:w.ownsRow base e size v n xs)
  (ad:Addr) (m c:Nat) (hm:0<m) (fE:List Value) (hx:a.eval x=.slice (some ad) m c) (hl:fE.length=m*size) (hnews:∀ j u,fE[j]?=some u->w.cell? (ad.add j)=some u) (h1:∀ u∈fE,u.oneCell'=true)
  (Ai:n+m<=maxLen) (hbytes:(n+m)*bytes<=140737488355328) (hbase:base<=w.heap.size)
  (hK:∀ v' w',w'.ownsRow base e size v' (n+m) (xs++fE)->w.grownBy w' v.ownBlock->(∃ g au,v'=.slice (some ⟨g,0,none⟩) (n+m) au/\(v.ownBlock=some g\/w.heap.size<=g))->K (a.put o.dst v') w') :
  if Region.wanted o (yielded oU a.tmps)=true then Oper.wp P o a w K Q else E:=by
 have d:Region.wanted o (yielded oU a.tmps)=true:=by simp[Region.wanted,hg]
 rw[if_pos d];obtain⟨v',w',b,f,h,k⟩:=kT (P:=P) w base t o.type e i z size bytes ht hi hz hsize hby hzs dJ v n xs fT ad m c hm fE hl hnews h1 Ai hbytes hbase;unfold Oper.wp;simp[execOp,hop,resolve,invoke,builtin,hs,hx,b,Result.andThen];exact hK v' w' f h k
theorem bT{e:TypeId}(h:w.ownsRow base e size v n xs)(he:w'.heap=(w.alloc o).heap):w'.ownsRow base e size v n xs:=by
 refine⟨h.1,?_⟩;rcases(h.alloc o).2 with b|⟨g,au,a,c,d,f,r⟩
 ·exact .inl b
 ·exact .inr ⟨g,au,a,c,d,by rw[he];exact f,r⟩
theorem oA{x y:Value}{t:TypeId}(he:w'.heap=(w.alloc (.cells #[x,y] t)).heap):∀(j:Nat) (u:Value),[x,y][j]?=some u->w'.cell? ((⟨w.heap.size,0,none⟩:Addr).add j)=some u:=by
 have h:w'.heap[w.heap.size]?=some (.cells #[x,y] t (0,0)):=by rw[he];exact af rfl _
 intro j u a
 match j,a with
 | 0,a=>simp at a;subst a;simp[Addr.add,World.cell?,h]
 | 1,a=>simp at a;subst a;simp[Addr.add,World.cell?,h]
 | j+2,a=>simp at a
theorem nU{W wq:World}{bn td:Value}(he:W.heap=(wq.alloc o).heap)(hP:PB wq pb s n lv bn td)(hg:W.grownBy w' lv.ownBlock)(cF:∀ g,lv.ownBlock=some g->g≠pb):PB w' pb s n lv bn td:=by
 have a:W.heap[pb]?=some (.cells #[.int .i64 n,.string s,lv,bn,td] 196 (0,0)):=by rw[he];exact hP.alloc o
 exact(hg.block pb (lt_of_heap a) (fun e=>cF pb e.symm rfl)).trans a
theorem xe{W wq:World}{v':Value}(he:W.heap=(wq.alloc o).heap)(xp:W.os=wq.os)(xm:W.tape=wq.tape)(xn:W.output=wq.output)
  (hO:wq.ownsRow 0 198 2 lv rows.length (aU rows)) (hL:du wq (XO (One pb) lv) rows lines) (hS:PS wq (XO (One pb) lv) pb s n lv lines bad deep) (ht:TR wq (XO (One pb) lv) a t)
  (BR:∀ g,lv.ownBlock=some g->B<=g/\g≠pb) (Cr:B<=pb) (_hB:B<=wq.heap.size)
  (iE:w'.ownsRow 0 198 2 v' (rows.length+1) (aU rows++[.string nm,.pointer (some a)])) (hg:W.grownBy w' lv.ownBlock) (hv:∃ g au,v'=.slice (some ⟨g,0,none⟩) (rows.length+1) au/\(lv.ownBlock=some g\/W.heap.size<=g)) :
  PS (w'.setCell ⟨pb,2,none⟩ v') (XO (One pb) v') pb s n v' (lines++[(nm,t)]) bad deep/\(∀ g,v'.ownBlock=some g->B<=g/\g≠pb)/\Fr (fun k=>B<=k) wq (w'.setCell ⟨pb,2,none⟩ v'):=by
 have xr:Fr Zero wq W:=⟨xp,xm,xn,by rw[he];simp,fun k hk _=>by rw[he];exact Below.heap_alloc _ _ _ hk⟩;have K:XO (One pb) lv pb:=.inl rfl;have p:=PS.cX K hS xr;have w:=hL.ae (xr.dV (X:=XO (One pb) lv));have D6:=ht.ae (xr.dV (X:=XO (One pb) lv));have x:=ag hO xr (fun _ _ h=>h);obtain⟨g,au,rfl,l⟩:=hv
 have L:pb<W.heap.size:=by
  obtain⟨D,E,_,F,_⟩:=p;exact lt_of_heap F
 have q:g≠pb:=by
  rcases l with h|h
  ·exact(BR g h).2
  ·omega
 have y:B<=g:=by
  rcases l with h|h
  ·exact(BR g h).1
  ·have:=xr.size;omega
 have z:∀ b,b<W.heap.size->(XO (One pb) lv b\/W.heap.size<=b)->XO (One pb) lv b:=fun b u h=>by
  rcases h with h|h
  ·exact h
  ·omega
 have A:∀ b,b<w'.heap.size->XO (One pb) (.slice (some ⟨g,0,none⟩) (rows.length+1) au) b->(XO (One pb) lv b\/W.heap.size<=b):=fun b _ h=>by
  rcases h with h|h
  ·exact .inl (.inl h)
  ·simp[Value.ownBlock] at h;subst h;rcases l with h|h
   ·exact .inl (.inr h)
   ·exact .inr h
 have C:Fr (fun b=>XO (One pb) lv b\/W.heap.size<=b) W w':=Fr.grown hg (fun k e _=>.inl (.inr e));have rW:du w' (XO (One pb) (.slice (some ⟨g,0,none⟩) (rows.length+1) au)) (rows++[(nm,a)]) (lines++[(nm,t)]):=(((w.snoc D6).aY z).ae C).aY A;have i:Fr (fun k=>lv.ownBlock=some k) W w':=Fr.grown hg (fun k e _=>e);have d:Fr (One pb) w' (w'.setCell ⟨pb,2,none⟩ (.slice (some ⟨g,0,none⟩) (rows.length+1) au)):=Fr.setCell _ _ _ _ rfl;obtain⟨D,E,G,F,M,N,_,u,hd⟩:=p;have j:PB w' pb s n lv D E:=i.ae F (fun e=>(BR pb e).2 rfl)
 have f:∀ gh v r,mn W gh v r->mn w' gh v r:=by
  intro gh v r H;cases r with
  | none=>exact H
  | some m =>
   obtain⟨b,hv,u⟩:=H;refine⟨b,hv,i.ae u (fun e=>?_)⟩;obtain⟨O,I⟩:=bH x e;rw[u] at I;simp at I
 refine⟨⟨D,E,rows++[(nm,a)],j.Hx _,?_,fun J c=>.inr c,rW.ae (d.one (.inl rfl)),(f _ _ _ u).ae j d,(f _ _ _ hd).ae j d⟩,?_,?_⟩
 ·rw[mw,List.length_append];exact ag iE d (fun J c e=>by simp[Value.ownBlock] at c;subst c;exact q e)
 ·intro J c;simp[Value.ownBlock] at c;subst c;exact⟨y,q⟩
 ·exact(xr.dV (X:=fun k=>B<=k)).trans ((i.mono (fun k _ e=>(BR k e).1)).trans (d.mono (fun k _ e=>by have P:k=pb:=e;omega)))
def cd(s:ByteArray)(lines:List (ByteArray×PT))(n:Nat)(bad:Option Nat):lN:=aM (aJ s lines (s.size+1)) s (lines.map (·.1)) 61 n bad
def bV(r:lN)(n:Nat)(deep:Option Nat):Option Nat:=if 12<r.t.depth then orElse deep n else deep
def EP(w:World)(B pb:Nat)(s:ByteArray)(n:Nat)(lines:List (ByteArray×PT))(deep:Option Nat)(r:lN)(e:Ending)(w':World):Prop :=
 Fr (fun k=>B<=k) w w'/\r.n<=s.size/\e=.returned (.bool r.ok) /\
  (r.ok=false->∃ lv X bd deep',PS w' X pb s r.n lv lines bd deep') /\
  (r.ok=true->∃ lv,PS w' (XO (One pb) lv) pb s r.n lv (lines++[(ax s n,r.t)]) r.bad (bV r n deep)/\∀ g,lv.ownBlock=some g->B<=g/\g≠pb)
theorem DQ(h:PS w (XO (One pb) lv) pb s n lv lines bad deep)(Cr:B<=pb)(BR:∀ g,lv.ownBlock=some g->B<=g/\g≠pb)(hw:Words w)(hs:s.size<=400)(bZ:n<=s.size)
  (hD:∀ q∈lines,q.2.depth<=500000) (k9:lines.length<=1000) :
  Calls Tryz.prog 152 #[.pointer (some ⟨pb,0,none⟩)] w fun e w'=>EP w B pb s n lines deep (cd s lines n bad) e w':=by
 have aa:s.size<=maxLen:=by unfold maxLen;omega
 have h0:=h.dM;have HS:=ab h;have HW:=ab hw;have F:=ab BR;obtain⟨bn,td,J,hP,hO,aC,hL,aD,aE⟩:=h;have c2:=hP.fM;have jq:=lt_of_heap hP;have HO:=ab hO;have dK:J.length=lines.length:=hL.length;have ar:=ab hL.1;have au:=ab (nF hP hO);have HT:=ab (Fj aa hD k9 (s.size+1) (by omega))
 have aH:Hi (∀ b,XO (One pb) lv b->b<w.heap.size):=fun b hb=>by
  rcases hb with h|h
  ·have h':b=pb:=h;omega
  ·exact(hO.lt b h).2
 have hX:XO (One pb) lv pb:=.inl rfl
 have iW:Hi ((cd s lines n bad).t.depth<=1000000):=by
  show(cd s lines n bad).t.depth<=1000000
  unfold cd aM
  split
  ·exact Nat.zero_le _
  ·split
   ·have:=mQ s lines 500000 hD (s.size+1) (ah s n 6+1) (di s (lines.map (·.1)) n bad);omega
   ·exact Nat.zero_le _
 have av:=ab dK;go_enter Tryz.func152,Tryz.ntmps152;go_wp2_with fail;refine(gw pb n _ h0).mono ?_;rintro e w0 ⟨rfl,e0⟩;obtain rfl:=e0.symm;go_wp2_with fail;refine(zY HT hX HS HW aH aa bZ (by omega) lv J (by have:=av.o;omega) HO au 61 61 (by omega) rfl).mono ?_;rw[ar.o];rw[show aM (aJ s lines (s.size+1)) s (lines.map (·.1)) 61 n bad=cd s lines n bad from rfl];generalize ac:cd s lines n bad=r at *;have K:=ab ac;rintro e p ⟨(I:Hi _),U,⟨al,am,V⟩,c,a,rfl,dq⟩;have L:=ab am;rcases hr:r.ok with _|_
 ·have M:=ab hr;go_wp2;go_ret;rw[K.o];refine⟨(I.o.mono (fun k _ e=>by have e':k=pb:=e;omega)).trans (Fr.alloc _ _ _),U,by rw[M.o];rfl,fun _=>⟨lv,_,al,deep,PS.cX hX L (Fr.alloc _ _ _)⟩,fun h=>by rw[M.o] at h;cases h⟩
 ·obtain⟨G,a',rfl,ht⟩:=dq hr;have aw:=V hr;subst G;subst aw;obtain⟨b,hb,kV,an,ap⟩:=ht.depth;subst hb;have ad:=ab ht;have M:=ab hr;generalize G:ax s n=c at *;have ag:=ab G
  have ai:p.heap.size≠pb:=by
   have:=I.o.size
   omega
  by_cases H:12<r.t.depth
  ·have N:Hi (bV r n deep=orElse deep n):=by show bV r n deep=_;unfold bV;rw[if_pos H]
   go_wp2_with fail;refine(rJ hX (PS.cX hX L (Fr.alloc _ _ _)) n).mono ?_;rintro e A ⟨rfl,ao,aq⟩;have v:=ab aq;have O:=ab ((ad.o.ae ((Fr.alloc _ _ _))).ae (ao.one hX));have x:Hi (Fr (fun k=>B<=k) w A):=(I.o.trans ((Fr.alloc _ _ _).trans ao)).mono (fun k _ e=>by have e':k=pb:=e;omega);have P:Hi (B<=A.heap.size):=by show B<=A.heap.size;have:=x.o.size;omega
   have f:A.heap[p.heap.size]?=some (.cells #[.string c,.pointer (some ⟨b,0,none⟩)] 198 (0,0)):=ao.ae (af rfl _) ai;have l0:A.cell? ⟨p.heap.size,0,none⟩=some (.string c):=by rw[cell_of_heap f];rfl
   have l1:A.cell? ⟨p.heap.size,1,none⟩=some (.pointer (some ⟨b,0,none⟩)):=by rw[cell_of_heap f];rfl
   have Q:=True.intro;go_wp2;obtain⟨bq,tq,j,d,C,_,l,_,_⟩:=v.o;have k2:=d.fM;have ay:=(d.alloc (.cells #[.string c,.pointer (some ⟨b,0,none⟩)] 198)).fM;have az:j.length<=1000:=by rw[l.length];exact k9
   have R:=ab d;have y:=ab C;have S:=ab l;have z:Hi (∀ g,lv.ownBlock=some g->g≠pb):=fun g hg=>(F.o g hg).2
   obtain⟨i0,hi,W,X,Y⟩:=info_parts Tryz.zP;have m1:Hi (j.length+1<=maxLen):=by show j.length+1<=maxLen;unfold maxLen;omega
   have m2:Hi ((j.length+1)*24<=140737488355328):=by show(j.length+1)*24<=140737488355328;omega
   have m3:Hi (∀ u∈[Value.string c,Value.pointer (some ⟨b,0,none⟩)],u.oneCell'=true):=by intro u hu;simp at hu;rcases hu with rfl|rfl<;>rfl
   go_region_law (refine eG rfl (.tmp 35) (.tmp 37) 194 rfl 0 198 i0 (.agg #[.string ⟨#[]⟩,.pointer none]) 2 24 Tryz.underlying194 hi W X Y rfl (by decide) lv j.length (aU j) (by simp[Act.eval]) (by exact bT (o:=.cells #[.string c,.pointer (some ⟨b,0,none⟩)] 198) y.o (by rfl)) ⟨A.heap.size,0,none⟩ 1 1 (by omega) [.string c,.pointer (some ⟨b,0,none⟩)] (by simp[Act.eval]) rfl (by exact oA (w:=A) (t:=198) (by rfl)) m3.o m1.o m2.o (Nat.zero_le _) ?_;intro v' w' iE m Z;obtain⟨gn,D,rfl,E⟩:=Z;have i:=nU (o:=.cells #[.string c,.pointer (some ⟨b,0,none⟩)] 198) (by rfl) R.o m z.o;have aA:=i.fM;have aB:=i.free 2;have T:=ab (xe (o:=.cells #[.string c,.pointer (some ⟨b,0,none⟩)] 198) (by rfl) (by rfl) (by rfl) (by rfl) y.o S.o v.o O.o F.o Cr P.o iE m ⟨gn,D,rfl,E⟩);clear iE m E i)
   all_goals
    go_wp2;go_ret;rw[K.o];refine⟨x.o.trans T.o.2.2,U,(by rw[M.o];rfl),(fun h=>by rw[M.o] at h;cases h),fun _=>⟨_,?_,T.o.2.1⟩⟩;rw[ag.o,N.o];exact T.o.1
  ·have N:Hi (bV r n deep=deep):=by show bV r n deep=_;unfold bV;rw[if_neg H]
   have v:=ab (PS.cX hX L (Fr.alloc _ _ (.cells #[.string c,.pointer (some ⟨b,0,none⟩)] 198)));have O:=ab (ad.o.ae (Fr.alloc _ _ (.cells #[.string c,.pointer (some ⟨b,0,none⟩)] 198)));have x:Hi (Fr (fun k=>B<=k) w (p.alloc (.cells #[.string c,.pointer (some ⟨b,0,none⟩)] 198))):=(I.o.trans (Fr.alloc _ _ _)).mono (fun k _ e=>by have e':k=pb:=e;omega)
   have P:Hi (B<=(p.alloc (.cells #[.string c,.pointer (some ⟨b,0,none⟩)] 198)).heap.size):=by
    show B<=_
    have:=x.o.size
    omega
   have f:(p.alloc (.cells #[.string c,.pointer (some ⟨b,0,none⟩)] 198)).heap[p.heap.size]?=some (.cells #[.string c,.pointer (some ⟨b,0,none⟩)] 198 (0,0)):=af rfl _;have l0:(p.alloc (.cells #[.string c,.pointer (some ⟨b,0,none⟩)] 198)).cell? ⟨p.heap.size,0,none⟩=some (.string c):=by rw[cell_of_heap f];rfl
   have l1:(p.alloc (.cells #[.string c,.pointer (some ⟨b,0,none⟩)] 198)).cell? ⟨p.heap.size,1,none⟩=some (.pointer (some ⟨b,0,none⟩)):=by rw[cell_of_heap f];rfl
   have aj:=ab l0;have ak:=ab l1;go_wp2;have l0:=aj.o;have l1:=ak.o;generalize Q:p.alloc (.cells #[.string c,.pointer (some ⟨b,0,none⟩)] 198)=A at *;obtain⟨bq,tq,j,d,C,_,l,_,_⟩:=v.o;have k2:=d.fM;have ay:=(d.alloc (.cells #[.string c,.pointer (some ⟨b,0,none⟩)] 198)).fM;have az:j.length<=1000:=by rw[l.length];exact k9
   have R:=ab d;have y:=ab C;have S:=ab l;have z:Hi (∀ g,lv.ownBlock=some g->g≠pb):=fun g hg=>(F.o g hg).2
   obtain⟨i0,hi,W,X,Y⟩:=info_parts Tryz.zP;have m1:Hi (j.length+1<=maxLen):=by show j.length+1<=maxLen;unfold maxLen;omega
   have m2:Hi ((j.length+1)*24<=140737488355328):=by show(j.length+1)*24<=140737488355328;omega
   have m3:Hi (∀ u∈[Value.string c,Value.pointer (some ⟨b,0,none⟩)],u.oneCell'=true):=by intro u hu;simp at hu;rcases hu with rfl|rfl<;>rfl
   go_region_law (refine eG rfl (.tmp 35) (.tmp 37) 194 rfl 0 198 i0 (.agg #[.string ⟨#[]⟩,.pointer none]) 2 24 Tryz.underlying194 hi W X Y rfl (by decide) lv j.length (aU j) (by simp[Act.eval]) (by exact bT (o:=.cells #[.string c,.pointer (some ⟨b,0,none⟩)] 198) y.o (by rfl)) ⟨A.heap.size,0,none⟩ 1 1 (by omega) [.string c,.pointer (some ⟨b,0,none⟩)] (by simp[Act.eval]) rfl (by exact oA (w:=A) (t:=198) (by rfl)) m3.o m1.o m2.o (Nat.zero_le _) ?_;intro v' w' iE m Z;obtain⟨gn,D,rfl,E⟩:=Z;have i:=nU (o:=.cells #[.string c,.pointer (some ⟨b,0,none⟩)] 198) (by rfl) R.o m z.o;have aA:=i.fM;have aB:=i.free 2;have T:=ab (xe (o:=.cells #[.string c,.pointer (some ⟨b,0,none⟩)] 198) (by rfl) (by rfl) (by rfl) (by rfl) y.o S.o v.o O.o F.o Cr P.o iE m ⟨gn,D,rfl,E⟩);clear iE m E i)
   all_goals
    go_wp2;go_ret;rw[K.o];refine⟨x.o.trans T.o.2.2,U,(by rw[M.o];rfl),(fun h=>by rw[M.o] at h;cases h),fun _=>⟨_,?_,T.o.2.1⟩⟩;rw[ag.o,N.o];exact T.o.1
structure Ip where
 ok:Bool
 n:Nat
 lines:List (ByteArray×PT)
 bad:Option Nat
 deep:Option Nat
def bO(s:ByteArray):Nat->List (ByteArray×PT)->Nat->Option Nat->Option Nat->Ip
 | 0,lines,n,bad,deep=>⟨false,n,lines,bad,deep⟩
 | k+1,lines,n,bad,deep =>
  let r:=cd s lines n bad
  if r.ok=false then⟨false,r.n,lines,r.bad,deep⟩ else
  if r.n=s.size then⟨true,r.n,lines++[(ax s n,r.t)],r.bad,bV r n deep⟩ else
  if lines.length+1=10\/aq s r.n≠10 then⟨false,r.n,lines,r.bad,deep⟩ else
  bO s k (lines++[(ax s n,r.t)]) (r.n+1) r.bad (bV r n deep)
theorem wE(rd:Nat->Option Nat->lN)(D:Nat)(iW:∀ n bad,(rd n bad).t.depth<=D)(s:ByteArray)(br:List ByteArray)(de n:Nat)(bad:Option Nat):(aM rd s br de n bad).t.depth<=D:=by
 unfold aM
 split
 ·exact Nat.zero_le _
 ·split
  ·exact iW _ _
  ·exact Nat.zero_le _
theorem sR(rd:Nat->Option Nat->lN)(iW:∀ n bad,n<=(rd n bad).n)(s:ByteArray)(br:List ByteArray)(de n:Nat)(bad:Option Nat):n<=(aM rd s br de n bad).n:=by
 have a:=d6 s 6 n;unfold aM
 split
 ·exact a
 ·split
  ·exact Nat.le_trans (Nat.le_trans a (Nat.le_succ _)) (iW _ _)
  ·exact a
theorem xf(s:ByteArray)(lines:List (ByteArray×PT))(n:Nat)(bad:Option Nat)(D:Nat)(hD:∀ q∈lines,q.2.depth<=D):(cd s lines n bad).t.depth<=D+1+(s.size+1) :=
 wE (aJ s lines (s.size+1)) _ (mQ s lines D hD (s.size+1)) s _ 61 n bad
theorem DR(s:ByteArray)(lines:List (ByteArray×PT))(n:Nat)(bad:Option Nat):n<=(cd s lines n bad).n :=
 sR (aJ s lines (s.size+1)) (uf s lines (s.size+1)) s _ 61 n bad
def placeOf(pb:Nat)(w:World):Nat:=match w.cell? ⟨pb,0,none⟩ with
 | some (.int _ q)=>q.toNat
 | _=>0
theorem PS.place(h:PS w X pb s n lv lines bad deep):placeOf pb w=n:=by
 unfold placeOf;rw[h.dM];simp
def EU(w:World)(B pb:Nat)(s:ByteArray)(d:Ip)(e:Ending)(w':World):Prop :=
 Fr (fun k=>B<=k) w w'/\e=.returned (.bool d.ok)/\d.n<=s.size/\(d.ok=false->∃ lv X lines bad deep,PS w' X pb s d.n lv lines bad deep) /\
  (d.ok=true->∃ lv,PS w' (XO (One pb) lv) pb s d.n lv d.lines d.bad d.deep/\d.lines≠[])
theorem pq(h:PS w (XO (One pb) lv) pb s 0 lv [] none none)(ew:5<B)(Cr:B<=pb)(BR:∀ g,lv.ownBlock=some g->B<=g/\g≠pb)(hw:Words w)(hs:s.size<=400):
  Calls Tryz.prog 102 #[.pointer (some ⟨pb,0,none⟩)] w fun e w'=>EU w B pb s (bO s 10 [] 0 none none) e w':=by
 have I:s.size<=maxLen:=by unfold maxLen;omega
 have HS:=ab h;have HW:=ab hw;have X:=ab BR;go_enter Tryz.func102,Tryz.ntmps102;go_wp2_with fail
 go_loopw [2] (fun v wr=>v=.bool false/\∃(k n:Nat) (a:List (ByteArray×PT)) (c b:Option Nat) (lv:Value),k+1+a.length=10/\n<=s.size/\Hi (bO s 10 [] 0 none none=bO s (k+1) a n c b)/\Hi (PS wr (XO (One pb) lv) pb s n lv a c b) /\
   Hi (∀ g,lv.ownBlock=some g->B<=g/\g≠pb)/\Hi (Fr (fun k=>B<=k) w wr)/\Hi (∀ q∈a,q.2.depth<=1000*a.length)) (fun _ wr=>s.size+1-placeOf pb wr)
 case atStart=>exact⟨rfl,9,0,[],none,none,lv,rfl,Nat.zero_le _,rfl,HS,X,Fr.refl _ _,fun q L=>by simp at L⟩
 case round =>
  obtain⟨rfl,k,n,a,c,b,IG,hk,hn,W,R,ag,HF,HD⟩:=hrel;have Y:=ab (HW.o.ae HF.o (by omega));have Z:=ab R.o.place;go_wp2_with fail;refine(DQ R Cr ag Y hs hn (fun q L=>by have:=HD.o q L;omega) (by omega)).mono ?_;have aj:=DR s a n c;have aa:=ab (xf s a n c _ HD)
  have D:Hi (bO s (k+1) a n c b =
    if(cd s a n c).ok=false then⟨false,(cd s a n c).n,a,(cd s a n c).bad,b⟩ else
    if(cd s a n c).n=s.size then⟨true,(cd s a n c).n,a++[(ax s n,(cd s a n c).t)],(cd s a n c).bad,bV (cd s a n c) n b⟩ else
    if a.length+1=10\/aq s (cd s a n c).n≠10 then⟨false,(cd s a n c).n,a,(cd s a n c).bad,b⟩ else
    bO s k (a++[(ax s n,(cd s a n c).t)]) ((cd s a n c).n+1) (cd s a n c).bad (bV (cd s a n c) n b)):=rfl
  generalize cd s a n c=r at *;rintro e w1 ⟨S,m,rfl,dH,y⟩;have P:=ab (HF.o.trans S);rcases hr:r.ok with _|_
  ·have E:Hi (bO s 10 [] 0 none none=⟨false,r.n,a,r.bad,b⟩):=W.o.trans (by rw[D.o,hr];rfl);obtain⟨i,X1,b1,d1,z⟩:=dH hr;have J:=ab z;go_wp2_with fail;go_ret;rw[E.o];exact⟨P,rfl,m,fun _=>⟨i,X1,a,b1,d1,J⟩,fun h=>by cases h⟩
  ·obtain⟨i,z,H⟩:=y hr
   have l:Hi (bO s 10 [] 0 none none =
     if r.n=s.size then⟨true,r.n,a++[(ax s n,r.t)],r.bad,bV r n b⟩ else
     if a.length+1=10\/aq s r.n≠10 then⟨false,r.n,a,r.bad,b⟩ else
     bO s k (a++[(ax s n,r.t)]) (r.n+1) r.bad (bV r n b)):=W.o.trans (by rw[D.o,hr];rfl)
   have J:=ab z;have ac:=ab H;have K:XO (One pb) i pb:=.inl rfl
   have ad:Hi (∀ q∈a++[(ax s n,r.t)],q.2.depth<=1000*(a++[(ax s n,r.t)]).length):=fun q L=>by
    rw[List.length_append];rcases List.mem_append.1 L with h|h
    ·have:=HD.o q h
     simp;omega
    ·simp at h;subst h
     have:=aa.o
     simp;omega
   go_wp2_with fail;refine(Fz K J I m).mono ?_;rintro e w2 ⟨rfl,ao,T⟩;have F:=ab (P.o.trans (ao.mono (fun k _ e=>by have e':k=pb:=e;omega)));have p:=ab T
   by_cases d:r.n=s.size
   ·have E:Hi (bO s 10 [] 0 none none=⟨true,r.n,a++[(ax s n,r.t)],r.bad,bV r n b⟩):=l.o.trans (by rw[if_pos d]);have u:decide (r.n=s.size)=true:=decide_eq_true d;rw[u];go_wp2_with fail;go_ret;rw[E.o];exact⟨F,rfl,m,(fun h=>by cases h),fun _=>⟨i,p,by simp⟩⟩
   ·have f:Hi (bO s 10 [] 0 none none =
      if a.length+1=10\/aq s r.n≠10 then⟨false,r.n,a,r.bad,b⟩ else
      bO s k (a++[(ax s n,r.t)]) (r.n+1) r.bad (bV r n b)):=l.o.trans (by rw[if_neg d])
    have u:decide (r.n=s.size)=false:=decide_eq_false d;rw[u];obtain⟨b2,t2,j,U,iE,_,rW,_,_⟩:=p.o;have k2:=U.fM;have dK:j.length=a.length+1:=by rw[rW.length,List.length_append];rfl
    rcases iE.2 with⟨_,hz⟩|⟨g2,ah,ai,O,_⟩
    ·omega
    ·rw[O] at k2;have Q:=ab dK
     by_cases x:a.length+1=10
     ·have E:Hi (bO s 10 [] 0 none none=⟨false,r.n,a,r.bad,b⟩):=f.o.trans (by rw[if_pos (.inl x)]);have L:((j.length:Int)==10)=true:=beq_iff_eq.2 (by have:=Q.o;omega);go_wp2_with fail;go_ret;rw[E.o];exact⟨F,rfl,m,(fun _=>⟨i,_,_,_,_,p⟩),fun h=>by cases h⟩
     ·have L:((j.length:Int)==10)=false:=beq_eq_false_iff_ne.2 (by have:=Q.o;omega)
      by_cases V:aq s r.n=10
      ·have E:Hi (bO s 10 [] 0 none none=bO s k (a++[(ax s n,r.t)]) (r.n+1) r.bad (bV r n b)):=f.o.trans (by rw[if_neg (by omega)]);have M:Hi ((aq s r.n:Int)=10):=by show(aq s r.n:Int)=10;omega
       have af:r.n+1<=s.size:=bt (by omega);have HK:=ab x;go_wp2_with fail;refine(dD K p I 10 M (by omega)).mono ?_;rintro e w3 ⟨rfl,A,C⟩;have N:=ab (F.o.trans (A.mono (fun k _ e=>by have e':k=pb:=e;omega)));have G:=ab C;go_wp2_with fail
       go_roundw
       case rel =>
        have:=HK.o
        refine⟨rfl,k-1,r.n+1,a++[(ax s n,r.t)],r.bad,bV r n b,i,by rw[List.length_append];simp;omega,af,?_,G,ac,N,ad⟩;rw[show k-1+1=k by omega];exact E
       case measure =>
        rw[Z.o,G.o.place];omega
      ·have E:Hi (bO s 10 [] 0 none none=⟨false,r.n,a,r.bad,b⟩):=f.o.trans (by rw[if_pos (.inr V)]);have M:Hi ((aq s r.n:Int)≠10):=fun e=>V (by omega)
       go_wp2_with fail;refine(cq K p I m 10 M).mono ?_;rintro e w3 ⟨rfl,A,C⟩;have N:=ab (F.o.trans (A.mono (fun k _ e=>by have e':k=pb:=e;omega)));have G:=ab C;go_wp2_with fail;go_ret;rw[E.o];exact⟨N,rfl,m,(fun _=>⟨i,_,_,_,_,G⟩),fun h=>by cases h⟩
theorem jP(s:ByteArray)(w:World):
  Calls Tryz.prog 81 #[.string s] w fun e w'=>e=.returned (.agg #[.int .i64 0,.string s])/\Fr Zero w w':=by
 go_enter Tryz.func81,Tryz.ntmps81;go_wp2_with fail;exact bodyPost_ret (v:=.agg #[.int .i64 0,.string s]) (by simp[results,Tryz.results81,go_sem]) rfl ⟨rfl,Fr.alloc _ _ _⟩
theorem wI(s:ByteArray):∀(k:Nat) (lines:List (ByteArray×PT)) (n:Nat) (bad deep:Option Nat),(bO s k lines n bad deep).lines.length<=lines.length+k:=by
 intro k
 induction k with
 | zero=>intro lines n bad deep;exact Nat.le_refl _
 | succ k ih =>
  intro lines n bad deep;simp only[bO]
  split
  ·show lines.length<=_;omega
  ·split
   ·show(lines++[_]).length<=_
    rw[List.length_append];simp only[List.length_cons,List.length_nil];omega
   ·split
    ·show lines.length<=_;omega
    ·refine Nat.le_trans (ih _ _ _ _) ?_;rw[List.length_append];simp only[List.length_cons,List.length_nil];omega
def aL(s:ByteArray):Nat×Nat :=
 if 400<s.size then(1,0) else
 if(bO s 10 [] 0 none none).ok=false then(2,(bO s 10 [] 0 none none).n) else
 match (bO s 10 [] 0 none none).bad with
 | some m=>(3,m)
 | none=>match (bO s 10 [] 0 none none).deep with
  | some m=>(4,m)
  | none=>(0,0)
def iJ(s:ByteArray):PT:=(((bO s 10 [] 0 none none).lines.getLast?).map (·.2)).getD PT.dummy
def oJ(w:World)(s:ByteArray)(e:Ending)(w':World):Prop :=
 Fr Zero w w'/\(aL s=(0,0)->∃ a,e=.returned (.tuple #[.pointer (some a),.nilIface])/\TR w' Zero a (iJ s)) /\
  (∀ gh rZ,aL s=(gh,rZ)->gh≠0->∃ b,e=.returned (.tuple #[.pointer none,.iface 152 (.pointer (some ⟨b,0,none⟩))])/\w'.heap[b]?=some (.cells #[.int .i64 gh,.int .i64 rZ] 156 (0,0)))
theorem PS.start(w:World)(s:ByteArray):PS (w.alloc (.cells #[.int .i64 0,.string s,.slice none 0 0,.pointer none,.pointer none] 196)) (XO (One w.heap.size) (.slice none 0 0)) w.heap.size s 0 (.slice none 0 0) [] none none :=
 ⟨.pointer none,.pointer none,[],af rfl _,World.ownsRow_nil _ _ _ _,fun g hg=>by simp[Value.ownBlock] at hg,⟨rfl,fun j p q hp=>by simp at hp⟩,rfl,rfl⟩
theorem Words.one(h:Words w):5<w.heap.size:=(World.block_lt_of_cell? w _ (h 0 (by omega)):5<w.heap.size)
theorem yM(s:ByteArray)(w:World)(hl:400<s.size)(hs:s.size<=maxLen):
  Calls Tryz.prog 75 #[.string s] w fun e w'=>oJ w s e w':=by
 unfold maxLen at hs;have a:Hi (aL s=(1,0)):=by show aL s=_;unfold aL;rw[if_pos hl]
 go_enter Tryz.func75,Tryz.ntmps75;go_wp2_with fail;go_ret2;refine⟨Fr.alloc _ _ _,fun h=>?_,fun gh rZ h _=>?_⟩
 ·rw[a.o] at h;cases h
 ·rw[a.o] at h;cases h;exact⟨w.heap.size,rfl,af rfl _⟩
theorem wz(s:ByteArray)(w:World)(hl:s.size<=400)(hw:Words w):
  Calls Tryz.prog 75 #[.string s] w fun e w'=>oJ w s e w':=by
 have P:=hw.one;have Q:¬((400:Int)<(s.size:Int)):=by omega
 go_enter Tryz.func75,Tryz.ntmps75;go_wp2_with fail;refine(jP s _).mono ?_;rintro e L ⟨rfl,(r:Hi _)⟩;go_wp2_with fail;refine(pq (B:=w.heap.size) (PS.start L s) P r.o.size (fun g hg=>by simp[Value.ownBlock] at hg) (hw.ae (r.o.trans (Fr.alloc _ _ _)) (fun h=>h)) hl).mono ?_
 have x:Hi (aL s=if(bO s 10 [] 0 none none).ok=false then(2,(bO s 10 [] 0 none none).n) else
   match (bO s 10 [] 0 none none).bad with
   | some m=>(3,m)
   | none=>match (bO s 10 [] 0 none none).deep with
    | some m=>(4,m)
    | none=>(0,0)):=by show aL s=_;unfold aL;rw[if_neg (by omega)]
 have u:=wI s 10 [] 0 none none;simp only[List.length_nil,Nat.zero_add] at u;have v:Hi (iJ s=(((bO s 10 [] 0 none none).lines.getLast?).map (·.2)).getD PT.dummy):=rfl;generalize bO s 10 [] 0 none none=d at *;rintro e E ⟨ao,rfl,Z,dH,f⟩;have k:Hi (Fr Zero w E):=(r.o.trans (Fr.alloc _ _ _)).past ao;rcases hr:d.ok with _|_
 ·obtain⟨lv,X,F,aa,M,N⟩:=dH hr;have S:=N.dM;have j:Hi (aL s=(2,d.n)):=x.o.trans (by rw[hr];rfl);go_wp2_with fail;refine(gw L.heap.size d.n _ S).mono ?_;rintro e w3 ⟨rfl,e3⟩;obtain rfl:=e3.symm;go_wp2_with fail;go_ret2;refine⟨k.o.trans (Fr.alloc _ _ _),fun h=>?_,fun gh rZ h _=>?_⟩
  ·rw[j.o] at h;cases h
  ·rw[j.o] at h;cases h;exact⟨E.heap.size,rfl,af rfl _⟩
 ·obtain⟨lv,⟨bn,td,a,y,z,G,H,t,hd⟩,cF⟩:=f hr
  have c:Hi (aL s=match d.bad with
    | some m=>(3,m)
    | none=>match d.deep with
     | some m=>(4,m)
     | none=>(0,0)):=x.o.trans (by rw[hr];rfl)
  have T:=y.fM;have k3:=y.dw;have k4:=y.gS;rcases hbd:d.bad with _|m
  ·rw[hbd] at t;have U:bn=.pointer none:=t;subst U;rcases hdp:d.deep with _|m
   ·rw[hdp] at hd;have V:td=.pointer none:=hd;subst V;have j:Hi (aL s=(0,0)):=c.o.trans (by rw[hbd,hdp]);have aX:=H.length;have l:0<d.lines.length:=List.length_pos_iff.2 cF;obtain⟨m,O⟩:∃ m,a.length=m+1:=⟨a.length-1,by omega⟩;obtain⟨p,I⟩:∃ p,a[m]?=some p:=⟨a[m]'(by omega),by simp⟩;obtain⟨q,J⟩:∃ q,d.lines[m]?=some q:=⟨d.lines[m]'(by omega),by simp⟩;have K:=H.2 m p q I J
    have A:Hi (iJ s=q.2):=by
     show iJ s=q.2;rw[v.o,List.getLast?_eq_getElem?,show d.lines.length-1=m by omega,J];rfl
    have C:=ab (K.aY (Y:=Zero) (fun b _ h=>h.elim));rcases z.2 with⟨_,hz⟩|⟨g,au,ac,hv,_⟩
    ·omega
    ·subst hv;rw[O] at z T
     have hc:E.cell? ⟨g,m*2+1,none⟩=some (.pointer (some p.2)):=by
      rw[z.cellAt (m*2+1) (by omega)];exact(a8 a m p I).2
     have W:(m:Int)<10:=by omega
     go_wp2_with fail;go_ret2;refine⟨k,fun _=>⟨p.2,rfl,by rw[A.o];exact C⟩,fun gh rZ h h0=>?_⟩;rw[j.o] at h;cases h;exact absurd rfl h0
   ·rw[hdp] at hd;obtain⟨b,rfl,i⟩:=hd;have j:Hi (aL s=(4,m)):=c.o.trans (by rw[hbd,hdp]);go_wp2_with fail
    go_quiet (fail)
    go_wp2_with fail;go_ret2;refine⟨k.o.trans (Fr.drewN _ _ _),fun h=>?_,fun gh rZ h _=>?_⟩
    ·rw[j.o] at h;cases h
    ·rw[j.o] at h;cases h;exact⟨b,rfl,i⟩
  ·rw[hbd] at t;obtain⟨b,rfl,i⟩:=t;have j:Hi (aL s=(3,m)):=c.o.trans (by rw[hbd]);go_wp2_with fail
   go_quiet (fail)
   go_wp2_with fail;go_ret2;refine⟨k.o.trans (Fr.drewN _ _ _),fun h=>?_,fun gh rZ h _=>?_⟩
   ·rw[j.o] at h;cases h
   ·rw[j.o] at h;cases h;exact⟨b,rfl,i⟩
end Go.Proofs.YtpffifpbpmlhdaaGreatDoor
