import Derived.Test.YtpffifpbpmlhdaaGreatDoorBsVFromM
import Derived.Test.YtpffifpbpmlhdaaGreatDoorBsDRow
set_option maxHeartbeats 32000000
set_option maxRecDepth 100000
namespace Go.Proofs.YtpffifpbpmlhdaaGreatDoor
open Go.RowKit
variable {w w':World}{k i N B tb db x:Nat}{f:Bs->Nat}{l r:Bs}{bad:Bool}{s:ByteArray}{v:PV}{tab:List RT}{roots:List Nat}{t:PT}
theorem Ab:(Tryz.prog.info? 273).map (fun i=>(i.zero,i.size,i.bytes))=some (some (.agg #[.string ⟨#[]⟩,.int .i64 0]),2,24):=by kernel_rfl
theorem Aa:(Tryz.prog.info? 104).map (fun i=>(i.zero,i.size,i.bytes))=some (some (.agg #[.string ⟨#[]⟩,.string ⟨#[]⟩]),2,32):=by kernel_rfl
theorem qt{x y:Value}{t:TypeId}(hk:w.heap.size=k)(he:w'.heap=(w.alloc (.cells #[x,y] t)).heap):∀(j:Nat) (q:Value),[x,y][j]?=some q->w'.cell? ((⟨k,0,none⟩:Addr).add j)=some q:=by
 subst hk;have h:w'.heap[w.heap.size]?=some (.cells #[x,y] t (0,0)):=by rw[he];exact af rfl _
 intro j q a
 match j,a with
 | 0,a=>simp at a;subst a;simp[Addr.add,World.cell?,h]
 | 1,a=>simp at a;subst a;simp[Addr.add,World.cell?,h]
 | j+2,a=>simp at a
theorem G9(n:Nat)(h:n<18446744073709551616):wrap64 (n:Int)=toInt64 n:=by
 unfold toInt64 wrap64;split<;>omega
def GL(tb B db:Nat)(s:ByteArray)(ar:List (Bs×Int))(ways:List (Bs×Bs))(st:Bs)(w:World)(p:Option Bs×Bs)(vf:Bs->Int)(e:Ending)(w':World):Prop :=
 gR tb w w'/\∃(dh:List (Bs×Int)) (tx:ByteArray),KS w' B tb db s p.2 p.1.isNone dh ways/\dh.length=ar.length+1/\e=.returned (.string tx)/\∀ b,p.1=some b->dh=ar++[(st,vf b)]/\tx=ba (gq (vf b))
def r8(f:Bs->Nat)(l:Bs)(i N:Nat)(r:Bs)(bad:Bool):Prop :=
 N<256^i/\(bad=false->i<=l.length/\r=l.drop i/\N=f (l.take i))/\(bad=true->l.length<i/\r=[])
theorem r8.more(h:r8 f l i N r false){N':Nat}(hN:N'<256^(i+1))(hf:∀ b r',r=b::r'->N'=f (l.take (i+1))):
  r8 f l (i+1) N' (aK 256 r).2 (aK 256 r).1.isNone:=by
 obtain⟨g,e,j⟩:=h;obtain⟨k,a,m⟩:=e rfl;refine⟨hN,?_⟩;rcases r with _|⟨b,r'⟩
 ·have c:l.length=i:=by
   have:=congrArg List.length a
   simp at this;omega
  exact⟨fun h=>by simp[aK] at h,fun _=>⟨by omega,rfl⟩⟩
 ·have d:aK 256 (b::r')=(some b.toNat,r'):=by simp only[aK];rw[if_pos b.toNat_lt]
  rw[d];refine⟨fun _=>?_,fun h=>by simp at h⟩
  have c:i<l.length:=by
   have:=congrArg List.length a
   simp at this;omega
  refine⟨by omega,?_,hf b r' rfl⟩;rw[<-List.drop_drop (i:=1),<-a];rfl
theorem r8.Ay(h:r8 f l i N r true){N':Nat}(hN:N'<256^(i+1)):r8 f l (i+1) N' r true:=by
 obtain⟨c,d,a⟩:=h;obtain⟨e,b⟩:=a rfl;exact⟨hN,fun h=>by simp at h,fun _=>⟨by omega,b⟩⟩
theorem r8.done{c:Nat}(h:r8 f l c N r bad):bw c l=(if bad then none else some (l.take c),r)/\(bad=false->N=f (l.take c)):=by
 obtain⟨i,d,e⟩:=h;cases bad with
 | true=>obtain⟨b,a⟩:=e rfl;exact⟨by simp[bw,b,a],fun h=>by simp at h⟩
 | false=>obtain⟨b,a,g⟩:=d rfl;exact⟨by unfold bw;rw[if_neg (by omega),a];rfl,fun _=>g⟩
theorem uR{b:UInt8}(h:l.drop i=b::r):l.take (i+1)=l.take i++[b]:=by
 have c:i<l.length:=by
  rcases Nat.lt_or_ge i l.length with a|a
  ·exact a
  ·rw[List.drop_eq_nil_of_le a] at h;simp at h
 rw[List.take_succ_eq_append_getElem c]
 have:l[i]=b:=by
  have:=List.drop_eq_getElem_cons c
  rw[h] at this;have d:=congrArg List.head? this;simp only[List.head?_cons,Option.some.injEq] at d;exact d.symm
 rw[this]
theorem FA(h:i<=7):256^i<=72057594037927936:=Nat.pow_le_pow_right (by omega) h
theorem FB(h:i<=3):256^i<=16777216:=Nat.pow_le_pow_right (by omega) h
theorem DX{ar:List (Bs×Int)}{ways:List (Bs×Bs)}(h:KS w B tb db s l false ar ways)(hs:s.size<=maxLen)(st:Bs)(hn:ar.length<=1000000)(hB:B<=w.heap.size):
  Calls Tryz.prog 130 #[.pointer (some ⟨tb,0,none⟩),.int .i64 3,.string (ba st)] w fun e w'=>GL tb B db s ar ways st w (bw 8 l) (fun b=>toInt64 (fp b)) e w':=by
 have HK:=ab h;clear h;go_enter Tryz.func130,Tryz.ntmps130;go_wp2_with fail
 go_loopw [7,8] (fun nv iv wr=>∃(i N:Nat) (r:Bs) (a:Bool),i<=8/\nv=.int .u64 N/\iv=.int .i64 i/\Hi (r8 fp l i N r a)/\Hi (KS wr B tb db s r a ar ways)/\Hi (gR tb w wr)) (fun _ iv _=>8-(intOf iv).toNat)
 case atStart=>exact⟨0,0,l,false,by omega,rfl,rfl,⟨by simp,fun _=>⟨by omega,rfl,rfl⟩,fun h=>by simp at h⟩,HK,gR.refl _ _⟩
 case round =>
  obtain⟨i,N,r,a,ak,rfl,rfl,v,t,T⟩:=hrel
  by_cases y:i<8
  ·have hI:(i:Int)<8:=by omega
   have z:=v.o.1;have Hg:=FA (i:=i) (by omega);have Q:N<=72057594037927935:=by omega
   have A:=ab z;have C:Hi (256^(i+1)=256^i*256):=Nat.pow_succ _ _;clear z Hg;cases a with
   | true =>
    go_wp2_with fail;refine(s9 t _).mono ?_;rintro e w1 ⟨f,j,rfl⟩;have m:=ab (T.o.trans f);have n:=ab j;clear f j;go_wp2_with fail
    go_roundw
    case rel =>
     have D:=A.o;have Y:=C.o;exact⟨i+1,N*256,r,true,by omega,by go_num,by go_num,v.o.Ay (by rw[Y];omega),n,m⟩
    case measure=>simp[intOf];omega
   | false =>
    go_wp2_with fail;refine(gO t hs 256 (by omega)).mono ?_;rintro e w1 ⟨f,j,rfl⟩;have m:=ab (T.o.trans f);have n:=ab j
    obtain⟨d,hd,al,mX⟩:∃ d:Nat,(aK 256 r).1.getD 0=d/\d<256/\∀ b G,r=b::G->d=b.toNat:=by
     refine⟨_,rfl,?_,fun b G e=>?_⟩
     ·rcases r with _|⟨b,G⟩
      ·simp[aK]
      ·have:=b.toNat_lt
       simp only[aK];rw[if_pos this];exact this
     ·subst e;simp only[aK];rw[if_pos b.toNat_lt];rfl
    rw[hd];have Z:=ab mX;clear f j hd mX;go_wp2_with fail
    go_roundw
    case rel =>
     have D:=A.o;have Y:=C.o;refine⟨i+1,N*256+d,_,_,by omega,by go_num,by go_num,v.o.more (by rw[Y];omega) (fun b G e=>?_),n,m⟩;obtain⟨_,q2,q3⟩:=v.o.2.1 rfl;rw[uR (q2.symm.trans e),qN,<-q3,Z.o b G e]
    case measure=>simp[intOf];omega
  ·have R:i=8:=by omega
   subst R;have hI:¬((8:Nat):Int)<8:=by omega
   obtain⟨E,ai⟩:=v.o.done;have Q:=v.o.1
   have hv:∀ b,(bw 8 l).1=some b->toInt64 (fp b)=wrap64 N:=fun b c=>by
    rw[E] at c;cases a with
    | true=>simp at c
    | false=>simp at c;subst c;rw[<-ai rfl];exact(G9 N (by simpa using Q)).symm
   replace E:(bw 8 l).2=r/\(bw 8 l).1.isNone=a:=by rw[E];cases a<;>exact⟨rfl,rfl⟩
   have Q:N<=18446744073709551615:=by simp at Q;omega
   have aa:=ab hv;have F:=ab E;obtain⟨nv,wv,c,H,hn,hw⟩:=t.o
   obtain⟨U,W,rfl⟩:∃ U W,nv=.slice U ar.length W:=by
    rcases hn.2 with⟨D,h0⟩|⟨g,au,am,D,_⟩
    ·exact⟨none,0,by rw[D,h0]⟩
    ·exact⟨_,_,D⟩
   have k4:=c.gS;have f4:=c.free 4;have y:=c.lt;have HB:=ab c;have S:=ab hn;have ac:=ab hw;have ad:=ab H;have dJ:=T.o.fr.size;clear c hn hw H hv E;obtain⟨V,hV⟩:∃ V,wrap64 (N:Int)=V:=⟨_,rfl⟩;have af:-9223372036854775808<=V:=by rw[<-hV];unfold wrap64;omega
   have ag:V<=9223372036854775807:=by rw[<-hV];unfold wrap64;omega
   have ah:=ab hV;obtain⟨i0,R,I,J,K⟩:=info_parts Ab
   go_wp2_with (at_builtin;refine az _ rfl _ _ 105 rfl B 273 i0 (.agg #[.string ⟨#[]⟩,.int .i64 0]) 2 24 Tryz.underlying105 R I J K rfl (by decide) (.slice U ar.length W) ar.length (gz ar) rfl ?o1 ⟨wr.heap.size,0,none⟩ 1 1 (by omega) [.string (ba st),.int .i64 (V)] rfl rfl ?c1 ?c2 ?c3 ?c4 ?c5 ?_)
   case o1=>exact S.o.alloc _
   case c2=>exact⟨rfl,rfl⟩
   case c3=>unfold maxLen;omega
   case c4=>omega
   case c5=>have:=S.o;simp;omega
   intro v' w4 L u gn M aj O;subst aj;have p:=HB.o.ae (Fr.alloc Zero _ (.cells #[.string (ba st),.int .i64 (V)] 273)) (fun h=>h);have HE:=ab (KS.Au (st,V) p ad.o (S.o.alloc _) (ac.o.alloc _) (by rw[mx];exact L) u ⟨gn,M,rfl,by simpa using O⟩);have q:=p.ae (Fr.grown (X:=fun k=>(Value.slice U ar.length W).ownBlock=some k) u (fun k e _=>e)) (fun e=>gI S.o HB.o.block (by decide) e);have q4:=q.gS;have qf:=q.free 4;clear L u O p q k4 f4 R I J K;go_wp2_with fail;refine(jK (V) af ag _).mono ?_;rintro e w5 ⟨rfl,(P:Hi _)⟩;go_wp2_with fail;go_ret;refine⟨((T.o.trans (gR.quiet (Fr.alloc _ _ _) y)).trans HE.o.2).trans (gR.quiet P HE.o.1.lt),ar++[(st,V)],_,?_,by simp,rfl,fun b c=>?_⟩
   ·rw[F.o.1,F.o.2];exact HE.o.1.quiet P
   ·have e:=ah.o.symm.trans (aa.o b c).symm;exact⟨congrArg (fun x=>ar++[(st,x)]) e,congrArg (fun x=>ba (gq x)) e⟩
theorem zi{ar:List (Bs×Int)}{ways:List (Bs×Bs)}(h:KS w B tb db s l false ar ways)(hs:s.size<=maxLen)(kind:Nat)(BT:kind<=2)(st:Bs)(hn:ar.length<=1000000)(hB:B<=w.heap.size):
  Calls Tryz.prog 130 #[.pointer (some ⟨tb,0,none⟩),.int .i64 kind,.string (ba st)] w fun e w'=>GL tb B db s ar ways st w (bw (aT kind) l) (fun b=>cC b) e w':=by
 have HK:=ab h;have av:((kind:Int)==3)=false:=beq_eq_false_iff_ne.2 (by omega)
 have aa:Hi (2^kind=aT kind):=by
  obtain rfl|rfl|rfl:kind=0\/kind=1\/kind=2:=by omega
  all_goals rfl
 clear h;go_enter Tryz.func130,Tryz.ntmps130;go_wp2_with fail
 go_loopw [11,12] (fun sv iv wr=>∃ i:Nat,i<=kind/\sv=.int .i64 ((2^i:Nat):Int)/\iv=.int .i64 i/\Hi (wr=w)) (fun _ iv _=>kind-(intOf iv).toNat)
 case atStart=>exact⟨0,by omega,rfl,rfl,rfl⟩
 case round =>
  obtain⟨j,aw,rfl,rfl,P⟩:=hrel;obtain rfl:=P.o.symm;clear P
  by_cases u:j<kind
  ·have hI:(j:Int)<(kind:Int):=by omega
   have v:2^j<=2^2:=Nat.pow_le_pow_right (by omega) (by omega);have HP:Hi (2^(j+1)=2^j*2):=Nat.pow_succ _ _;obtain⟨q,I⟩:∃ q,2^j=q:=⟨_,rfl⟩;rw[I] at v HP ⊢;clear I;go_wp2_with fail
   go_roundw
   case rel=>exact⟨j+1,by omega,by rw[HP.o];go_num,by go_num,(trivial:True)⟩
   case measure=>simp[intOf];omega
  ·have hj:j=kind:=by omega
   subst hj;have hI:¬(j:Int)<(j:Int):=by omega
   rw[aa.o];obtain⟨c,hc⟩:∃ c,aT j=c:=⟨_,rfl⟩;have ac:c<=4:=by rw[<-hc];unfold aT;split;omega;split<;>omega
   rw[hc];have HC:=ab hc;clear hc u;go_wp2_with fail
   go_loopw [7,10,13] (fun nv bv iv wr=>∃(i N:Nat) (r:Bs) (a:Bool),i<=c/\nv=.int .u64 N/\bv=.int .u64 ((256^i:Nat):Int)/\iv=.int .i64 i/\Hi (r8 cC l i N r a)/\Hi (KS wr B tb db s r a ar ways)/\Hi (gR tb w wr)) (fun _ _ iv _=>c-(intOf iv).toNat)
   case atStart=>exact⟨0,0,l,false,by omega,rfl,rfl,rfl,⟨by simp,fun _=>⟨by omega,rfl,rfl⟩,fun h=>by simp at h⟩,HK,gR.refl _ _⟩
   case round =>
    obtain⟨i,N,r,a,ax,rfl,rfl,rfl,J,F,HF⟩:=hrel
    by_cases u:i<c
    ·have hI:(i:Int)<(c:Int):=by omega
     have K:=J.o.1;have Hg:=FB (i:=i) (by omega);have hN:N<=16777215:=by omega
     have y:=ab K;have z:Hi (256^(i+1)=256^i*256):=Nat.pow_succ _ _;obtain⟨q,I⟩:∃ q,256^i=q:=⟨_,rfl⟩;have HQ:=ab I;rw[I] at Hg y z ⊢;clear K I;cases a with
     | true =>
      go_wp2_with fail;refine(s9 F _).mono ?_;rintro e w1 ⟨p,t,rfl⟩;have A:=ab (HF.o.trans p);have C:=ab t;clear p t;go_wp2_with fail
      go_roundw
      case rel =>
       have L:=y.o;have v:=z.o;exact⟨i+1,N,r,true,by omega,by go_num,by rw[v];go_num,by go_num,J.o.Ay (by rw[v];omega),C,A⟩
      case measure=>simp[intOf];omega
     | false =>
      go_wp2_with fail;refine(gO F hs 256 (by omega)).mono ?_;rintro e w1 ⟨p,t,rfl⟩;have A:=ab (HF.o.trans p);have C:=ab t
      obtain⟨d,hd,ay,mX⟩:∃ d:Nat,(aK 256 r).1.getD 0=d/\d<256/\∀ b Q,r=b::Q->d=b.toNat:=by
       refine⟨_,rfl,?_,fun b Q e=>?_⟩
       ·rcases r with _|⟨b,Q⟩
        ·simp[aK]
        ·have:=b.toNat_lt
         simp only[aK];rw[if_pos this];exact this
       ·subst e;simp only[aK];rw[if_pos b.toNat_lt];rfl
      rw[hd];have ad:=ab mX;have af:q*d<=16777216*255:=Nat.mul_le_mul Hg (by omega);have m:q*d<=q*255:=Nat.mul_le_mul_left q (by omega);have ag:(q:Int)*(d:Int)=((q*d:Nat):Int):=by simp
      obtain⟨e0,G⟩:∃ e0,q*d=e0:=⟨_,rfl⟩;rw[G] at af m ag;have ah:=ab G;have ai:=ab m;clear p t hd mX G m;go_wp2_with fail
      go_roundw
      case rel =>
       have L:=y.o;have v:=z.o;have h3:=ai.o;refine⟨i+1,N+e0,_,_,by omega,by go_num,by rw[v];go_num,by go_num,J.o.more (by rw[v];omega) (fun b Q e=>?_),C,A⟩;obtain⟨q1,q2,q3⟩:=J.o.2.1 rfl;rw[uR (q2.symm.trans e),qD,<-q3,<-ad.o b Q e,List.length_take,Nat.min_eq_left q1,HQ.o,ah.o]
      case measure=>simp[intOf];omega
    ·have hi:i=c:=by omega
     subst hi;have hI:¬(i:Int)<(i:Int):=by omega
     obtain⟨M,ap⟩:=J.o.done;have hN:=Nat.lt_of_lt_of_le J.o.1 (Nat.pow_le_pow_right (n:=256) (by omega) ac);have hN:N<=4294967295:=by simp at hN;omega
     have hv:∀ b,(bw (aT j) l).1=some b->(cC b:Int)=wrap64 N:=fun b f=>by
      rw[HC.o,M] at f;cases a with
      | true=>simp at f
      | false=>simp at f;subst f;rw[<-ap rfl];unfold wrap64;omega
     replace M:(bw (aT j) l).2=r/\(bw (aT j) l).1.isNone=a:=by rw[HC.o,M];cases a<;>exact⟨rfl,rfl⟩
     have aj:=ab hv;have O:=ab M;obtain⟨nv,wv,f,R,hn,hw⟩:=F.o
     obtain⟨na,nc,rfl⟩:∃ na nc,nv=.slice na ar.length nc:=by
      rcases hn.2 with⟨L,h0⟩|⟨g,au,aA,L,_⟩
      ·exact⟨none,0,by rw[L,h0]⟩
      ·exact⟨_,_,L⟩
     have k4:=f.gS;have f4:=f.free 4;have u:=f.lt;have HB:=ab f;have HN:=ab hn;have ak:=ab hw;have al:=ab R;have dJ:=HF.o.fr.size;clear f hn hw R hv M;have am:-9223372036854775808<=(N:Int):=by omega
     have an:(N:Int)<=9223372036854775807:=by omega
     have ao:Hi (wrap64 (N:Int)=(N:Int)):=ab (by unfold wrap64;omega);obtain⟨i0,hi,S,T,U⟩:=info_parts Ab
     go_wp2_with (at_builtin;refine az _ rfl _ _ 105 rfl B 273 i0 (.agg #[.string ⟨#[]⟩,.int .i64 0]) 2 24 Tryz.underlying105 hi S T U rfl (by decide) (.slice na ar.length nc) ar.length (gz ar) rfl ?o1 ⟨wr.heap.size,0,none⟩ 1 1 (by omega) [.string (ba st),.int .i64 ((N:Int))] rfl rfl ?c1 ?c2 ?c3 ?c4 ?c5 ?_)
     case o1=>exact HN.o.alloc _
     case c2=>exact⟨rfl,rfl⟩
     case c3=>unfold maxLen;omega
     case c4=>omega
     case c5=>have:=HN.o;simp;omega
     intro v' w4 V H gn W aq Y;subst aq;have D:=HB.o.ae (Fr.alloc Zero _ (.cells #[.string (ba st),.int .i64 ((N:Int))] 273)) (fun h=>h);have HE:=ab (KS.Au (st,(N:Int)) D al.o (HN.o.alloc _) (ak.o.alloc _) (by rw[mx];exact V) H ⟨gn,W,rfl,by simpa using Y⟩);have E:=D.ae (Fr.grown (X:=fun k=>(Value.slice na ar.length nc).ownBlock=some k) H (fun k e _=>e)) (fun e=>gI HN.o HB.o.block (by decide) e);have q4:=E.gS;have qf:=E.free 4;clear V H Y D E k4 f4 hi S T U;go_wp2_with fail;refine(jK ((N:Int)) am an _).mono ?_;rintro e w5 ⟨rfl,(Z:Hi _)⟩;go_wp2_with fail;go_ret;refine⟨((HF.o.trans (gR.quiet (Fr.alloc _ _ _) u)).trans HE.o.2).trans (gR.quiet Z HE.o.1.lt),ar++[(st,(N:Int))],_,?_,by simp,rfl,fun b f=>?_⟩
     ·rw[O.o.1,O.o.2];exact HE.o.1.quiet Z
     ·have e:=ao.o.symm.trans (aj.o b f).symm;exact⟨congrArg (fun x=>ar++[(st,x)]) e,congrArg (fun x=>ba (gq x)) e⟩
def GI(tb B db:Nat)(s:ByteArray)(ar:List (Bs×Int))(ways:List (Bs×Bs))(w:World)(p:Option Bs×Bs)(tf:Bs->Bs)(e:Ending)(w':World):Prop :=
 gR tb w w'/\∃ tx:ByteArray,KS w' B tb db s p.2 p.1.isNone ar ways/\e=.returned (.string tx)/\∀ b,p.1=some b->tx=ba (tf b)
theorem BO.new(w:World)(b:UInt8)(x:Int)(hx:x=b.toNat):BO (w.alloc (.cells #[.int .u8 x] 5)) w.heap.size (.slice (some ⟨w.heap.size,0,none⟩) 1 1) [b]:=by
 subst hx;refine⟨⟨rfl,.inr ⟨w.heap.size,1,#[.int .u8 b.toNat],rfl,Nat.zero_le _,af rfl _,Nat.le_refl _,by unfold maxLen;omega,rfl,rfl⟩⟩,fun g hg=>?_⟩;simp[Value.ownBlock] at hg;omega
structure KT(w wr:World)(tb db:Nat)(s:ByteArray)(nv wv:Value)(r:Bs)(bad:Bool)(sv:Value)(acc:Bs):Prop where
 kb:KB wr tb db s r bad nv wv
 bo:BO wr w.heap.size sv acc
 fr:Fr (TX tb w) w wr
 lt:tb<w.heap.size
section
variable {w wr w':World} {tb db:Nat} {s:ByteArray} {nv wv:Value} {r:Bs} {bad:Bool} {sv:Value} {acc:Bs}
theorem KT.drewN(h:KT w wr tb db s nv wv r bad sv acc)(k:Nat):KT w (wr.drewN k) tb db s nv wv r bad sv acc :=
 ⟨h.kb.ae (Fr.drewN Zero _ _) (fun h=>h),h.bo.ae (Fr.drewN Zero _ _) (fun _ _ h=>h),h.fr.trans (Fr.drewN _ _ _),h.lt⟩
theorem KT.alloc(h:KT w wr tb db s nv wv r bad sv acc)(o:Obj):KT w (wr.alloc o) tb db s nv wv r bad sv acc :=
 ⟨h.kb.ae (Fr.alloc Zero _ _) (fun h=>h),h.bo.alloc o,h.fr.trans (Fr.alloc _ _ _),h.lt⟩
theorem KT.o(h:KT w wr tb db s nv wv r bad sv acc){v':Value}{xQ:Bs}(hb:BO w' w.heap.size v' xQ)(hf:Fr (bk w.heap.size) wr w'):KT w w' tb db s nv wv r bad v' xQ :=
 ⟨h.kb.ae hf (fun e=>by unfold bk at e;have:=h.lt;omega),hb,h.fr.trans (hf.mono (fun _ _ e=>.inr e)),h.lt⟩
theorem KT.one(h:KT w wr tb db s nv wv r bad sv acc){r':Bs}{bd:Bool}(hb:KB w' tb db s r' bd nv wv)(hf:Fr (One tb) wr w'):KT w w' tb db s nv wv r' bd sv acc :=
 ⟨hb,h.bo.ae hf (fun k hk e=>by have e':k=tb:=e;have:=h.lt;omega),h.fr.trans (hf.mono (fun _ _ e=>.inl e)),h.lt⟩
theorem KT.size(h:KT w wr tb db s nv wv r bad sv acc):w.heap.size<=wr.heap.size:=h.fr.size
end
theorem BK{ar:List (Bs×Int)}{ways:List (Bs×Bs)}(h:KS w B tb db s l false ar ways)(hs:s.size<=maxLen):
  Calls Tryz.prog 132 #[.pointer (some ⟨tb,0,none⟩)] w fun e w'=>GI tb B db s ar ways w (iq l) (fun b=>34::(gP b++[34])) e w':=by
 have HK:=ab h;clear h;go_enter Tryz.func132,Tryz.ntmps132;go_wp2_with fail;refine(mU HK hs).mono ?_;rintro e E ⟨F,af,n,rfl,hn,K⟩;have aj:=ab F;obtain⟨P,Q,u,ew,G,H⟩:=af
 have M:Hi (∀(w':World) (r:Bs) (bd:Bool),KB w' tb db s r bd P Q->Fr (TX tb E) E w'->KS w' B tb db s r bd ar ways/\gR tb w w'):=fun w' r bd kc hf' =>
  ⟨(KS.oL u ew G H kc hf').1,F.trans (KS.oL u ew G H kc hf').2⟩
 have t:Hi (KT E (E.alloc (.cells #[.int .u8 34] 5)) tb db s P Q (bj l).2 (bj l).1.isNone (.slice (some ⟨E.heap.size,0,none⟩) 1 1) [34]) :=
  ⟨u.ae (Fr.alloc Zero _ _) (fun h=>h),BO.new E 34 34 rfl,Fr.alloc _ _ _,u.lt⟩
 rcases hc:bj l with⟨_|m,A⟩
 ·rw[hc] at t;have L:Hi (iq l=(none,A)):=ab (by unfold iq;rw[hc]);clear F u ew G H K hc;simp only[Option.isNone_none] at t;go_wp2_with fail
  go_loopw [4,5] (fun sv iv wr=>iv=.int .i64 0/\Hi (KT E wr tb db s P Q A true sv [34])) (fun _ _ _=>0)
  case atStart=>exact⟨rfl,t⟩
  case round =>
   obtain⟨rfl,a⟩:=hrel;have h3:=a.o.kb.dw;obtain⟨sa,sc,rfl⟩:=a.o.bo.len;have dJ:=a.o.size;rcases Nat.eq_zero_or_pos n with R|R
   all_goals
    first
     |(have X:(0:Int)<(n:Int):=by omega)
     |(have X:decide ((0:Int)<(n:Int))=false:=decide_eq_false (by omega)
       have ak:decide (0<n)=false:=decide_eq_false (by omega))
    clear R
    go_wp2_with (at_builtin;refine bx rfl (.tmp 88) (.tmp 89) 118 rfl [34] rfl rfl (a.o.alloc (.cells #[.int .u8 34] 5)).bo (ez rfl) ?hb4 ?hl4 ?_)
    case hb4=>first|omega|(simp;omega)|simp
    case hl4=>first|omega|(simp;omega)|simp
    intro v4 w4 p x _;have v:=ab ((a.o.alloc (.cells #[.int .u8 34] 5)).o p x);have Y:=p.conv;clear p x;go_wp2_with fail;go_ret
    have:=M.o _ _ _ v.o.kb v.o.fr
    rw[L.o];exact⟨this.2,_,this.1,rfl,fun b hb=>by simp at hb⟩
 ·have Z:n=m:=K m (by rw[hc]);subst Z;rw[hc] at t;have L:Hi (iq l=gY n [] A):=ab (by unfold iq;rw[hc]);clear F u ew G H K hc;simp only[Option.isNone_some] at t;go_wp2_with fail
  go_loopw [4,5] (fun sv iv wr=>∃(k:Nat) (c r:Bs),k<=n/\iv=.int .i64 k/\c.length=k/\Hi (gY n [] A=gY (n-k) c r)/\Hi (KT E wr tb db s P Q r false sv ([34]++gP c))) (fun _ iv _=>n-(intOf iv).toNat)
  case atStart=>exact⟨0,[],A,by omega,rfl,rfl,rfl,t⟩
  case round =>
   obtain⟨k,c,r,hk,rfl,S,T,a⟩:=hrel;have al:=oN c;have h1:=a.o.kb.cE;have h2:=a.o.kb.fM;have h3:=a.o.kb.dw;have f2:=a.o.kb.free 2;have f3:=a.o.kb.free 3
   by_cases am:k<n
   ·have X:(k:Int)<(n:Int):=by omega
    have an:=a.o.kb.gj;have aa:=hs;unfold maxLen at aa;have g:n-k=n-(k+1)+1:=by omega
    rcases r with _|⟨b,r⟩
    ·have he:=a.o.kb.end;have ao:((s.size:Nat):Int)<=((pos s []:Nat):Int):=by omega
     have ap:s.size<=pos s []:=by omega
     have d:Hi (gY n [] A=(none,[])):=T.o.trans (by rw[g];rfl);clear he g;go_wp2_with fail
     go_quiet (fail)
     go_wp2_with fail;go_ret;have i:=(a.o.drewN nq).one ((a.o.drewN nq).kb.mark true) (Fr.setCell (One tb) _ _ _ rfl)
     have:=M.o _ _ _ i.kb i.fr
     rw[L.o,d.o];exact⟨this.2,_,this.1,rfl,fun b hb=>by simp at hb⟩
    ·obtain⟨hp,ag,U,C⟩:=a.o.kb.next;replace C:=C hp;have aq:((pos s (b::r):Nat):Int)<((s.size:Nat):Int):=by omega
     have ac:decide (s.size<=pos s (b::r))=false:=decide_eq_false (by omega);have au:=b.toNat_lt;have HG:=ab C;have av:((s[pos s (b::r)].toNat:Nat):Int)=((b.toNat:Nat):Int):=by rw[C]
     by_cases aw:b.toNat<32
     ·have d:Hi (gY n [] A=(none,b::r)):=T.o.trans (by rw[g];simp only[gY];rw[if_neg (by omega)]);have hx:((b.toNat:Nat):Int)<32:=by omega
      clear g;go_wp2_with fail
      go_quiet (fail)
      go_wp2_with fail;go_ret;have i:=(a.o.drewN nq).one ((a.o.drewN nq).kb.mark true) (Fr.setCell (One tb) _ _ _ rfl)
      have:=M.o _ _ _ i.kb i.fr
      rw[L.o,d.o];exact⟨this.2,_,this.1,rfl,fun b hb=>by simp at hb⟩
     ·by_cases ah:126<b.toNat
      ·have d:Hi (gY n [] A=(none,b::r)):=T.o.trans (by rw[g];simp only[gY];rw[if_neg (by omega)]);have hx:decide (((b.toNat:Nat):Int)<32)=false:=decide_eq_false (by omega);have hy:126<((b.toNat:Nat):Int):=by omega
       clear g;go_wp2_with fail
       go_quiet (fail)
       go_wp2_with fail;go_ret;have i:=(a.o.drewN nq).one ((a.o.drewN nq).kb.mark true) (Fr.setCell (One tb) _ _ _ rfl)
       have:=M.o _ _ _ i.kb i.fr
       rw[L.o,d.o];exact⟨this.2,_,this.1,rfl,fun b hb=>by simp at hb⟩
      ·have d:Hi (gY n [] A=gY (n-(k+1)) (c++[b]) r):=T.o.trans (by rw[g];simp only[gY];rw[if_pos (by omega)]);have hx:decide (((b.toNat:Nat):Int)<32)=false:=decide_eq_false (by omega);have hy:decide (126<((b.toNat:Nat):Int))=false:=decide_eq_false (by omega);obtain⟨sa,sc,rfl⟩:=a.o.bo.len;have dJ:=a.o.size;have N:=ab U;have ax:((pos s (b::r):Nat):Int)+1=((pos s r:Nat):Int):=by omega
       have O:Hi (r.length<=s.size):=by show _<=_;have:=a.o.kb.len;simp at this;omega
       clear g U ag;go_wp2_with fail
       go_quiet (fail)
       go_wp2_with fail
       go_quiet (fail)
       have D:∀ j,Hi (KT E (wr.drewN j) tb db s P Q (b::r) false (.slice sa ([34]++gP c).length sc) ([34]++gP c)):=fun j=>a.o.drewN j
       clear h1 h2 h3 f2 f3 ac
       by_cases I:b.toNat=34\/b.toNat=92
       ·have HQ:Hi (yG b=[92]++[b]):=if_pos I
        have q:(((b.toNat:Int)==34)=true)\/(((b.toNat:Int)==34)=false/\((b.toNat:Int)==92)=true):=by
         rcases I with I|I
         ·exact .inl (beq_iff_eq.2 (by omega))
         ·exact .inr ⟨beq_eq_false_iff_ne.2 (by omega),beq_iff_eq.2 (by omega)⟩
        clear I;rcases q with q1|⟨q1,q2⟩
        all_goals
         go_wp2_with (at_builtin;refine bx rfl (.tmp 74) (.tmp 75) 118 rfl [92] rfl rfl ((D _).o.alloc (.cells #[.int .u8 92] 5)).bo (ez rfl) ?hb5 ?hl5 ?_)
         case hb5=>(try simp);omega
         case hl5=>(try simp);omega
         intro v5 w5 V W _;have J:=ab (((D _).o.alloc (.cells #[.int .u8 92] 5)).o V W);clear V W;have ai:=J.o.size
         go_wp2_with (at_builtin;refine bx rfl (.tmp 77) (.tmp 79) 118 rfl [b] rfl rfl (J.o.alloc (.cells #[.int .u8 b.toNat] 5)).bo (ez rfl) ?hb6 ?hl6 ?_)
         case hb6=>(try simp);omega
         case hl6=>(try simp);omega
         intro v6 w6 y z _;have f:=ab ((J.o.alloc (.cells #[.int .u8 b.toNat] 5)).o y z);clear y z;have g2:=f.o.kb.fM;have gf:=f.o.kb.free 2;go_wp2_with fail;refine⟨⟨k+1,c++[b],r,by omega,by go_num,by simp[S],d,?_⟩,by simp[intOf];omega⟩
         have:=f.o.one (f.o.kb.move O.o N.o) (Fr.setCell (One tb) _ _ _ rfl)
         rw[og,HQ.o];exact ab (by simpa using this)
       ·have HQ:Hi (yG b=[b]):=if_neg I;have q1:((b.toNat:Int)==34)=false:=beq_eq_false_iff_ne.2 (by omega);have q2:((b.toNat:Int)==92)=false:=beq_eq_false_iff_ne.2 (by omega);clear I
        go_wp2_with (at_builtin;refine bx rfl (.tmp 77) (.tmp 79) 118 rfl [b] rfl rfl ((D _).o.alloc (.cells #[.int .u8 b.toNat] 5)).bo (ez rfl) ?hb6 ?hl6 ?_)
        case hb6=>(try simp);omega
        case hl6=>(try simp);omega
        intro v6 w6 y z _;have f:=ab (((D _).o.alloc (.cells #[.int .u8 b.toNat] 5)).o y z);clear y z;have g2:=f.o.kb.fM;have gf:=f.o.kb.free 2;go_wp2_with fail;refine⟨⟨k+1,c++[b],r,by omega,by go_num,by simp[S],d,?_⟩,by simp[intOf];omega⟩
        have:=f.o.one (f.o.kb.move O.o N.o) (Fr.setCell (One tb) _ _ _ rfl)
        rw[og,HQ.o];exact ab (by simpa using this)
   ·have ad:k=n:=by omega
    subst ad;have X:¬(k:Int)<(k:Int):=by omega
    have d:Hi (gY k [] A=(some c,r)):=T.o.trans (by rw[Nat.sub_self];rfl);obtain⟨sa,sc,rfl⟩:=a.o.bo.len;have dJ:=a.o.size
    go_wp2_with (at_builtin;refine bx rfl (.tmp 88) (.tmp 89) 118 rfl [34] rfl rfl (a.o.alloc (.cells #[.int .u8 34] 5)).bo (ez rfl) ?hb4 ?hl4 ?_)
    case hb4=>(try simp);omega
    case hl4=>(try simp);omega
    intro v4 w4 p x _;have v:=ab ((a.o.alloc (.cells #[.int .u8 34] 5)).o p x);have Y:=p.conv;clear p x;go_wp2_with fail;go_ret
    have:=M.o _ _ _ v.o.kb v.o.fr
    rw[L.o,d.o];exact⟨this.2,_,this.1,rfl,fun b hb=>by simp at hb;subst hb;simp⟩
def GM(r0:Bs)(k:Nat)(r:Bs)(bad:Bool)(acc:Bs):Prop :=
 acc.length<=1+2*k/\(bad=false->k<=r0.length/\r=r0.drop k/\acc=[120]++iN (r0.take k))/\(bad=true->r0.length<k/\r=[])
theorem zj{ar:List (Bs×Int)}{ways:List (Bs×Bs)}(h:KS w B tb db s l false ar ways)(hs:s.size<=maxLen):
  Calls Tryz.prog 133 #[.pointer (some ⟨tb,0,none⟩)] w fun e w'=>GI tb B db s ar ways w (fS l) (fun b=>120::iN b) e w':=by
 have HK:=ab h;clear h;go_enter Tryz.func133,Tryz.ntmps133;go_wp2_with fail;refine(mU HK hs).mono ?_;rintro e z ⟨p,ah,n,rfl,hn,E⟩;have am:=ab p;obtain⟨X,Y,f,ew,q,t⟩:=ah
 have Z:Hi (∀(w':World) (r:Bs) (bd:Bool),KB w' tb db s r bd X Y->Fr (TX tb z) z w'->KS w' B tb db s r bd ar ways/\gR tb w w'):=fun w' r bd kc hf' =>
  ⟨(KS.oL f ew q t kc hf').1,p.trans (KS.oL f ew q t kc hf').2⟩
 have c:Hi (KT z (z.alloc (.cells #[.int .u8 120] 5)) tb db s X Y (bj l).2 (bj l).1.isNone (.slice (some ⟨z.heap.size,0,none⟩) 1 1) [120]) :=
  ⟨f.ae (Fr.alloc Zero _ _) (fun h=>h),BO.new z 120 120 rfl,Fr.alloc _ _ _,f.lt⟩
 rcases hc:bj l with⟨_|m,g⟩
 ·rw[hc] at c;have V:Hi (fS l=(none,g)):=ab (by unfold fS;rw[hc]);clear p f ew q t E hc;simp only[Option.isNone_none] at c;go_wp2_with fail
  go_loopw [5,6] (fun sv iv wr=>iv=.int .i64 0/\Hi (KT z wr tb db s X Y g true sv [120])) (fun _ _ _=>0)
  case atStart=>exact⟨rfl,c⟩
  case round =>
   obtain⟨rfl,a⟩:=hrel;have h3:=a.o.kb.dw;have K:=a.o.bo.conv;rcases Nat.eq_zero_or_pos n with O|O
   all_goals
    first
     |(have L:(0:Int)<(n:Int):=by omega)
     |(have L:decide ((0:Int)<(n:Int))=false:=decide_eq_false (by omega)
       have aa:decide (0<n)=false:=decide_eq_false (by omega))
    clear O;go_wp2_with fail;go_ret
    have:=Z.o _ _ _ a.o.kb a.o.fr
    rw[V.o];exact⟨this.2,_,this.1,rfl,fun b v=>by simp at v⟩
 ·have ac:n=m:=E m (by rw[hc]);subst ac;rw[hc] at c;have V:Hi (fS l=bw n g):=ab (by unfold fS;rw[hc]);clear p f ew q t E hc;simp only[Option.isNone_some] at c;go_wp2_with fail
  go_loopw [5,6] (fun sv iv wr=>∃(k:Nat) (r j:Bs) (u:Bool),k<=n/\iv=.int .i64 k/\Hi (GM g k r u j)/\Hi (KT z wr tb db s X Y r u sv j)) (fun _ iv _=>n-(intOf iv).toNat)
  case atStart=>exact⟨0,g,[120],false,by omega,rfl,⟨by simp,fun _=>⟨by omega,rfl,rfl⟩,fun h=>by simp at h⟩,c⟩
  case round =>
   obtain⟨k,r,j,u,hk,rfl,P,a⟩:=hrel;have h3:=a.o.kb.dw;have an:=P.o.1;cases u with
   | true =>
    have K:=a.o.bo.conv
    have W:Hi (bw n g=(none,[])):=by
     obtain⟨q1,_⟩:=P.o.2.2 rfl;show _=_;unfold bw;rw[if_pos (by omega)]
    have HR:Hi (r=[]):=(P.o.2.2 rfl).2;rcases Nat.lt_or_ge k n with A|A
    all_goals
     first
      |(have L:(k:Int)<(n:Int):=by omega)
      |(have L:decide ((k:Int)<(n:Int))=false:=decide_eq_false (by omega)
        have aa:decide (k<n)=false:=decide_eq_false (by omega))
     clear A;go_wp2_with fail;go_ret
     have:=Z.o _ _ _ a.o.kb a.o.fr
     rw[V.o,W.o];rw[HR.o] at this;exact⟨this.2,_,this.1,rfl,fun b v=>by simp at v⟩
   | false =>
    by_cases A:k<n
    ·have L:(k:Int)<(n:Int):=by omega
     obtain⟨sa,sc,rfl⟩:=a.o.bo.len;go_wp2_with fail;refine(DY a.o.kb hs 256 (by omega)).mono ?_;rintro e w2 ⟨ao,Q,rfl⟩;have C:=ab (a.o.one Q ao)
     obtain⟨d,hd,av,mX⟩:∃ d:Nat,(aK 256 r).1.getD 0=d/\d<256/\∀ b F,r=b::F->d=b.toNat:=by
      refine⟨_,rfl,?_,fun b F e=>?_⟩
      ·rcases r with _|⟨b,F⟩
       ·simp[aK]
       ·have:=b.toNat_lt
        simp only[aK];rw[if_pos this];exact this
      ·subst e;simp only[aK];rw[if_pos b.toNat_lt];rfl
     rw[hd];have ap:=ab mX;obtain⟨x,hx⟩:∃ x,x=d/16:=⟨_,rfl⟩;obtain⟨y,hy⟩:∃ y,y=d%16:=⟨_,rfl⟩;have ai:(d:Int)%16=(y:Int):=by omega
     have aj:(d:Int)/16=(x:Int):=by omega
     have M:x<16:=by omega
     have N:y<16:=by omega
     have aq:(x:Int)<16:=by omega
     have au:(y:Int)<16:=by omega
     obtain⟨G,H⟩:∃ G,G=mW x:=⟨_,rfl⟩;obtain⟨I,ju⟩:∃ I,I=mW y:=⟨_,rfl⟩;have g1:∀ hz,({ data:=#[48,49,50,51,52,53,54,55,56,57,97,98,99,100,101,102] }:ByteArray)[x]'hz=G:=fun hz=>(pB x M hz).trans H.symm
     have g2:∀ hz,({ data:=#[48,49,50,51,52,53,54,55,56,57,97,98,99,100,101,102] }:ByteArray)[y]'hz=I:=fun hz=>(pB y N hz).trans ju.symm
     have ad:Hi (GM g (k+1) (aK 256 r).2 (aK 256 r).1.isNone (j++[G,I])):=by
      obtain⟨q1,J,q3⟩:=P.o.2.1 rfl;refine⟨by simp;omega,?_⟩;rcases r with _|⟨b,F⟩
      ·have hl:g.length=k:=by
        have:=congrArg List.length J
        simp at this;omega
       exact⟨fun h=>by simp[aK] at h,fun _=>⟨by omega,rfl⟩⟩
      ·have v:aK 256 (b::F)=(some b.toNat,F):=by simp only[aK];rw[if_pos b.toNat_lt]
       rw[v];refine⟨fun _=>?_,fun h=>by simp at h⟩
       have hl:k<g.length:=by
        have:=congrArg List.length J
        simp at this;omega
       refine⟨by omega,?_,?_⟩
       ·rw[<-List.drop_drop (i:=1),<-J];rfl
       ·rw[uR J.symm,si,q3,H,ju,hx,hy,mX b F rfl];simp
     clear ao Q hd mX hx hy H ju h3;have ak:=C.o.size
     go_wp2_with (at_builtin;refine bx rfl (.tmp 25) (.tmp 30) 118 rfl [G] rfl rfl (C.o.alloc (.cells #[.int .u8 G.toNat] 5)).bo (ez rfl) ?hb5 ?hl5 ?_)
     case hb5=>first|omega|(simp;omega)|simp
     case hl5=>first|omega|(simp;omega)|simp
     intro v5 w5 R S _;have D:=ab ((C.o.alloc (.cells #[.int .u8 G.toNat] 5)).o R S);clear R S;have al:=D.o.size
     go_wp2_with (at_builtin;refine bx rfl (.tmp 32) (.tmp 37) 118 rfl [I] rfl rfl (D.o.alloc (.cells #[.int .u8 I.toNat] 5)).bo (ez rfl) ?hb6 ?hl6 ?_)
     case hb6=>first|omega|(simp;omega)|simp
     case hl6=>first|omega|(simp;omega)|simp
     intro v6 w6 T U _;have af:=ab ((D.o.alloc (.cells #[.int .u8 I.toNat] 5)).o T U);clear T U;go_wp2_with fail;exact⟨⟨k+1,_,_,_,by omega,by go_num,ad,af⟩,by simp[intOf];omega⟩
    ·have ag:k=n:=by omega
     subst ag;have L:¬(k:Int)<(k:Int):=by omega
     have K:=a.o.bo.conv
     have W:Hi (bw k g=(some (g.take k),r)/\j=[120]++iN (g.take k)):=by
      obtain⟨q1,J,q3⟩:=P.o.2.1 rfl;refine⟨?_,q3⟩;unfold bw;rw[if_neg (by omega),J]
     go_wp2_with fail;go_ret
     have:=Z.o _ _ _ a.o.kb a.o.fr
     rw[V.o,W.o.1];exact⟨this.2,_,this.1,rfl,fun b v=>by simp at v;subst v;rw[W.o.2];rfl⟩
def iK(k:Nat)(p:Bs)(v:PV):List (Bs×Bs):=kids (fun i x=>cy k (under p (stepOf v.of v.num i)) x) 0 v.parts
theorem AG(k:Nat)(p:Bs)(v:PV):cy (k+1) p v=(p,aw (k+1) v)::iK k p v:=rfl
def Room(k n m:Nat):Prop:=n+k*m+6*k<=1000000
structure vk(w:World)(B tb db:Nat)(s:ByteArray)(l:Bs)(ar:List (Bs×Int))(ways:List (Bs×Bs))(tab:List RT)(roots:List Nat):Prop where
 ks:KS w B tb db s l false ar ways
 df:DF w B db tab roots
 hs:s.size<=1000
 tl:tab.length<=1000000
 hB:B<=w.heap.size
def lM(tb B db:Nat)(s:ByteArray)(ar:List (Bs×Int))(ways:List (Bs×Bs))(k:Nat)(t:PT)(p st:Bs)(l:Bs)(w:World)(e:Ending)(w':World):Prop :=
 gR tb w w'/\∃(tx:ByteArray) (dh:List (Bs×Int)) (eV:List (Bs×Bs)),KS w' B tb db s (aS (k+1) t l).2 (aS (k+1) t l).1.isNone dh eV/\e=.returned (.string tx) /\
  ((aS (k+1) t l).1=none->dh.length<=ar.length+(k+1)*l.length+6*(k+1)/\eV.length<=ways.length+k*l.length+6*k+5) /\
  (∀ v,(aS (k+1) t l).1=some v->tx=ba (aw (k+1) v)/\dh=ar++dI (k+1) st v/\eV=ways++iK k p v)
def xR(tb B db:Nat)(s:ByteArray)(ar:List (Bs×Int))(ways:List (Bs×Bs))(k:Nat)(t:PT)(p st:Bs)(l:Bs)(w:World)(e:Ending)(w':World):Prop :=
 gR tb w w'/\∃(tx:Bs) (dh:List (Bs×Int)) (eV:List (Bs×Bs)),KS w' B tb db s (aS k t l).2 (aS k t l).1.isNone dh eV/\e=.returned (.string (ba tx))/\tx.length<=10000000 /\
  ((aS k t l).1=none->tx=[]/\dh.length<=ar.length+k*l.length+6*k/\eV.length<=ways.length+k*l.length+6*k) /\
  (∀ v,(aS k t l).1=some v->tx=aw k v/\dh=ar++dI k st v/\eV=ways++cy k p v)
theorem ie{p:Bs}(h:v.parts=[]):iK k p v=[]:=by unfold iK;rw[h];rfl
theorem qm{st:Bs}(h:v.of.kind<=3):dI (k+1) st v=[(st,v.num)]:=by simp only[dI];rw[if_pos h]
theorem jC{st:Bs}(h:¬v.of.kind<=3)(hp:v.parts=[]):dI (k+1) st v=[]:=by simp only[dI];rw[if_neg h,hp];rfl
theorem Fp{ar:List (Bs×Int)}{ways:List (Bs×Bs)}(p st:Bs)(h:vk w B tb db s l ar ways tab roots)(hI:Is tab x t)(hk:t.kind<=2)(hn:Room (k+1) ar.length l.length):
  Calls Tryz.prog 97 #[.pointer (some ⟨tb,0,none⟩),.int .i64 x,.string (ba p),.string (ba st)] w fun e w'=>lM tb B db s ar ways k t p st l w e w':=by
 obtain⟨O,P,i⟩:=h.ks.block;have M:=i.dM;have N:=i.dw;have u:=i.lt;go_enter Tryz.func97,Tryz.ntmps97;go_wp2_with fail;refine(fG h.df x t hI h.hB h.tl).mono ?_;rintro e Q ⟨(f:Hi _),H,o,I,a,rfl,aE,d⟩;obtain⟨R,S,rfl⟩:=d.2.1.shape;obtain⟨T,U,rfl⟩:=d.2.2.1.shape;obtain⟨V,W,rfl⟩:=d.2.2.2.shape;have j:=aE.kind;rw[j];have y:=ab (h.ks.quiet f);obtain c|c|c:t.kind=0\/t.kind=1\/t.kind=2:=by omega
 all_goals
  have z:Hi (aS (k+1) t l=((bw (aT t.kind) l).1.map (fun b=>fY t (cC b)),(bw (aT t.kind) l).2)):=ab (by simp only[aS];rw[if_pos hk]);rw[c] at z;rw[c];go_wp2_with fail;refine(zi (y.o.quiet (Fr.alloc _ _ _)) (by have:=h.hs;unfold maxLen;omega) _ (by decide) st (by have:=hn;unfold Room at this;omega) (by have:=h.hB;have:=f.o.size;simp;omega)).mono ?_;rintro e X ⟨ao,dh,J,n,q,rfl,D⟩;have A:=ab ((gR.quiet (f.o.trans (Fr.alloc _ _ _)) u).trans ao);go_wp2_with fail;go_ret;refine⟨A,J,dh,ways,by rw[z.o];simpa using n,rfl,fun _=>⟨by have:=q;omega,by omega⟩,fun v hv=>?_⟩;rw[z.o] at hv;simp only[Option.map_eq_some_iff] at hv;obtain⟨b,i,rfl⟩:=hv;obtain⟨K,L⟩:=D b i;refine⟨?_,?_,by rw[ie rfl];simp⟩
  ·rw[L];show _=ba (aw (k+1) ⟨t,cC b,[],[]⟩);rw[cz,if_pos (by rw[c];omega)]
  ·rw[K,qm (by show t.kind<=3;rw[c];omega)];rfl
theorem Fq{ar:List (Bs×Int)}{ways:List (Bs×Bs)}(p st:Bs)(h:vk w B tb db s l ar ways tab roots)(hI:Is tab x t)(hk:t.kind=3)(hn:Room (k+1) ar.length l.length):
  Calls Tryz.prog 97 #[.pointer (some ⟨tb,0,none⟩),.int .i64 x,.string (ba p),.string (ba st)] w fun e w'=>lM tb B db s ar ways k t p st l w e w':=by
 obtain⟨N,O,g⟩:=h.ks.block;have L:=g.dM;have M:=g.dw;have r:=g.lt;go_enter Tryz.func97,Tryz.ntmps97;go_wp2_with fail;refine(fG h.df x t hI h.hB h.tl).mono ?_;rintro e P ⟨(d:Hi _),G,o,H,a,rfl,aE,c⟩;obtain⟨Q,R,rfl⟩:=c.2.1.shape;obtain⟨S,T,rfl⟩:=c.2.2.1.shape;obtain⟨U,V,rfl⟩:=c.2.2.2.shape;have i:=aE.kind;rw[i];have u:=ab (h.ks.quiet d);have A:Hi (aS (k+1) t l=((bw 8 l).1.map (fun b=>fY t (toInt64 (fp b))),(bw 8 l).2)):=ab (by simp only[aS];rw[if_neg (by omega),if_pos hk]);rw[hk];go_wp2_with fail;refine(DX (u.o.quiet (Fr.alloc _ _ _)) (by have:=h.hs;unfold maxLen;omega) st (by have:=hn;unfold Room at this;omega) (by have:=h.hB;have:=d.o.size;simp;omega)).mono ?_;rintro e W ⟨ao,dh,I,m,n,rfl,C⟩;have y:=ab ((gR.quiet (d.o.trans (Fr.alloc _ _ _)) r).trans ao);go_wp2_with fail;go_ret;refine⟨y,I,dh,ways,by rw[A.o];simpa using m,rfl,fun _=>⟨by have:=n;omega,by omega⟩,fun v hv=>?_⟩;rw[A.o] at hv;simp only[Option.map_eq_some_iff] at hv;obtain⟨b,g,rfl⟩:=hv;obtain⟨J,K⟩:=C b g;refine⟨?_,?_,by rw[ie rfl];simp⟩
 ·rw[K];show _=ba (aw (k+1) ⟨t,toInt64 (fp b),[],[]⟩);rw[cz,if_pos (by rw[hk];omega)]
 ·rw[J,qm (by show t.kind<=3;rw[hk];omega)];rfl
theorem CZ{ar:List (Bs×Int)}{ways:List (Bs×Bs)}(p st:Bs)(h:vk w B tb db s l ar ways tab roots)(hI:Is tab x t)(hk:t.kind=4)(hn:Room (k+1) ar.length l.length):
  Calls Tryz.prog 97 #[.pointer (some ⟨tb,0,none⟩),.int .i64 x,.string (ba p),.string (ba st)] w fun e w'=>lM tb B db s ar ways k t p st l w e w':=by
 obtain⟨P,Q,g⟩:=h.ks.block;have z:=g.dM;have N:=g.dw;have C:=g.lt;go_enter Tryz.func97,Tryz.ntmps97;go_wp2_with fail;refine(fG h.df x t hI h.hB h.tl).mono ?_;rintro e R ⟨(r:Hi _),K,o,L,a,rfl,aE,c⟩;obtain⟨S,T,rfl⟩:=c.2.1.shape;obtain⟨U,V,rfl⟩:=c.2.2.1.shape;obtain⟨W,X,rfl⟩:=c.2.2.2.shape;have m:=aE.kind;rw[m];have D:=ab (h.ks.quiet r);have H:Hi (aS (k+1) t l=((aK 2 l).1.map (fun(n:Nat)=>fY t n),(aK 2 l).2)):=ab (by simp only[aS];rw[if_neg (by omega),if_neg (by omega),if_pos hk]);rw[hk];go_wp2_with fail;refine(gO (D.o.quiet (Fr.alloc _ _ _)) (by have:=h.hs;unfold maxLen;omega) 2 (by omega)).mono ?_;rintro e M ⟨ao,u,rfl⟩;have E:=ab ((gR.quiet (r.o.trans (Fr.alloc _ _ _)) C).trans ao)
 obtain⟨d,hd,y⟩:∃ d:Nat,(aK 2 l).1.getD 0=d/\∀ x,(aK 2 l).1=some x->x=d/\d<2:=by
  refine⟨_,rfl,fun x hx=>?_⟩;rw[hx];refine⟨rfl,?_⟩;rcases l with _|⟨b,l⟩
  ·simp[aK] at hx
  ·simp only[aK] at hx
   split at hx
   ·simp at hx;simp;omega
   ·simp at hx
 rw[hd]
 have q:∀ tx:Bs,(∀ x,(aK 2 l).1=some x->tx=if x=0 then jx else dX)->lM tb B db s ar ways k t p st l w (.returned (.string (ba tx))) M:=fun tx hx=>by
  refine⟨E,ba tx,ar,ways,by rw[H.o];simpa using u,rfl,fun _=>⟨by omega,by omega⟩,fun v hv=>?_⟩;rw[H.o] at hv;simp only[Option.map_eq_some_iff] at hv;obtain⟨b,g,rfl⟩:=hv;refine⟨?_,by rw[jC (by show ¬t.kind<=3;rw[hk];omega) rfl];simp,by rw[ie rfl];simp⟩;have e:aw (k+1) ⟨t,(b:Int),[],[]⟩=if(b:Int)=0 then jx else dX:=by rw[cz,if_neg (by rw[hk];omega),if_pos hk]
  rw[hx b g];show _=ba (aw (k+1) ⟨t,(b:Int),[],[]⟩);rw[e]
  by_cases z:b=0
  ·subst z;rfl
  ·rw[if_neg z,if_neg (by omega)]
 by_cases J:d=1
 ·have g:((d:Int)==1)=true:=beq_iff_eq.2 (by omega);have G:Hi (∀ x,(aK 2 l).1=some x->dX=if x=0 then jx else dX):=fun x hx=>by have:=y x hx;rw[if_neg (by omega)]
  go_wp2_with fail;go_ret;exact q dX G
 ·have g:((d:Int)==1)=false:=beq_eq_false_iff_ne.2 (by omega);have G:Hi (∀ x,(aK 2 l).1=some x->jx=if x=0 then jx else dX):=fun x hx=>by have:=y x hx;rw[if_pos (by omega)]
  go_wp2_with fail;go_ret;exact q jx G
theorem CX{ar:List (Bs×Int)}{ways:List (Bs×Bs)}(p st:Bs)(h:vk w B tb db s l ar ways tab roots)(hI:Is tab x t)(hk:t.kind=5)(_:Room (k+1) ar.length l.length):
  Calls Tryz.prog 97 #[.pointer (some ⟨tb,0,none⟩),.int .i64 x,.string (ba p),.string (ba st)] w fun e w'=>lM tb B db s ar ways k t p st l w e w':=by
 obtain⟨J,K,f⟩:=h.ks.block;have G:=f.dM;have H:=f.dw;have q:=f.lt;go_enter Tryz.func97,Tryz.ntmps97;go_wp2_with fail;refine(fG h.df x t hI h.hB h.tl).mono ?_;rintro e L ⟨(j:Hi _),D,o,E,a,rfl,aE,d⟩;obtain⟨M,N,rfl⟩:=d.2.1.shape;obtain⟨O,P,rfl⟩:=d.2.2.1.shape;obtain⟨Q,R,rfl⟩:=d.2.2.2.shape;have i:=aE.kind;rw[i];have r:=ab (h.ks.quiet j);have z:Hi (aS (k+1) t l=((iq l).1.map (fC t),(iq l).2)):=ab (by simp only[aS];rw[if_neg (by omega),if_neg (by omega),if_neg (by omega),if_pos hk]);rw[hk];go_wp2_with fail;refine(BK (r.o.quiet (Fr.alloc _ _ _)) (by have:=h.hs;unfold maxLen;omega)).mono ?_;rintro e S ⟨ao,F,m,rfl,A⟩;have u:=ab ((gR.quiet (j.o.trans (Fr.alloc _ _ _)) q).trans ao);go_wp2_with fail;go_ret;refine⟨u,F,ar,ways,by rw[z.o];simpa using m,rfl,fun _=>⟨by omega,by omega⟩,fun v hv=>?_⟩;rw[z.o] at hv;simp only[Option.map_eq_some_iff] at hv;obtain⟨b,f,rfl⟩:=hv;refine⟨?_,by rw[jC (by show ¬t.kind<=3;rw[hk];omega) rfl];simp,by rw[ie rfl];simp⟩;rw[A b f];show _=ba (aw (k+1) ⟨t,0,b,[]⟩);rw[cz,if_neg (by rw[hk];omega),if_neg (by rw[hk];omega),if_pos hk]
theorem A3{ar:List (Bs×Int)}{ways:List (Bs×Bs)}(p st:Bs)(h:vk w B tb db s l ar ways tab roots)(hI:Is tab x t)(hk:t.kind=6)(_:Room (k+1) ar.length l.length):
  Calls Tryz.prog 97 #[.pointer (some ⟨tb,0,none⟩),.int .i64 x,.string (ba p),.string (ba st)] w fun e w'=>lM tb B db s ar ways k t p st l w e w':=by
 obtain⟨J,K,f⟩:=h.ks.block;have G:=f.dM;have H:=f.dw;have q:=f.lt;go_enter Tryz.func97,Tryz.ntmps97;go_wp2_with fail;refine(fG h.df x t hI h.hB h.tl).mono ?_;rintro e L ⟨(j:Hi _),D,o,E,a,rfl,aE,d⟩;obtain⟨M,N,rfl⟩:=d.2.1.shape;obtain⟨O,P,rfl⟩:=d.2.2.1.shape;obtain⟨Q,R,rfl⟩:=d.2.2.2.shape;have i:=aE.kind;rw[i];have r:=ab (h.ks.quiet j);have z:Hi (aS (k+1) t l=((fS l).1.map (fC t),(fS l).2)):=ab (by simp only[aS];rw[if_neg (by omega),if_neg (by omega),if_neg (by omega),if_neg (by omega),if_pos hk]);rw[hk];go_wp2_with fail;refine(zj (r.o.quiet (Fr.alloc _ _ _)) (by have:=h.hs;unfold maxLen;omega)).mono ?_;rintro e S ⟨ao,F,m,rfl,A⟩;have u:=ab ((gR.quiet (j.o.trans (Fr.alloc _ _ _)) q).trans ao);go_wp2_with fail;go_ret;refine⟨u,F,ar,ways,by rw[z.o];simpa using m,rfl,fun _=>⟨by omega,by omega⟩,fun v hv=>?_⟩;rw[z.o] at hv;simp only[Option.map_eq_some_iff] at hv;obtain⟨b,f,rfl⟩:=hv;refine⟨?_,by rw[jC (by show ¬t.kind<=3;rw[hk];omega) rfl];simp,by rw[ie rfl];simp⟩;rw[A b f];show _=ba (aw (k+1) ⟨t,0,b,[]⟩);rw[cz,if_neg (by rw[hk];omega),if_neg (by rw[hk];omega),if_neg (by rw[hk];omega),if_pos hk]
theorem KS.eh{ar:List (Bs×Int)}{ways:List (Bs×Bs)}(h:KS w B tb db s l bad ar ways){b:Nat}{cs:Array Value}{fz:Nat×Nat}(hb:w.heap[b]?=some (.cells cs 183 fz)):¬KX w tb b:=fun hk=>by
 obtain⟨nv,wv,h1,h2,h3,h4⟩:=h;rcases KX.of h1 hk with e|e|e
 ·subst e;rw[h1.block] at hb;simp at hb
 ·obtain⟨c,q⟩:=bH h3 e;rw[q] at hb;simp at hb
 ·obtain⟨c,q⟩:=bH h4 e;rw[q] at hb;simp at hb
theorem vk.ae{l':Bs}{ar dh:List (Bs×Int)}{ways eV:List (Bs×Bs)}(h:vk w B tb db s l ar ways tab roots)(hk:KS w' B tb db s l' false dh eV)(hf:gR tb w w'):vk w' B tb db s l' dh eV tab roots :=
 ⟨hk,h.df.ae (h.ks.mH hf),h.hs,h.tl,Nat.le_trans h.hB hf.fr.size⟩
theorem vk.quiet{ar:List (Bs×Int)}{ways:List (Bs×Bs)}(h:vk w B tb db s l ar ways tab roots)(hf:Fr Zero w w'):vk w' B tb db s l ar ways tab roots :=
 ⟨h.ks.quiet hf,h.df.ae hf.dV,h.hs,h.tl,Nat.le_trans h.hB hf.size⟩
def qQ(k:Nat):Prop:=∀(w:World) (B tb db:Nat) (s:ByteArray) (l:Bs) (ar:List (Bs×Int)) (ways:List (Bs×Bs)) (tab:List RT) (roots:List Nat) (x:Nat) (t:PT) (p st:Bs),
 vk w B tb db s l ar ways tab roots->Is tab x t->c8 k t->p.length+500*k<=10000->st.length+500*k<=10000->Room k ar.length l.length->Room k ways.length l.length ->
 Calls Tryz.prog 69 #[.pointer (some ⟨tb,0,none⟩),.int .i64 x,.string (ba p),.string (ba st)] w fun e w'=>xR tb B db s ar ways k t p st l w e w'
theorem Room.less{n m m':Nat}(h:Room (k+1) n m)(hm:m'<=m):Room k n m':=by
 unfold Room at *;have a:(k+1)*m=k*m+m:=Nat.succ_mul k m;have b:k*m'<=k*m:=Nat.mul_le_mul_left k hm;omega
theorem qA(c:Nat)(l:Bs):(aK c l).2.length<=l.length:=by
 rcases l with _|⟨b,l⟩
 ·simp[aK]
 ·simp only[aK];split<;>simp
theorem Room.down{n m m':Nat}(h:Room k n m)(hm:m'<=m):Room k n m':=by
 unfold Room at *;have a:k*m'<=k*m:=Nat.mul_le_mul_left k hm;omega
theorem gR.below{ar:List (Bs×Int)}{ways:List (Bs×Bs)}(hk:KS w B tb db s l bad ar ways)(hf:gR tb w w'){a:Addr}{v:Value}(ha:a.block<B)(h:w.cell? a=some v):w'.cell? a=some v:=by
 rw[hf.fr.cell (World.block_lt_of_cell? w _ h) (fun e=>by have:=hk.from e;omega)];exact h
theorem T9.ae{rb kd go co:Nat}{row:RT}{nv av:Value}(h:T9 w B rb row kd go co nv av){ar:List (Bs×Int)}{ways:List (Bs×Bs)}(hk:KS w B tb db s l bad ar ways)(hf:gR tb w w'):T9 w' B rb row kd go co nv av :=
 ⟨hf.fr.ae h.blk (hk.eh h.blk),fun i hi=>gR.below hk hf h.lt (h.of i hi),h.lt⟩
theorem yn{ar:List (Bs×Int)}{ways:List (Bs×Bs)}(hV:qQ k)(p st:Bs)(h:vk w B tb db s l ar ways tab roots)(hI:Is tab x t)(hk:t.kind=8)(hW:c8 (k+1) t)
  (hp:p.length+500*(k+1)<=10000) (iz:st.length+500*(k+1)<=10000) (hn:Room (k+1) ar.length l.length) (hm:Room k ways.length l.length) :
  Calls Tryz.prog 97 #[.pointer (some ⟨tb,0,none⟩),.int .i64 x,.string (ba p),.string (ba st)] w fun e w'=>lM tb B db s ar ways k t p st l w e w':=by
 obtain⟨nv,wv,Z⟩:=h.ks.block;have h0:=Z.dM;have h3:=Z.dw;have O:=ab h;have aa:=ab hI;have HR:=ab hn;have HM:=ab hm;have HW:=ab hW;have HV:=ab hV;have ac:=Z.lt;clear h hI hn hm hW hV Z;go_enter Tryz.func97,Tryz.ntmps97;go_wp2_with fail;refine(fG O.o.df x t aa.o O.o.hB O.o.tl).mono ?_;rintro e w1 ⟨L,g,o,az,a,rfl,aE,n⟩;have oY:t.subs.length=1:=HW.o.2.2.2.2.1 (.inr hk);have j:g.of.length=1:=aE.len.trans oY;have P:=aE.kind;rw[P] at n ⊢;have C:=n.ae L.dV;obtain⟨go,co,rfl,U⟩:=T9.new C (by omega);obtain⟨pn,qn,rfl⟩:=n.2.2.1.shape;obtain⟨pa,qa,rfl⟩:=n.2.2.2.shape;have F:=ab (aE.sub 0 (by omega));have q:=ab (L.trans (Fr.alloc Zero w1 (.cells #[.int .i64 t.kind,.slice (some ⟨go,0,none⟩) g.of.length co,.slice pn (texts g.names).length qn,.slice pa (ints g.ats).length qa] 183)));have G:=ab U;have u:=ab j;have H:Hi (aS (k+1) t l=((kZ (aS k (t.sub 0)) l).1.map (bE t 0),(kZ (aS k (t.sub 0)) l).2)):=ab (by simp only[aS];rw[if_neg (by omega),if_neg (by omega),if_neg (by omega),if_neg (by omega),if_neg (by omega),if_neg (by omega),if_pos hk]);rw[j] at G;rw[j] at q;rw[j];rw[hk] at G;rw[hk] at q;rw[hk];have c:=ab hk;have ad:=ab (HW.o.sub (i:=0) (by omega));clear L aE n C P U j hk oY;go_wp2_with fail;have Q:=ab (O.o.quiet q.o);refine(gO Q.o.ks (by have:=O.o.hs;unfold maxLen;omega) 2 (by omega)).mono ?_;rintro e w2 ⟨ao,M,rfl⟩;have y:=ab ((gR.quiet q.o ac).trans ao);have f:=ab M;have I:=ab (G.o.ae Q.o.ks ao);have m:=ab (qA 2 l);rcases hq:aK 2 l with⟨_|d,r⟩
 ·rw[hq] at f;have R:Hi (kZ (aS k (t.sub 0)) l=(none,r)):=ab (by unfold kZ;rw[hq]);clear ao M hq;have e0:((((none:Option Nat),r).1.getD 0:Nat):Int)=0:=rfl;rw[e0];go_wp2_with fail;go_ret;refine⟨y,_,ar,ways,by rw[H.o,R.o];exact f.o,rfl,fun _=>⟨by omega,by omega⟩,fun v hv=>?_⟩;rw[H.o,R.o] at hv;simp at hv
 ·rw[hq] at f;rw[hq] at m;have e0:(((some d,r).1.getD 0:Nat):Int)=(d:Int):=rfl;rw[e0]
  have av:d<2:=by
   rcases l with _|⟨b,l⟩
   ·simp[aK] at hq
   ·simp only[aK] at hq
    split at hq
    ·simp at hq;omega
    ·simp at hq
  have R:Hi (kZ (aS k (t.sub 0)) l=bR (aS k (t.sub 0)) d [] r):=ab (by unfold kZ;rw[hq]);clear ao M hq;simp only[Option.isNone_some] at f;simp only at m;obtain rfl|rfl:d=0\/d=1:=by omega
  ·have z:Hi (kZ (aS k (t.sub 0)) l=(some [],r)):=R;go_wp2_with fail;go_ret;refine⟨y,_,ar,ways,by rw[H.o,z.o];exact f.o,rfl,fun _=>⟨by omega,by omega⟩,fun v hv=>?_⟩;rw[H.o,z.o] at hv;simp at hv;subst hv;refine⟨?_,by rw[jC (by show ¬t.kind<=3;rw[c.o];omega) rfl];simp,by rw[ie rfl];simp⟩;show _=ba (aw (k+1) ⟨t,0,[],[]⟩);rw[cz,if_neg (by rw[c.o];omega),if_neg (by rw[c.o];omega),if_neg (by rw[c.o];omega),if_neg (by rw[c.o];omega),if_neg (by rw[c.o];omega),if_pos c.o];rfl
  ·have c1:=I.o.cE;rw[u.o] at c1;have c2:=I.o.of 0 (by have:=u.o;omega);have af:=ab (O.o.ae f.o y.o);have S:=eZ p [43];have T:=eZ st [43];simp only[List.length_cons,List.length_nil] at S T
   have ag:Hi (∀ W,Fr Zero w2 W->Calls Tryz.prog 69 #[.pointer (some ⟨tb,0,none⟩),.int .i64 (aj g.of 0:Nat),.string (ba (under p [43])),.string (ba (under st [43]))] W fun e w'=>xR tb B db s ar ways k (t.sub 0) (under p [43]) (under st [43]) r W e w'):=fun W hf =>
    HV.o W B tb db s r ar ways tab roots _ (t.sub 0) _ _ (af.o.quiet hf) F.o ad.o (by omega) (by omega) (HR.o.less m.o) (HM.o.down m.o)
   have ah:Hi (p.length+[43].length+1<=1000000):=by show _<=_;simp;omega
   have z:Hi (st.length+[43].length+1<=1000000):=by show _<=_;simp;omega
   have D:=ab (f.o.quiet (Fr.drew Zero w2));have E:=ab (I.o.quiet (Fr.drew Zero w2));clear S T;have ap:∀ N:Bs,⟨#[43]⟩++ba N=ba (43::N):=fun N=>bD [43] N
   have ai:=ab ap;have ak:Hi (0<g.of.length):=by show _<_;have:=u.o;omega
   clear ap;go_wp2_with fail
   go_region_held3 (fun W=>W.cell? ⟨w1.heap.size,1,none⟩=some (.slice (some ⟨go,0,none⟩) 1 co)/\W.cell? ⟨go,0,none⟩=some (.int .i64 (aj g.of 0:Nat))) (first|exact⟨by assumption,by assumption⟩) (first|(go_at_call 135;refine(hZ _ [43] _ (by first|exact ah.o|exact z.o)).mono ?_;rintro e w' ⟨rfl,rfl⟩)|(go_at_call 69;refine(ag.o _ (Fr.drew _ _)).mono ?_;rintro e w4 ⟨A,N,dh,eV,V,rfl,aA,X,Y⟩;have ax:=aI N;have ay:¬(9223372036854775807<1+N.length):=(by omega);have d1:=(E.o.ae D.o A).lg u.o;have d2:=(E.o.ae D.o A).of 0 ak.o;have al:=ab A;have am:=ab V;have an:=ab X;have aq:=ab Y;clear A V X Y))
   all_goals
    go_wp2_with fail;go_ret
    have J:kZ (aS k (t.sub 0)) l=((aS k (t.sub 0) r).1.map (fun v=>[v]),(aS k (t.sub 0) r).2):=by
     rw[R.o];simp only[bR];rcases aS k (t.sub 0) r with⟨_|v,r'⟩<;>rfl
    refine⟨(y.o.trans (gR.quiet (Fr.drew Zero w2) f.o.lt)).trans al.o,_,dh,eV,?_,rfl,fun dH=>?_,fun v hv=>?_⟩
    ·rw[H.o,J];simpa using am.o
    ·rw[H.o,J] at dH;obtain⟨_,q2,q3⟩:=an.o (by simpa using dH);have h1:k*r.length<=k*l.length:=Nat.mul_le_mul_left k m.o;have h2:(k+1)*l.length=k*l.length+l.length:=Nat.succ_mul k _;exact⟨by omega,by omega⟩
    ·rw[H.o,J] at hv;simp only[Option.map_map,Option.map_eq_some_iff,Function.comp] at hv;obtain⟨v0,au,rfl⟩:=hv;obtain⟨q1,q2,q3⟩:=aq.o v0 au;refine⟨?_,?_,?_⟩
     ·rw[q1,ai.o];show _=ba (aw (k+1) ⟨t,0,[],[v0]⟩);rw[cz,if_neg (by rw[c.o];omega),if_neg (by rw[c.o];omega),if_neg (by rw[c.o];omega),if_neg (by rw[c.o];omega),if_neg (by rw[c.o];omega),if_pos c.o];rfl
     ·rw[q2];have K:=c.o;simp[dI,bE,kids,ou,stepOf,K]
     ·rw[q3];have K:=c.o;simp[iK,bE,kids,stepOf,K]
theorem N9.ae{gn:Nat}(h:N9 w B gn t){ar:List (Bs×Int)}{ways:List (Bs×Bs)}(hk:KS w B tb db s l bad ar ways)(hf:gR tb w w'):N9 w' B gn t :=
 ⟨fun i hi=>gR.below hk hf h.lt (h.nm i hi),h.lt⟩
theorem yo{ar:List (Bs×Int)}{ways:List (Bs×Bs)}(hV:qQ k)(p st:Bs)(h:vk w B tb db s l ar ways tab roots)(hI:Is tab x t)(hk:t.kind=10)(hW:c8 (k+1) t)
  (hp:p.length+500*(k+1)<=10000) (iz:st.length+500*(k+1)<=10000) (hn:Room (k+1) ar.length l.length) (hm:Room k ways.length l.length) :
  Calls Tryz.prog 97 #[.pointer (some ⟨tb,0,none⟩),.int .i64 x,.string (ba p),.string (ba st)] w fun e w'=>lM tb B db s ar ways k t p st l w e w':=by
 obtain⟨nv,wv,hb⟩:=h.ks.block;have h0:=hb.dM;have h3:=hb.dw;have U:=ab h;have aq:=ab hI;have HR:=ab hn;have HM:=ab hm;have HW:=ab hW;have HV:=ab hV;have au:=hb.lt;go_enter Tryz.func97,Tryz.ntmps97;go_wp2_with fail;refine(fG U.o.df x t aq.o U.o.hB U.o.tl).mono ?_;rintro e w1 ⟨R,c,o,aV,a,rfl,aE,K⟩;have av:=HW.o.2.2.2.2.2.1.1;have mi:=HW.o.2.2.2.1 (by omega);have z:c.of.length=t.subs.length:=aE.len;have X:=aE.kind;have il:c.names.length=t.subs.length:=(aE.nml (by omega)).trans z
 have G:c.names=t.names:=by
  have:=aE.nms
  unfold kL at this;rw[if_neg (by intro h;rw[List.isEmpty_iff] at h;rw[h] at il;simp at il;omega)] at this;exact this
 rw[X] at K ⊢;have A:=K.ae R.dV;obtain⟨go,co,rfl,ak⟩:=T9.new A (by omega);obtain⟨gn,cn,rfl,al⟩:=N9.new A G (by rw[G] at il;omega);obtain⟨pa,qa,rfl⟩:=K.2.2.2.shape;have g:t.names.length=t.subs.length:=by rw[<-G];exact il
 have Y:=ab aE.sub
 have ax:Hi (∀ i,(t.name i).length<=400):=fun i=>by
  unfold PT.name;rcases hq:t.names[i]? with _|n
  ·simp
  ·have:=HW.o.2.2.2.2.2.1.2 n (List.mem_of_getElem? hq)
   simpa using this
 have M:=ab (R.trans (Fr.alloc Zero w1 (.cells #[.int .i64 t.kind,.slice (some ⟨go,0,none⟩) c.of.length co,.slice (some ⟨gn,0,none⟩) t.names.length cn,.slice pa (ints c.ats).length qa] 183)));have N:=ab ak;have Z:=ab (al.quiet (Fr.alloc Zero w1 (.cells #[.int .i64 t.kind,.slice (some ⟨go,0,none⟩) c.of.length co,.slice (some ⟨gn,0,none⟩) t.names.length cn,.slice pa (ints c.ats).length qa] 183)));have u:=ab z;have H:=ab g;have HE:Hi (aS (k+1) t l=((iu (aS k) t l).1.map (fun p=>bE t p.1 [p.2]),(iu (aS k) t l).2)):=ab (by simp only[aS];rw[if_neg (by omega),if_neg (by omega),if_neg (by omega),if_neg (by omega),if_neg (by omega),if_neg (by omega),if_neg (by omega),if_neg (by omega)]);obtain⟨m,hm⟩:∃ m,t.subs.length=m:=⟨_,rfl⟩;rw[hm] at u H mi av z g;simp only[z,g,hk] at N Z M ⊢;have ay:=ab hk;have I:=ab hm;have O:=ab (U.o.quiet M.o);have b1:=N.o.lg u.o;go_wp2_with fail;refine(gO O.o.ks (by have:=U.o.hs;unfold maxLen;omega) m (by omega)).mono ?_;rintro e w2 ⟨ao,S,rfl⟩;have P:=ab ((gR.quiet M.o au).trans ao);have f:=ab S;have J:=ab (N.o.ae O.o.ks ao);have aa:=ab (Z.o.ae O.o.ks ao);have C:=ab (qA m l);rcases hq:aK m l with⟨_|d,r⟩
 ·rw[hq] at f;have V:Hi (iu (aS k) t l=(none,r)):=ab (by unfold iu;rw[I.o,hq]);obtain⟨_,_,E⟩:=f.o.block;have g3:=E.dw;simp only[Option.isNone_none] at g3;go_wp2_with fail;go_ret;refine⟨P,_,ar,ways,by rw[HE.o,V.o];exact f.o,rfl,fun _=>⟨by omega,by omega⟩,fun v hv=>?_⟩;rw[HE.o,V.o] at hv;simp at hv
 ·rw[hq] at f;rw[hq] at C;have e0:(((some d,r).1.getD 0:Nat):Int)=(d:Int):=rfl;rw[e0]
  have aQ:d<m:=by
   rcases l with _|⟨b,l⟩
   ·simp[aK] at hq
   ·simp only[aK] at hq
    split at hq
    ·simp at hq;omega
    ·simp at hq
  have V:Hi (iu (aS k) t l=((aS k (t.sub d) r).1.map (fun v=>(d,v)),(aS k (t.sub d) r).2)):=ab (by unfold iu;rw[I.o,hq]);obtain⟨_,_,E⟩:=f.o.block;have g3:=E.dw;simp only[Option.isNone_some] at g3;simp only[Option.isNone_some] at f;simp only at C;have c1:=J.o.lg u.o;have c2:=J.o.of d (by rw[u.o];omega);have c3:=J.o.fM;have c4:=aa.o.nm d (by rw[H.o];omega);have aR:(d:Int)<(m:Int):=by omega
  have az:=ab (U.o.ae f.o P.o);have Q:=ab (Y.o d (by rw[I.o];omega));have aA:=ab (HW.o.sub (i:=d) (by rw[I.o];omega));have aB:=ax.o d;have aC:=eZ p (t.name d);have aD:=eZ st (t.name d)
  have ac:Hi (∀ W,Fr Zero w2 W->Calls Tryz.prog 69 #[.pointer (some ⟨tb,0,none⟩),.int .i64 (aj c.of d:Nat),.string (ba (under p (t.name d))),.string (ba (under st (t.name d)))] W fun e w'=>xR tb B db s ar ways k (t.sub d) (under p (t.name d)) (under st (t.name d)) r W e w'):=fun W hf =>
   HV.o W B tb db s r ar ways tab roots _ (t.sub d) _ _ (az.o.quiet hf) Q.o aA.o (by omega) (by omega) (HR.o.less C.o) (HM.o.down C.o)
  have ad:Hi (p.length+(t.name d).length+1<=1000000):=by show _<=_;omega
  have af:Hi (st.length+(t.name d).length+1<=1000000):=by show _<=_;omega
  have j:=ab (f.o.quiet (Fr.drew Zero w2));have D:=ab (J.o.quiet (Fr.drew Zero w2));have ag:=ab (aa.o.quiet (Fr.drew Zero w2));have aF:Hi (d<c.of.length):=by show _<_;have:=u.o;omega
  have aG:Hi (d<t.names.length):=by show _<_;have:=H.o;omega
  have aP:Hi (t.name d=t.name d):=rfl;have a1:ba (t.name d)++⟨#[58]⟩=ba (t.name d++[58]):=bD (t.name d) [58];have z1:=aI (t.name d);have z2:=aI (t.name d++[58]);simp only[List.length_append,List.length_cons,List.length_nil] at z2;obtain⟨L,F⟩:∃ L,t.name d=L:=⟨_,rfl⟩;have q:=ab F;have ah:=H.o;rw[F] at a1 z1 z2 c4 ad af ac aB;have n1:¬(9223372036854775807<L.length+1):=by omega
  have aH:Hi (∀ T:Bs,ba (L++[58])++ba T=ba (L++58::T)):=fun T=>(bD (L++[58]) T).trans (by simp)
  go_wp2_with fail
  go_region_held3 (fun W=>W.cell? ⟨w1.heap.size,1,none⟩=some (.slice (some ⟨go,0,none⟩) m co)/\W.cell? ⟨go,d,none⟩=some (.int .i64 (aj c.of d:Nat))/\W.cell? ⟨w1.heap.size,2,none⟩=some (.slice (some ⟨gn,0,none⟩) m cn)/\W.cell? ⟨gn,d,none⟩=some (.string (ba L))) (first|exact⟨by assumption,by assumption,by assumption,by assumption⟩) (first|(go_at_call 135;refine(hZ _ L _ (by first|exact ad.o|exact af.o)).mono ?_;rintro e w' ⟨rfl,rfl⟩)|(go_at_call 69;refine(ac.o _ (Fr.drew _ _)).mono ?_;rintro e w4 ⟨y,T,dh,eV,am,rfl,aW,an,ap⟩;have aT:=aI T;have aU:¬(9223372036854775807<L.length+1+T.length):=(by omega);have d1:=(D.o.ae j.o y).lg u.o;have d2:=(D.o.ae j.o y).of d aF.o;have d3:=(D.o.ae j.o y).fM;have d4:=(ag.o.ae j.o y).nm d aG.o;rw[q.o] at d4;have aJ:=ab y;have aL:=ab am;have aM:=ab an;have aN:=ab ap;clear y am an ap))
  all_goals
   go_wp2_with fail;go_ret;refine⟨(P.o.trans (gR.quiet (Fr.drew Zero w2) f.o.lt)).trans aJ.o,_,dh,eV,?_,rfl,fun dH=>?_,fun v hv=>?_⟩
   ·rw[HE.o,V.o];simpa using aL.o
   ·rw[HE.o,V.o] at dH;obtain⟨_,q2,q3⟩:=aM.o (by simpa using dH);have h1:k*r.length<=k*l.length:=Nat.mul_le_mul_left k C.o;have h2:(k+1)*l.length=k*l.length+l.length:=Nat.succ_mul k _;exact⟨by omega,by omega⟩
   ·rw[HE.o,V.o] at hv;simp only[Option.map_map,Option.map_eq_some_iff,Function.comp] at hv;obtain⟨v0,aO,rfl⟩:=hv;obtain⟨q1,q2,q3⟩:=aN.o v0 aO;have ai:=ay.o;refine⟨?_,?_,?_⟩
    ·rw[q1,aH.o];show _=ba (aw (k+1) ⟨t,(d:Int),[],[v0]⟩);rw[cz,if_neg (by omega),if_neg (by omega),if_neg (by omega),if_neg (by omega),if_neg (by omega),if_neg (by omega),if_neg (by omega),Int.toNat_natCast,q.o];rfl
    ·rw[q2];simp[dI,bE,kids,ou,stepOf,ai,q.o]
    ·rw[q3];simp[iK,bE,kids,stepOf,ai,q.o]
end Go.Proofs.YtpffifpbpmlhdaaGreatDoor
