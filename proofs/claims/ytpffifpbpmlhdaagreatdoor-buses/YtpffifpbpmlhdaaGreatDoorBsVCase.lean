import Derived.Test.YtpffifpbpmlhdaaGreatDoorBsDDigs
set_option maxHeartbeats 32000000
set_option maxRecDepth 100000
namespace Go.Proofs.YtpffifpbpmlhdaaGreatDoor
open Go.RowKit
variable {w w':World}{X:Nat->Prop}{a:Addr}{t:PT}{rb:Nat}{v:Value}{s:ByteArray}{l:Bs}
theorem Tryz.vg:(Tryz.prog.info? 133).map (fun i=>(i.zero,i.size,i.bytes))=some (some (.agg #[.pointer none,.int .i64 0,.string ⟨#[]⟩,.slice none 0 0]),4,56):=by kernel_rfl
def cJ(ty:TypeId)(w:World)(X:Nat->Prop)(rb:Nat)(s:ByteArray)(lU:Option PV×Bs)(e:Ending)(w':World):Prop :=
 Fr (One rb) w w'/\RB ty w' rb s lU.2/\∃ c:VC,(∃ o n k,c.sv=.slice o n k)/\e=.returned (.tuple #[c.val,.bool lU.1.isSome])/\(∀ v,lU.1=some v->VR w' X c v)
def fB(ty:TypeId)(w:World)(X:Nat->Prop)(rb:Nat)(s:ByteArray)(lU:Option (List PV)×Bs)(e:Ending)(w':World):Prop :=
 Fr (One rb) w w'/\RB ty w' rb s lU.2/\∃ sv:Value,(∃ o n k,sv=.slice o n k)/\e=.returned (.tuple #[sv,.bool lU.1.isSome])/\(∀ vs,lU.1=some vs->∃ rows:List VC,w'.ownsRow 0 133 4 sv rows.length (cP rows)/\(∀ g,sv.ownBlock=some g->w.heap.size<=g)/\VL w' (XO X sv) rows vs)
theorem TR.past(h:TR w X a t):TR w (fun b=>X b\/w.heap.size<=b) a t :=
 h.aY (fun b hb hx=>by rcases hx with hx|hx;exact hx;omega)
theorem TR.open_{B:Nat}(h:TR w (fun b=>X b\/B<=b) a t)(hX:X rb)(hf:Fr (One rb) w w')(hv:∀ g,v.ownBlock=some g->B<=g):TR w' (XO X v) a t :=
 (h.ae (hf.mono (fun k _ e=>.inl (by have e':k=rb:=e;rw[e'];exact hX)))).aY (fun b _ hx=>by
  rcases hx with hx|hx
  ·exact .inl hx
  ·exact .inr (hv b hx))
theorem XO.lt{n:Nat}{xs:List Value}{e:TypeId}{size:Nat}(hX:∀ b,X b->b<w.heap.size)(hO:w'.ownsRow 0 e size v n xs)(hs:w.heap.size<=w'.heap.size):∀ b,XO X v b->b<w'.heap.size:=fun b hb=>by
 rcases hb with h|h
 ·exact Nat.lt_of_lt_of_le (hX b h) hs
 ·exact(hO.lt b h).2
theorem VR.past{sv:Value}{c:VC}{p:PV}(h:VR w X c p)(hf:Fr Zero w w')(hv:∀ g,sv.ownBlock=some g->w.heap.size<=g):VR w' (XO X sv) c p :=
 ((h.aY (Y:=fun b=>X b\/w.heap.size<=b) (fun b hb hx=>by rcases hx with hx|hx;exact hx;omega)).ae hf.dV).aY (fun b _ hx=>by
  rcases hx with hx|hx
  ·exact .inl hx
  ·exact .inr (hv b hx))
theorem ui{g:Nat}{c:VC}(h:w.heap[g]?=some (.cells #[.pointer (some c.a),.int .i64 c.n,.string (ba c.b),c.sv] 133 (0,0))):w.ownsRow 0 133 4 (.slice (some ⟨g,0,none⟩) 1 1) 1 (cP [c]) :=
 ⟨rfl,.inr ⟨g,1,_,rfl,Nat.zero_le _,h,by omega,by decide,rfl,rfl⟩⟩
theorem dF{base:Nat}{e:TypeId}{size:Nat}{n:Nat}{xs:List Value}(h:w.ownsRow base e size v n xs):∃ a au,v=.slice a n au:=by
 rcases h.2 with⟨rfl,rfl⟩|⟨g,au,b,rfl,_⟩
 ·exact⟨none,0,rfl⟩
 ·exact⟨_,au,rfl⟩
def gW(ty:TypeId)(f:FuncId)(rd:PT->Bs->Option PV×Bs)(t:PT)(s:ByteArray):Prop :=
 ∀(w:World) (X:Nat->Prop) (rb:Nat) (a:Addr) (l:Bs),RB ty w rb s l->X rb->(∀ b,X b->b<w.heap.size)->TR w X a t ->
  Calls Tryz.prog f #[.pointer (some ⟨rb,0,none⟩),.pointer (some a)] w fun e w'=>cJ ty w X rb s (rd t l) e w'
theorem DN{ty:TypeId}{rd:PT->Bs->Option PV×Bs}(hT:gW ty 82 rd t s)(h:RB ty w rb s l)(hX:X rb)(aH:∀ b,X b->b<w.heap.size)(ht:TR w X a t)(hs:s.size<=maxLen):
  Calls Tryz.prog 115 #[.pointer (some ⟨rb,0,none⟩),.pointer (some a)] w fun e w'=>fB ty w X rb s (dP (rd t) l) e w':=by
 have HR:=ab h;have dG:=h.lt;have HT:=ab hT;have HX:=ab aH;have aC:=ab ht;clear h hT aH ht;rcases hc:bz 91 l with _|p
 ·have HC:=ab hc;have Q:Hi (dP (rd t) l=(none,l)):=by show dP (rd t) l=_;unfold dP;rw[hc]
  clear hc;go_enter Tryz.func115,Tryz.ntmps115;go_wp2_with fail;refine(ck HR hs 91 HC).mono ?_;rintro e w1 ⟨rfl,(G:Hi _),(H:Hi _)⟩;go_wp2_with fail;go_ret2;rw[Q.o];exact⟨H,G,.slice none 0 0,⟨_,_,_,rfl⟩,rfl,fun x hx=>by cases hx⟩
 ·have HC:=ab hc;rcases hd:bz 93 p with _|l2
  ·have HD:=ab hd;have Q:Hi (dP (rd t) l=dS (rd t) 300 [] p):=by show dP (rd t) l=_;unfold dP;rw[hc];simp only[hd]
   clear hc hd;go_enter Tryz.func115,Tryz.ntmps115;go_wp2_with fail;refine(bK HR hs 91 HC).mono ?_;rintro e w1 ⟨rfl,(G:Hi _),(H:Hi _)⟩;go_wp2_with fail;refine(ck G hs 93 HD).mono ?_;rintro e w2 ⟨rfl,(aa:Hi _),ao⟩;have V:=ab (H.o.trans ao);clear ao;go_wp2_with fail
   go_loopw [6] (fun ev wr=>∃(i:List PV) (d:List VC) (r:Bs),i.length<300/\mh ev=i.length/\Hi (dS (rd t) 300 [] p=dS (rd t) (300-i.length) i r)/\Hi (wr.ownsRow 0 133 4 ev d.length (cP d))/\Hi (∀ g,ev.ownBlock=some g->w.heap.size<=g) /\
    Hi (VL wr (XO X ev) d i)/\Hi (RB ty wr rb s r)/\Hi (Fr (One rb) w wr)) (fun ev _=>300-mh ev)
   case atStart=>exact⟨[],[],p,by simp,rfl,rfl,World.ownsRow_nil _ _ _ _,fun g hg=>by simp[Value.ownBlock] at hg,VL.nil _ _,aa,V⟩
   case round =>
    obtain⟨i,d,r,aI,aX,F,HO,HG,ac,al,HF⟩:=hrel;have dK:Hi (d.length=i.length):=ac.o.1;obtain⟨ea,y,rfl⟩:=dF HO.o;clear aX;have ah:XO X (.slice ea d.length y) rb:=.inl hX
    have ai:Hi (∀ g,(Value.slice ea d.length y).ownBlock=some g->¬One rb g):=fun g hg e=>by
     have z:g=rb:=e
     have:=HG.o g hg
     omega
    go_wp2_with fail;refine(HT.o _ (XO X (.slice ea d.length y)) rb a r al ah (XO.lt HX HO HF.o.size) (aC.o.past.open_ hX HF HG)).mono ?_
    have f:Hi (dS (rd t) 300 [] p=match rd t r with
      |(none,p)=>(none,p)
      |(some v,p)=>match bz 93 p with
       | some l2=>(some (i++[v]),l2)
       | none=>if i.length+1=300 then(none,p) else
        match bz 44 p with
        | some l2=>dS (rd t) (300-(i.length+1)) (i++[v]) l2
        | none=>(none,p)):=F.o.trans (by rw[show 300-i.length=(300-(i.length+1))+1 by omega];rfl)
    rcases hq:rd t r with⟨_|v,r3⟩
    ·rw[hq] at f;clear hq;rintro e w3 ⟨am,(P:Hi _),⟨S,T,U,aG⟩,⟨o,n,k,I⟩,rfl,-⟩;simp only at I;subst I;have aD:Hi (dS (rd t) 300 [] p=(none,r3)):=f;have A:=ab (HF.o.trans am);clear am f F;simp only[VC.val];go_wp2_with fail;go_ret2;rw[Q.o,aD.o];exact⟨A.o.trans (Fr.alloc _ _ _),P.o.ae (Fr.alloc Zero _ _) (fun h=>h),.slice none 0 0,⟨_,_,_,rfl⟩,rfl,fun x hx=>by cases hx⟩
    ·rw[hq] at f;clear hq;rintro e w3 ⟨(A:Hi _),(P:Hi _),⟨S,T,U,aG⟩,⟨o,n,k,I⟩,rfl,hv⟩;simp only at I;subst I;have HV:=ab (hv v rfl);clear hv F;simp only[VC.val];obtain⟨i0,hi,an,ap,aq⟩:=info_parts Tryz.vg
     go_wp2_with (at_builtin;refine az _ rfl _ _ 131 rfl 0 133 i0 (.agg #[.pointer none,.int .i64 0,.string ⟨#[]⟩,.slice none 0 0]) 4 56 Tryz.underlying131 hi an ap aq rfl (by decide) (.slice ea d.length y) d.length (cP d) rfl ?o1 ⟨w3.heap.size+1,0,none⟩ 1 1 (by omega) [.pointer (some S),.int .i64 T,.string (ba U),.slice o n k] rfl rfl ?c1 ?c2 ?c3 ?c4 (Nat.zero_le _) ?_)
     case o1=>exact(ag HO.o A ai.o).alloc _ |>.alloc _
     case c2=>exact⟨rfl,rfl,rfl,rfl⟩
     case c3=>have:=dK.o;unfold maxLen;omega
     case c4=>have:=dK.o;omega
     intro v' w4 ar av g au aw ax;have K:Fr (One rb) wr ((w3.alloc (.cells #[.pointer (some S),.int .i64 T,.string (ba U),.slice o n k] 133)).alloc (.cells #[.pointer (some S),.int .i64 T,.string (ba U),.slice o n k] 133)):=A.o.trans ((Fr.alloc _ _ _).trans (Fr.alloc _ _ _));have W:Fr Zero w3 ((w3.alloc (.cells #[.pointer (some S),.int .i64 T,.string (ba U),.slice o n k] 133)).alloc (.cells #[.pointer (some S),.int .i64 T,.string (ba U),.slice o n k] 133)):=(Fr.alloc _ _ _).trans (Fr.alloc _ _ _);have dJ:=HF.o.size;have R:=K.size;obtain⟨ay,aA,aB,ad,-⟩:=VL.grow (B:=w.heap.size) (c:=⟨S,T,U,.slice o n k⟩) (v:=v) HG (Nat.le_trans dJ R) (ac.o.ae (K.mono (fun q _ e=>by have z:q=rb:=e;rw[z];exact ah))) (HV.o.ae W.dV) ar av ⟨g,au,aw,by simpa using ax⟩;have aj:=ab ((HF.o.trans K).past ad);have ak:=ab ((P.o.ae W (fun h=>h)).ae ad (by omega));have L:=ab ay;have M:=ab aA;have C:=ab aB;subst aw;clear ar av ax K W ay aA aB ad hi an ap aq dJ R ai HO HG ac al HF P A HV;rcases hA:bz 93 r3 with _|r4
     ·rw[hA] at f;have HA:=ab hA;clear hA;go_wp2_with fail;refine(ck ak hs 93 HA).mono ?_;rintro e w5 ⟨rfl,(J:Hi _),m⟩;have D:=ab (aj.o.trans m);have N:=ab (ag M.o m (fun g' hg' e=>by have z:g'=rb:=e;have:=C.o g' hg';omega));have O:=ab (L.o.ae (m.mono (Y:=XO X (.slice (some ⟨g,0,none⟩) (d.length+1) au)) (fun q _ e=>by have z:q=rb:=e;rw[z];exact .inl hX)));clear m M L
      by_cases E:i.length+1=300
      ·have F:Hi (dS (rd t) 300 [] p=(none,r3)):=f.o.trans (by rw[if_pos E]);have hq:((d.length:Int)+1==300)=true:=beq_iff_eq.2 (by have:=dK.o;omega);clear f;go_wp2_with fail
       try go_quiet (fail)
       try go_wp2_with fail
       go_ret2;rw[Q.o,F.o];exact⟨D,J,.slice none 0 0,⟨_,_,_,rfl⟩,rfl,fun x hx=>by cases hx⟩
      ·have hq:((d.length:Int)+1==300)=false:=beq_eq_false_iff_ne.2 (by have:=dK.o;omega)
       have j:Hi (dS (rd t) 300 [] p=match bz 44 r3 with
        | some l2=>dS (rd t) (300-(i.length+1)) (i++[v]) l2
        | none=>(none,r3)):=f.o.trans (by rw[if_neg E])
       clear f;rcases hB:bz 44 r3 with _|r5
       ·rw[hB] at j;have HB:=ab hB;have F:Hi (dS (rd t) 300 [] p=(none,r3)):=j;clear hB j;go_wp2_with fail;refine(ck J hs 44 HB).mono ?_;rintro e w6 ⟨rfl,(af:Hi _),u⟩;have Z:=ab (D.o.trans u);clear u;go_wp2_with fail;go_ret2;rw[Q.o,F.o];exact⟨Z,af,.slice none 0 0,⟨_,_,_,rfl⟩,rfl,fun x hx=>by cases hx⟩
       ·rw[hB] at j;have HB:=ab hB;have F:Hi (dS (rd t) 300 [] p=dS (rd t) (300-(i.length+1)) (i++[v]) r5):=j;clear hB j;go_wp2_with fail;refine(bK J hs 44 HB).mono ?_;rintro e w6 ⟨rfl,(af:Hi _),u⟩;have Z:=ab (D.o.trans u);have aE:=ab (ag N.o u (fun g' hg' e=>by have z:g'=rb:=e;have:=C.o g' hg';omega));have aF:=ab (O.o.ae (u.mono (Y:=XO X (.slice (some ⟨g,0,none⟩) (d.length+1) au)) (fun q _ e=>by have z:q=rb:=e;rw[z];exact .inl hX)));clear u N O;go_wp2_with fail;refine⟨⟨i++[v],d++[⟨S,T,U,.slice o n k⟩],r5,by simp;omega,by have:=dK.o;simp[mh];omega,?_,aE,C,aF,af,Z⟩,by have:=dK.o;simp[mh];omega⟩;rw[List.length_append];exact F
     ·rw[hA] at f;have HA:=ab hA;have F:Hi (dS (rd t) 300 [] p=(some (i++[v]),r4)):=f;clear hA f;go_wp2_with fail;refine(bK ak hs 93 HA).mono ?_;rintro e w5 ⟨rfl,(J:Hi _),m⟩;have D:=ab (aj.o.trans m);have N:=ab (ag M.o m (fun g' hg' e=>by have z:g'=rb:=e;have:=C.o g' hg';omega));have O:=ab (L.o.ae (m.mono (Y:=XO X (.slice (some ⟨g,0,none⟩) (d.length+1) au)) (fun q _ e=>by have z:q=rb:=e;rw[z];exact .inl hX)));clear m M L;go_wp2_with fail;go_ret2;rw[Q.o,F.o];exact⟨D,J,_,⟨_,_,_,rfl⟩,rfl,fun x hx=>by simp at hx;subst hx;exact⟨_,N,C,O⟩⟩
  ·have HD:=ab hd;have Q:Hi (dP (rd t) l=(some [],l2)):=by show dP (rd t) l=_;unfold dP;rw[hc];simp only[hd]
   clear hc hd;go_enter Tryz.func115,Tryz.ntmps115;go_wp2_with fail;refine(bK HR hs 91 HC).mono ?_;rintro e w1 ⟨rfl,(G:Hi _),(H:Hi _)⟩;go_wp2_with fail;refine(bK G hs 93 HD).mono ?_;rintro e w2 ⟨rfl,(aa:Hi _),ao⟩;have V:=ab (H.o.trans ao);clear ao;go_wp2_with fail;go_ret2;rw[Q.o];exact⟨V,aa,.slice none 0 0,⟨_,_,_,rfl⟩,rfl,fun x hx=>by simp at hx;subst hx;exact⟨[],World.ownsRow_nil _ _ _ _,fun g hg=>by simp[Value.ownBlock] at hg,VL.nil _ _⟩⟩
theorem yR{ty:TypeId}{rd:PT->Bs->Option PV×Bs}(hT:gW ty 82 rd t s)(h:RB ty w rb s l)(hX:X rb)(aH:∀ b,X b->b<w.heap.size)(ht:TR w X a t)(hs:s.size<=maxLen):
  Calls Tryz.prog 116 #[.pointer (some ⟨rb,0,none⟩),.pointer (some a)] w fun e w'=>fB ty w X rb s (iB (rd t) l) e w':=by
 have F:=ab h;have L:=ab hT;have M:=ab aH;have G:=ab ht;clear h hT aH ht;rcases hc:bz 45 l with _|P
 ·have C:=ab hc;rcases hd:bz 43 l with _|D
  ·have H:=ab hd;have m:Hi (iB (rd t) l=(none,l)):=by show iB (rd t) l=_;unfold iB;rw[hc];simp only[hd]
   clear hc hd;go_enter Tryz.func116,Tryz.ntmps116;go_wp2_with fail;refine(ck F hs 45 C).mono ?_;rintro e J ⟨rfl,(f:Hi _),(i:Hi _)⟩;go_wp2_with fail;refine(ck f hs 43 H).mono ?_;rintro e Q ⟨rfl,(j:Hi _),ao⟩;have d:=ab (i.o.trans ao);clear ao;go_wp2_with fail;go_ret2;rw[m.o];exact⟨d,j,.slice none 0 0,⟨_,_,_,rfl⟩,rfl,fun x hx=>by cases hx⟩
  ·have H:=ab hd;have m:Hi (iB (rd t) l=((rd t D).1.map (fun v=>[v]),(rd t D).2)):=by show iB (rd t) l=_;unfold iB;rw[hc];simp only[hd]
   clear hc hd;go_enter Tryz.func116,Tryz.ntmps116;go_wp2_with fail;refine(ck F hs 45 C).mono ?_;rintro e J ⟨rfl,(f:Hi _),(i:Hi _)⟩;go_wp2_with fail;refine(bK f hs 43 H).mono ?_;rintro e Q ⟨rfl,(j:Hi _),ao⟩;have d:=ab (i.o.trans ao);clear ao;go_wp2_with fail;refine(L.o _ X rb a D j hX (fun b hb=>Nat.lt_of_lt_of_le (M.o b hb) d.o.size) (G.o.ae (d.o.one hX))).mono ?_;rcases iD:rd t D with⟨q,T⟩;rw[iD] at m;clear iD;rintro e E ⟨u,(I:Hi _),⟨y,z,A,R⟩,⟨o,n,k,B⟩,rfl,K⟩;simp only at B;subst B;have N:=ab K;have p:=ab (d.o.trans u);clear u K;simp only[VC.val];go_wp2_with fail;go_ret2;rw[m.o];refine⟨p.o.trans ((Fr.alloc _ _ _).trans (Fr.alloc _ _ _)),(I.o.ae (Fr.alloc Zero _ _) (fun h=>h)).ae (Fr.alloc Zero _ _) (fun h=>h),.slice (some ⟨E.heap.size+1,0,none⟩) 1 1,⟨_,_,_,rfl⟩,by cases q<;>rfl,fun x hx=>?_⟩;simp only[Option.map_eq_some_iff] at hx;obtain⟨v,S,rfl⟩:=hx;have O:=p.o.size;have r:((E.alloc (.cells #[.pointer (some y),.int .i64 z,.string (ba A),.slice o n k] 133)).alloc (.cells #[.pointer (some y),.int .i64 z,.string (ba A),.slice o n k] 133)).heap[E.heap.size+1]?=some (.cells #[.pointer (some y),.int .i64 z,.string (ba A),.slice o n k] 133 (0,0)):=af (by simp) _;exact⟨[⟨y,z,A,.slice o n k⟩],ui (c:=⟨y,z,A,.slice o n k⟩) r,fun g hg=>by simp[Value.ownBlock] at hg;omega,VL.snoc (rows:=[]) (VL.nil _ _) ((N.o v S).past ((Fr.alloc Zero E _).trans (Fr.alloc _ _ _)) (fun g hg=>by simp[Value.ownBlock] at hg;omega))⟩
 ·have C:=ab hc;have m:Hi (iB (rd t) l=(some [],P)):=by show iB (rd t) l=_;unfold iB;rw[hc]
  clear hc;go_enter Tryz.func116,Tryz.ntmps116;go_wp2_with fail;refine(bK F hs 45 C).mono ?_;rintro e J ⟨rfl,(f:Hi _),(i:Hi _)⟩;go_wp2_with fail;go_ret2;rw[m.o];exact⟨i,f,.slice none 0 0,⟨_,_,_,rfl⟩,rfl,fun x hx=>by simp at hx;subst hx;exact⟨[],World.ownsRow_nil _ _ _ _,fun g hg=>by simp[Value.ownBlock] at hg,VL.nil _ _⟩⟩
theorem t6(rd:PT->Bs->Option PV×Bs)(t:PT)(ts:List PT)(ahead:Nat)(acc:List PV)(l:Bs):bh rd (t::ts) ahead acc l=match bz ahead l with
  | none=>(none,l)
  | some l1=>match rd t l1 with
   |(none,l2)=>(none,l2)
   |(some v,l2)=>bh rd ts 44 (acc++[v]) l2:=rfl
theorem yw{ty:TypeId}{subs:List PT}{rd:PT->Bs->Option PV×Bs}(pg fQ:Nat)(bY:List (ByteArray×Addr))
  (hT:∀ u∈subs,gW ty 82 rd u s) (h:RB ty w rb s l) (hX:X rb) (aH:∀ b,X b->b<w.heap.size)
  (hO:w.ownsRow 0 198 2 (.slice (some ⟨pg,0,none⟩) bY.length fQ) bY.length (aU bY)) (hpg:¬X pg) (aX:bY.length=subs.length) (h6:subs.length<=6)
  (htr:∀(j:Nat) (p:ByteArray×Addr) (u:PT),bY[j]?=some p->subs[j]?=some u->TR w X p.2 u) (hs:s.size<=maxLen) :
  Calls Tryz.prog 117 #[.pointer (some ⟨rb,0,none⟩),.slice (some ⟨pg,0,none⟩) bY.length fQ] w fun e w'=>fB ty w X rb s (bh rd subs 123 [] l) e w':=by
 have HR:=ab h;have dG:=h.lt;have HT:=ab hT;have HX:=ab aH;have aA:=ab htr;have jq:pg<w.heap.size:=(hO.lt pg rfl).2;have ac:¬One rb pg:=fun e=>by have I:pg=rb:=e;rw[I] at hpg;exact hpg hX
 have ad:=ab ac;have ah:=ab hO;have A:=ab aX;clear h hT aH htr hO ac hpg aX;go_enter Tryz.func117,Tryz.ntmps117;go_wp2_with fail
 go_loopw [6,7,14] (fun ev av iv wr=>∃(k:Nat) (z:List PV) (d:List VC) (r:Bs) (ahead:Nat),k<=subs.length/\z.length=k/\iv=.int .i64 k/\av=.int .u8 ahead/\ahead<256/\Hi (bh rd subs 123 [] l=bh rd (subs.drop k) ahead z r)/\Hi (wr.ownsRow 0 133 4 ev d.length (cP d))/\Hi (∀ g,ev.ownBlock=some g->w.heap.size<=g) /\
    Hi (VL wr (XO X ev) d z)/\Hi (RB ty wr rb s r)/\Hi (Fr (One rb) w wr)) (fun _ _ iv _=>subs.length-(intOf iv).toNat)
 case atStart=>exact⟨0,[],[],l,123,by omega,rfl,rfl,rfl,by omega,rfl,World.ownsRow_nil _ _ _ _,fun g hg=>by simp[Value.ownBlock] at hg,VL.nil _ _,HR,Fr.refl _ _⟩
 case round =>
  obtain⟨k,z,d,r,ahead,hk,ai,rfl,rfl,aM,HE,HO,HG,N,G,Q⟩:=hrel;have dK:Hi (d.length=z.length):=N.o.1;obtain⟨Z,y,rfl⟩:=dF HO.o;have J:XO X (.slice Z d.length y) rb:=.inl hX
  have K:Hi (∀ g,(Value.slice Z d.length y).ownBlock=some g->¬One rb g):=fun g hg e=>by
   have I:g=rb:=e
   have:=HG.o g hg
   omega
  by_cases aB:k<subs.length
  ·obtain⟨p,hp⟩:∃ p,bY[k]?=some p:=⟨bY[k]'(by have:=A.o;omega),by simp⟩;obtain⟨u,hu⟩:∃ u,subs[k]?=some u:=⟨subs[k],by simp⟩
   have qU:wr.cell? ⟨pg,k*2,none⟩=some (.string p.1):=by
    rw[Q.o.cell (a:=⟨pg,k*2,none⟩) jq ad,ah.o.cellAt (k*2) (by have:=A.o;omega)];exact(a8 bY k p hp).1
   have aO:wr.cell? ⟨pg,k*2+1,none⟩=some (.pointer (some p.2)):=by
    rw[Q.o.cell (a:=⟨pg,k*2+1,none⟩) jq ad,ah.o.cellAt (k*2+1) (by have:=A.o;omega)];exact(a8 bY k p hp).2
   have aC:Hi (TR w X p.2 u):=aA.o k p u hp hu;have aD:Hi (gW ty 82 rd u s):=HT.o u (List.mem_of_getElem? hu)
   have aE:Hi (subs.drop k=u::subs.drop (k+1)):=by
    show _=_;obtain⟨_,he⟩:=List.getElem?_eq_some_iff.1 hu;rw[List.drop_eq_getElem_cons aB,he]
   have hI:(k:Int)<(bY.length:Int):=by have:=A.o;omega
   have f:Hi (bh rd subs 123 [] l=match bz ahead r with
     | none=>(none,r)
     | some l1=>match rd u l1 with
      |(none,l2)=>(none,l2)
      |(some v,l2)=>bh rd (subs.drop (k+1)) 44 (z++[v]) l2):=HE.o.trans (by rw[aE.o,t6])
   clear hp hu HE;rcases hA:bz ahead r with _|r2
   ·rw[hA] at f;have U:=ab hA;have i:Hi (bh rd subs 123 [] l=(none,r)):=f;clear hA f;go_wp2_with fail;refine(ck (G.o.ae (Fr.alloc Zero _ _) (fun h=>h)) hs ahead U).mono ?_;rintro e w2 ⟨rfl,(C:Hi _),ao⟩;have t:=ab (Q.o.trans ((Fr.alloc _ _ _).trans ao));clear ao;go_wp2_with fail;go_ret2;rw[i.o];exact⟨t,C,.slice none 0 0,⟨_,_,_,rfl⟩,rfl,fun x hx=>by cases hx⟩
   ·rw[hA] at f;have U:=ab hA;clear hA;go_wp2_with fail;refine(bK (G.o.ae (Fr.alloc Zero _ _) (fun h=>h)) hs ahead U).mono ?_;rintro e w2 ⟨rfl,(C:Hi _),ao⟩;have D:=(Fr.alloc (One rb) wr (.cells #[.string p.1,.pointer (some p.2)] 198)).trans ao;have t:=ab (Q.o.trans D);have E:=ab (ag HO.o D K.o);have L:=ab (N.o.ae (D.mono (Y:=XO X (.slice Z d.length y)) (fun q _ e=>by have I:q=rb:=e;rw[I];exact J)))
    have aP:w2.cell? ⟨wr.heap.size,1,none⟩=some (.pointer (some p.2)):=by
     have cF:¬One rb wr.heap.size:=fun e=>by have I:wr.heap.size=rb:=e;have:=Q.o.size;omega
     rw[cell_of_heap (ao.ae (af (w:=wr) rfl _) cF)];rfl
    clear ao D HO N;go_wp2_with fail;refine(aD.o _ (XO X (.slice Z d.length y)) rb p.2 r2 C J (XO.lt HX E t.o.size) (aC.o.past.open_ hX t HG)).mono ?_;rcases hq:rd u r2 with⟨_|v,r3⟩
    ·simp only[hq] at f;clear hq;rintro e w3 ⟨aj,(O:Hi _),⟨R,S,T,aN⟩,⟨o,n,m,H⟩,rfl,-⟩;simp only at H;subst H;have i:Hi (bh rd subs 123 [] l=(none,r3)):=f;have F:=ab (t.o.trans aj);clear aj f;simp only[VC.val];go_wp2_with fail;go_ret2;rw[i.o];exact⟨F.o.trans (Fr.alloc _ _ _),O.o.ae (Fr.alloc Zero _ _) (fun h=>h),.slice none 0 0,⟨_,_,_,rfl⟩,rfl,fun x hx=>by cases hx⟩
    ·simp only[hq] at f;clear hq;rintro e w3 ⟨(F:Hi _),(O:Hi _),⟨R,S,T,aN⟩,⟨o,n,m,H⟩,rfl,hv⟩;simp only at H;subst H;have i:Hi (bh rd subs 123 [] l=bh rd (subs.drop (k+1)) 44 (z++[v]) r3):=f;have HV:=ab (hv v rfl);clear hv f;simp only[VC.val];obtain⟨i0,hi,ak,al,am⟩:=info_parts Tryz.vg
     go_wp2_with (at_builtin;refine az _ rfl _ _ 131 rfl 0 133 i0 (.agg #[.pointer none,.int .i64 0,.string ⟨#[]⟩,.slice none 0 0]) 4 56 Tryz.underlying131 hi ak al am rfl (by decide) (.slice Z d.length y) d.length (cP d) rfl ?o1 ⟨w3.heap.size+1,0,none⟩ 1 1 (by omega) [.pointer (some R),.int .i64 S,.string (ba T),.slice o n m] rfl rfl ?c1 ?c2 ?c3 ?c4 (Nat.zero_le _) ?_)
     case o1=>exact(ag E.o F K.o).alloc _ |>.alloc _
     case c2=>exact⟨rfl,rfl,rfl,rfl⟩
     case c3=>have:=dK.o;unfold maxLen;omega
     case c4=>have:=dK.o;omega
     intro v' w4 an ap g au aq ar;have M:Fr (One rb) w2 ((w3.alloc (.cells #[.pointer (some R),.int .i64 S,.string (ba T),.slice o n m] 133)).alloc (.cells #[.pointer (some R),.int .i64 S,.string (ba T),.slice o n m] 133)):=F.o.trans ((Fr.alloc _ _ _).trans (Fr.alloc _ _ _));have V:Fr Zero w3 ((w3.alloc (.cells #[.pointer (some R),.int .i64 S,.string (ba T),.slice o n m] 133)).alloc (.cells #[.pointer (some R),.int .i64 S,.string (ba T),.slice o n m] 133)):=(Fr.alloc _ _ _).trans (Fr.alloc _ _ _);have dJ:=t.o.size;have P:=M.size;obtain⟨aw,ax,ay,aa,-⟩:=VL.grow (B:=w.heap.size) (c:=⟨R,S,T,.slice o n m⟩) (v:=v) HG (Nat.le_trans dJ P) (L.o.ae (M.mono (fun q _ e=>by have I:q=rb:=e;rw[I];exact J))) (HV.o.ae V.dV) an ap ⟨g,au,aq,by simpa using ar⟩;have aF:=ab ((t.o.trans M).past aa);have aG:=ab ((O.o.ae V (fun h=>h)).ae aa (by omega));have aI:=ab aw;have aJ:=ab ax;have aK:=ab ay;subst aq;clear an ap ar M V aw ax ay aa hi ak al am dJ P K E HG L G Q O F HV;go_wp2_with fail
     go_roundw
     case rel=>exact⟨k+1,z++[v],d++[⟨R,S,T,.slice o n m⟩],r3,44,by omega,by simp[ai],by go_num,rfl,by omega,i,aJ,aK,aI,aG,aF⟩
     case measure=>simp[intOf];omega
  ·have aL:k=subs.length:=by omega
   subst aL;have hI:¬(subs.length:Int)<(bY.length:Int):=by have:=A.o;omega
   have i:Hi (bh rd subs 123 [] l=match bz 125 r with
    | some l1=>(some z,l1)
    | none=>(none,r)):=HE.o.trans (by rw[List.drop_length];rfl)
   clear HE;rcases hA:bz 125 r with _|r2
   ·rw[hA] at i;have U:=ab hA;have W:Hi (bh rd subs 123 [] l=(none,r)):=i;clear hA i;go_wp2_with fail;refine(ck G hs 125 U).mono ?_;rintro e w2 ⟨rfl,(C:Hi _),ao⟩;have t:=ab (Q.o.trans ao);clear ao;go_wp2_with fail;go_ret2;rw[W.o];exact⟨t,C,.slice Z d.length y,⟨_,_,_,rfl⟩,rfl,fun x hx=>by cases hx⟩
   ·rw[hA] at i;have U:=ab hA;have W:Hi (bh rd subs 123 [] l=(some z,r2)):=i;clear hA i;go_wp2_with fail;refine(bK G hs 125 U).mono ?_;rintro e w2 ⟨rfl,(C:Hi _),ao⟩;have t:=ab (Q.o.trans ao);have E:=ab (ag HO.o ao K.o);have L:=ab (N.o.ae (ao.mono (Y:=XO X (.slice Z d.length y)) (fun q _ e=>by have I:q=rb:=e;rw[I];exact J)));clear ao;go_wp2_with fail;go_ret2;rw[W.o];exact⟨t,C,_,⟨_,_,_,rfl⟩,rfl,fun x hx=>by simp at hx;subst hx;exact⟨_,E,HG,L⟩⟩
theorem Tryz.Aw:(Tryz.prog.info? 9).map (fun i=>(i.zero,i.size,i.bytes))=some (some (.string ⟨#[]⟩),1,16):=by kernel_rfl
def xV(ty:TypeId)(w:World)(X:Nat->Prop)(rb:Nat)(s:ByteArray)(lU:Option (Nat×PV)×Bs)(e:Ending)(w':World):Prop :=
 Fr (One rb) w w'/\RB ty w' rb s lU.2/\∃(n:Int) (sv:Value),(∃ o m k,sv=.slice o m k)/\e=.returned (.tuple #[.int .i64 n,sv,.bool lU.1.isSome])/\(∀ i v,lU.1=some (i,v)->n=i/\∃ rows:List VC,w'.ownsRow 0 133 4 sv rows.length (cP rows)/\(∀ g,sv.ownBlock=some g->w.heap.size<=g)/\VL w' (XO X sv) rows [v])
theorem yX(n:ByteArray):n++⟨#[58]⟩=ba (bU n):=by
 apply ef;simp[ba,bU]
theorem wR{ty:TypeId}(g au n:Nat)(ws:List Bs)(hn:n=ws.length)(hl:ws.length<=1000)(hx:∀ x∈ws,x.length<=1000)(fT:w.ownsRow 0 9 1 (.slice (some ⟨g,0,none⟩) n au) n (ib ws))(mV:g≠rb)
  (h:RB ty w rb s l) (hs:s.size<=maxLen) :
  Calls Tryz.prog 112 #[.pointer (some ⟨rb,0,none⟩),.slice (some ⟨g,0,none⟩) n au] w fun e w'=>eD ty w rb s ((cK ws [] l).1.map Int.ofNat,(cK ws [] l).2) e w':=by
 subst hn;exact Bt g au ws hl hx fT mV h hs
theorem zB{ty:TypeId}{rd:PT->Bs->Option PV×Bs}(pg fQ:Nat)(bY:List (ByteArray×Addr))
  (hT:∀ u∈t.subs,gW ty 82 rd u s) (h:RB ty w rb s l) (hX:X rb) (aH:∀ b,X b->b<w.heap.size)
  (hO:w.ownsRow 0 198 2 (.slice (some ⟨pg,0,none⟩) bY.length fQ) bY.length (aU bY)) (hpg:¬X pg) (aX:bY.length=t.subs.length) (hnm:bY.map (·.1)=t.names) (h0:0<bY.length) (h6:bY.length<=6) (hns:∀ p∈bY,p.1.size<=400)
  (htr:∀(j:Nat) (p:ByteArray×Addr) (u:PT),bY[j]?=some p->t.subs[j]?=some u->TR w X p.2 u) (hs:s.size<=maxLen) :
  Calls Tryz.prog 118 #[.pointer (some ⟨rb,0,none⟩),.slice (some ⟨pg,0,none⟩) bY.length fQ] w fun e w'=>xV ty w X rb s (gZ rd t l) e w':=by
 have HR:=ab h;have dG:=h.lt;have HT:=ab hT;have HX:=ab aH;have ak:=ab htr;have jq:pg<w.heap.size:=(hO.lt pg rfl).2;have N:¬One rb pg:=fun e=>by have e':pg=rb:=e;rw[e'] at hpg;exact hpg hX
 have al:=ab N;have G:=ab hO;have O:=ab aX;have am:=ab hns;obtain⟨d,y⟩:∃ d,d=bY.map (fun p=>bU p.1):=⟨_,rfl⟩;have an:Hi (t.names.map bU=d):=ab (by rw[y,<-hnm,List.map_map];rfl);have B:Hi (d.length=bY.length):=ab (by rw[y,List.length_map]);have ap:Hi (∀(k:Nat) (p:ByteArray×Addr),bY[k]?=some p->d[k]?=some (bU p.1)):=fun k p r=>by rw[y,List.getElem?_map,r];rfl
 have aq:Hi (∀ x∈d,x.length<=1000):=fun x hx=>by
  rw[y] at hx;obtain⟨p,r,rfl⟩:=List.mem_map.1 hx;have h1:=hns p r;have h2:p.1.data.toList.length=p.1.size:=by rw[Array.length_toList];rfl
  rw[bU,List.length_append,h2];simp;omega
 clear h hT aH htr hO N hpg aX hns hnm y;go_enter Tryz.func118,Tryz.ntmps118;go_wp2_with fail
 go_loopw [7,15] (fun nv iv wr=>∃ k:Nat,k<=bY.length/\iv=.int .i64 k/\Hi (wr.ownsRow 0 9 1 nv k (ib (d.take k)))/\Hi (∀ g,nv.ownBlock=some g->w.heap.size<=g)/\Hi (Fr Zero w wr)) (fun _ iv _=>bY.length-(intOf iv).toNat)
 case atStart=>exact⟨0,by omega,rfl,World.ownsRow_nil _ _ _ _,fun g hg=>by simp[Value.ownBlock] at hg,Fr.refl _ _⟩
 case round =>
  obtain⟨k,hk,rfl,HO,HG,I⟩:=hrel;obtain⟨ea,z,rfl⟩:=dF HO.o
  by_cases aI:k<bY.length
  ·obtain⟨p,r⟩:∃ p,bY[k]?=some p:=⟨bY[k],by simp⟩
   have qU:wr.cell? ⟨pg,k*2,none⟩=some (.string p.1):=by
    rw[I.o.cell (a:=⟨pg,k*2,none⟩) jq (fun h=>h),G.o.cellAt (k*2) (by omega)];exact(a8 bY k p r).1
   have ar:wr.cell? ⟨pg,k*2+1,none⟩=some (.pointer (some p.2)):=by
    rw[I.o.cell (a:=⟨pg,k*2+1,none⟩) jq (fun h=>h),G.o.cellAt (k*2+1) (by omega)];exact(a8 bY k p r).2
   have ux:=am.o p (List.mem_of_getElem? r)
   have av:Hi (d.take (k+1)=d.take k++[bU p.1]):=by
    show _=_;obtain⟨C,he⟩:=List.getElem?_eq_some_iff.1 (ap.o k p r);rw[List.take_succ_eq_append_getElem C,he]
   have P:=yX p.1;have aw:¬(9223372036854775807<p.1.size+1):=by omega
   have hI:(k:Int)<(bY.length:Int):=by omega
   clear r;obtain⟨i0,hi,W,Y,Z⟩:=info_parts Tryz.Aw
   go_wp2_with (at_builtin;refine az _ rfl _ _ 159 rfl 0 9 i0 (.string ⟨#[]⟩) 1 16 Tryz.underlying159 hi W Y Z rfl (by decide) (.slice ea k z) k (ib (d.take k)) rfl ?o1 ⟨wr.heap.size+1,0,none⟩ 1 1 (by omega) [.string (ba (bU p.1))] rfl rfl ?c1 ?c2 ?c3 ?c4 (Nat.zero_le _) ?_)
   case o1=>exact(HO.o.alloc _).alloc _
   case c1 =>
    intro j u L
    match j,L with
    | 0,L=>simp at L;subst L;simp[Addr.add]
    | j+1,L=>simp at L
   case c2=>intro u hu;simp at hu;subst hu;rfl
   case c3=>unfold maxLen;omega
   case c4=>omega
   intro v' w4 aa ac g au ad ag;have dJ:=I.o.size;have Q:Fr (fun b=>w.heap.size<=b) ((wr.alloc (.cells #[.string p.1,.pointer (some p.2)] 198)).alloc (.cells #[.string (ba (bU p.1))] 9)) w4:=Fr.grown ac (fun k e _=>HG.o k e);have ax:Hi (Fr Zero w w4):=(I.o.trans ((Fr.alloc _ _ _).trans (Fr.alloc _ _ _))).past Q
   have ay:Hi (w4.ownsRow 0 9 1 v' (k+1) (ib (d.take (k+1)))):=by
    show World.ownsRow _ _ _ _ _ _ _;rw[av.o];simpa[ib] using aa
   have aA:Hi (∀ g,v'.ownBlock=some g->w.heap.size<=g):=fun g' hg'=>by
    rw[ad] at hg';simp[Value.ownBlock] at hg';subst hg';rcases ag with S|S
    ·exact HG.o _ S
    ·omega
   subst ad;clear aa ac ag Q hi W Y Z dJ P aw;go_wp2_with fail;exact⟨⟨k+1,by omega,by go_num,ay,aA,ax⟩,by simp[intOf];omega⟩
  ·have aB:k=bY.length:=by omega
   subst aB;have hI:¬(bY.length:Int)<(bY.length:Int):=by omega
   have R:Hi (wr.ownsRow 0 9 1 (.slice ea bY.length z) bY.length (ib d)):=by
    have S:=HO.o;rw[List.take_of_length_le (by have:=B.o;omega)] at S;exact S
   obtain⟨g,rfl⟩:∃ g,ea=some ⟨g,0,none⟩:=by
    rcases R.o.2 with⟨_,hz⟩|⟨g,au,aM,hv,_⟩
    ·omega
    ·simp at hv;exact⟨g,hv.1⟩
   have mV:g≠rb:=by have:=HG.o g rfl;omega
   have aC:=ab (HR.o.ae I (fun h=>h))
   have K:Hi (gZ rd t l=match cK d [] l with
     |(none,A)=>(none,A)
     |(some i,A)=>((rd (t.sub i) A).1.map (fun v=>(i,v)),(rd (t.sub i) A).2)):=by show _=_;unfold gZ;rw[an.o];rfl
   clear HO;go_wp2_with fail;refine(wR g z bY.length d B.o.symm (by have:=B.o;omega) aq R mV aC hs).mono ?_;rcases C:cK d [] l with⟨_|i,A⟩
   ·rw[C] at K;have HE:Hi (gZ rd t l=(none,A)):=K;clear C K;rintro e w2 ⟨ao,(J:Hi _),n,rfl,-⟩;have f:=ab (I.o.dV.trans ao);clear ao;go_wp2_with fail;go_ret3;rw[HE.o];exact⟨f,J,0,.slice none 0 0,⟨_,_,_,rfl⟩,rfl,fun i v hx=>by cases hx⟩
   ·rw[C] at K;have HE:Hi (gZ rd t l=((rd (t.sub i) A).1.map (fun v=>(i,v)),(rd (t.sub i) A).2)):=K;obtain⟨x,dm,ah,_,_⟩:=mO d l [] i A C;have aJ:i<bY.length:=by have:=(List.getElem?_eq_some_iff.1 ah).1;have:=B.o;omega
    clear C K ah;rintro e w2 ⟨ao,(J:Hi _),n,rfl,hn⟩;have aD:n=i:=hn i rfl;subst aD;have f:=ab (I.o.dV.trans ao);clear ao hn;obtain⟨p,r⟩:∃ p,bY[i]?=some p:=⟨bY[i],by simp⟩;have T:i<t.subs.length:=by have:=O.o;omega
    have aE:Hi (TR w X p.2 (t.sub i)):=ak.o i p _ r (PT.cO T);have aF:Hi (gW ty 82 rd (t.sub i) s):=HT.o _ (List.mem_of_getElem? (PT.cO T))
    have ar:w2.cell? ⟨pg,i*2+1,none⟩=some (.pointer (some p.2)):=by
     rw[f.o.cell (a:=⟨pg,i*2+1,none⟩) jq al,G.o.cellAt (i*2+1) (by omega)];exact(a8 bY i p r).2
    have aK:(i:Int)<(bY.length:Int):=by omega
    clear r;go_wp2_with fail;refine(aF.o _ X rb p.2 A J hX (fun b hb=>Nat.lt_of_lt_of_le (HX.o b hb) f.o.size) (aE.o.ae (f.o.one hX))).mono ?_;rcases iD:rd (t.sub i) A with⟨q,r3⟩;rw[iD] at HE;clear iD;rintro e M ⟨ai,(aG:Hi _),⟨D,E,F,aN⟩,⟨o,m,j,aj⟩,rfl,hv⟩;simp only at aj;subst aj;have HV:=ab hv;have U:=ab (f.o.trans ai);clear ai hv;simp only[VC.val];go_wp2_with fail
    go_region
    go_wp2_with fail;go_ret3;rw[HE.o];have H:Fr Zero M (((M.alloc (.cells #[.pointer (some D),.int .i64 E,.string (ba F),.slice o m j] 133)).alloc (.cells #[.pointer (some D),.int .i64 E,.string (ba F),.slice o m j] 133)).drew):=(Fr.alloc _ _ _).trans ((Fr.alloc _ _ _).trans (Fr.drew _ _));refine⟨U.o.trans H.dV,aG.o.ae H (fun h=>h),i,.slice (some ⟨M.heap.size+1,0,none⟩) 1 1,⟨_,_,_,rfl⟩,?_,fun i' v hx=>?_⟩
    ·have:(Option.map (fun v=>(i,v)) q).isSome=q.isSome:=by cases q<;>rfl
     simp only[this];rfl
    ·simp only[Option.map_eq_some_iff] at hx;obtain⟨v',C,he⟩:=hx;simp at he;obtain⟨rfl,rfl⟩:=he;have aL:=U.o.size;have V:(((M.alloc (.cells #[.pointer (some D),.int .i64 E,.string (ba F),.slice o m j] 133)).alloc (.cells #[.pointer (some D),.int .i64 E,.string (ba F),.slice o m j] 133)).drew).heap[M.heap.size+1]?=some (.cells #[.pointer (some D),.int .i64 E,.string (ba F),.slice o m j] 133 (0,0)):=af (w:=M.alloc (.cells #[.pointer (some D),.int .i64 E,.string (ba F),.slice o m j] 133)) (by simp) _;exact⟨rfl,[⟨D,E,F,.slice o m j⟩],ui (c:=⟨D,E,F,.slice o m j⟩) V,fun g hg=>by simp[Value.ownBlock] at hg;omega,VL.snoc (rows:=[]) (VL.nil _ _) ((HV.o v' C).past H (fun g hg=>by simp[Value.ownBlock] at hg;omega))⟩
end Go.Proofs.YtpffifpbpmlhdaaGreatDoor
