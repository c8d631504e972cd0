import Derived.Test.YtpffifpbpmlhdaaGreatDoorBsVWVal
set_option maxHeartbeats 32000000
set_option maxRecDepth 100000
namespace Go.Proofs.YtpffifpbpmlhdaaGreatDoor
open Go.RowKit
variable {w:World}{B k:Nat}{sv:Value}{acc:Bs}{t:PT}
structure jX(w:World)(B:Nat)(sv:Value)(acc:Bs):Prop where
 o:BO w B sv acc
 le:B<=w.heap.size
 pow:ey w
 gb:4<B
theorem jX.alloc(h:jX w B sv acc)(o:Obj):jX (w.alloc o) B sv acc :=
 ⟨h.o.alloc o,by have:=h.le;simp;omega,h.pow.ae (Fr.alloc Zero _ _) (fun h=>h),h.gb⟩
theorem jX.drew(h:jX w B sv acc):jX w.drew B sv acc :=
 ⟨h.o.ae (Fr.dr Zero _) (fun _ _ h=>h),h.le,h.pow.ae (Fr.dr Zero _) (fun h=>h),h.gb⟩
theorem jX.next{w':World}{E0:Value}{xQ:Bs}(h:jX w B sv acc)(hF:Fr (bk B) w w')(hO:BO w' B E0 xQ):jX w' B E0 xQ :=
 ⟨hO,Nat.le_trans h.le hF.size,h.pow.ae hF (fun e=>by have:=h.gb;unfold bk at e;omega),h.gb⟩
def tJ(k:Nat):Prop :=
 ∀(w:World) (B:Nat) (sv:Value) (acc:Bs) (c:VC) (v:PV) (t:PT),jX w B sv acc->VR w (bk B) c v->c8 k t->Valid k t v->acc.length+(aw k v).length+1000<=140737488355328->(∃ o n j,c.sv=.slice o n j) ->
  Calls Tryz.prog 101 #[c.val,sv] w fun e w'=>dN w B (acc++aw k v) e w'
def comma{α:Type}:List α->Bs
 | []=>[]
 | _::_=>[44]
theorem rD(f:PV->Bs)(l:List PV)(v:PV):aD f (l++[v])=aD f l++comma l++f v:=by
 induction l with
 | nil=>simp[aD,comma]
 | cons x l ih =>
  cases l with
  | nil=>simp[aD,comma]
  | cons y l =>
   have e:aD f (x::y::l)=f x++44::aD f (y::l):=rfl;have a:aD f (x::y::l++[v])=f x++44::aD f (y::l++[v]):=rfl;rw[e,a,ih];simp[comma]
theorem pc(f:PV->Bs)(l m:List PV):(aD f l).length<=(aD f (l++m)).length:=by
 induction l with
 | nil=>simp[aD]
 | cons x l ih =>
  cases l with
  | nil=>simp[aD]
  | cons y l =>
   have e:aD f (x::y::l)=f x++44::aD f (y::l):=rfl;have a:aD f (x::y::l++m)=f x++44::aD f (y::l++m):=rfl;rw[e,a];simp only[List.length_append,List.length_cons] at ih ⊢;omega
theorem jL(hT:tJ k)(w:World)(B:Nat)(sv pv:Value)(acc:Bs)(b e:UInt8)(rows:List VC)(vs:List PV)(h:jX w B sv acc)(hO:w.ownsRow 0 133 4 pv rows.length (cP rows))(hx:∀ g,pv.ownBlock=some g->¬bk B g)(hL:VL w (bk B) rows vs)(hV:∀ v∈vs,∃ t,c8 k t/\Valid k t v)(oD:vs.length<=300)(hl:acc.length+(aD (aw k) vs).length+1002<=140737488355328):
  Calls Tryz.prog 151 #[sv,.int .u8 b.toNat,pv,.int .u8 e.toNat] w fun en w'=>dN w B (acc++b::(aD (aw k) vs++[e])) en w':=by
 have dK:rows.length=vs.length:=hL.1;have Y:rows.length<=300:=by omega
 have Z:=ab hL;have HI:=ab h;have HT:=ab hT;have HO:=ab hO;have aa:=ab hx;have HL:=ab hl;have HV:=ab hV;have bZ:=h.le;obtain⟨ea,ap,am⟩:=dF hO;have y:=ab dK;clear hL h hT hO hx hl dK hV;subst am;go_enter Tryz.func151,Tryz.ntmps151
 go_wp2_with (at_builtin;refine bx rfl (.tmp 11) (.tmp 13) 118 rfl [b] rfl rfl (HI.o.o.alloc _) (ez rfl) ?hb1 ?hl1 ?_)
 case hb1=>simp;omega
 case hl1=>have:=HL.o;simp;omega
 intro v1 w1 ew K _;have G:=ab ((Fr.alloc (bk B) w _).trans K);have ac:=ab (HI.o.next G.o ew);clear ew K;go_wp2_with fail
 go_loopw [0,17] (fun ov i wr=>∃ j:Nat,j<=rows.length/\i=.int .i64 j/\Hi (jX wr B ov (acc++[b]++aD (aw k) (vs.take j)))/\Hi (Fr (bk B) w wr)) (fun _ i _=>rows.length-(intOf i).toNat)
 case atStart=>exact⟨0,by omega,rfl,by simpa[aD] using ac,G⟩
 case round =>
  obtain⟨j,hj,rfl,f,l⟩:=hrel;have an:=f.o.le
  by_cases aq:j<rows.length
  ·obtain⟨g,au,F⟩:=dz HO.o (by omega);simp at F;obtain⟨rfl,rfl⟩:=F;obtain⟨⟨T,U,V,ar⟩,W⟩:∃ c,rows[j]?=some c:=⟨rows[j],by simp⟩;obtain⟨v,F⟩:∃ v,vs[j]?=some v:=⟨vs[j]'(by have:=y.o;omega),by simp⟩;have u:g<w.heap.size:=(HO.o.lt g rfl).2;have p:¬bk B g:=aa.o g rfl;obtain⟨c0,c1,c2,c3⟩:=vB HO.o rfl W;have d0:=(l.o.cell (a:=⟨g,j*4,none⟩) u p).trans c0;have d1:=(l.o.cell (a:=⟨g,j*4+1,none⟩) u p).trans c1;have d2:=(l.o.cell (a:=⟨g,j*4+2,none⟩) u p).trans c2;have d3:=(l.o.cell (a:=⟨g,j*4+3,none⟩) u p).trans c3;have z:=Z.o.2 j _ v W F;obtain⟨o,n,m,hs⟩:=z.sliced;simp only at hs;subst hs;have H:=ab (z.ae l);obtain⟨t,L,bN⟩:=HV.o v (List.mem_of_getElem? F);have I:=ab L;have x:=ab bN
   have A:Hi (aD (aw k) (vs.take (j+1))=aD (aw k) (vs.take j)++comma (vs.take j)++aw k v):=by
    show _=_;obtain⟨hq,he⟩:=List.getElem?_eq_some_iff.1 F;rw[List.take_succ_eq_append_getElem hq,he,rD]
   have J:(acc++[b]++aD (aw k) (vs.take j)++comma (vs.take j)).length+(aw k v).length+1000<=140737488355328:=by
    have h1:=HL.o;have h2:=pc (aw k) (vs.take (j+1)) (vs.drop (j+1));rw[List.take_append_drop,A.o] at h2;simp only[List.length_append,List.length_cons,List.length_nil] at h1 h2 ⊢;omega
   have q:=ab J;have hI:(j:Int)<(rows.length:Int):=by omega
   clear c0 c1 c2 c3 z bN F p L;rcases Nat.eq_zero_or_pos j with X|X
   ·have S:Hi (comma (vs.take j)=[]):=ab (by rw[X];rfl);have ad:¬(0:Int)<(j:Int):=by omega
    have ag:Hi (jX (wr.alloc (.cells #[.pointer (some T),.int .i64 U,.string (ba V),.slice o n m] 133)) B u0 (acc++[b]++aD (aw k) (vs.take j)++comma (vs.take j))):=by
     show jX _ _ _ _;rw[S.o,List.append_nil];exact f.o.alloc _
    clear W X;go_wp2_with fail;refine Calls.mono (R:=fun en w'=>dN wr B (acc++[b]++aD (aw k) (vs.take (j+1))) en w') ?_ ?_
    ·refine(HT.o _ B _ (acc++[b]++aD (aw k) (vs.take j)++comma (vs.take j)) ⟨T,U,V,.slice o n m⟩ v t ag (H.o.ae (Fr.alloc _ _ _)) I x q ⟨_,_,_,rfl⟩).mono ?_;rintro en w2 ⟨ao,r,rfl,d⟩;refine⟨(Fr.alloc _ _ _).trans ao,r,rfl,?_⟩;rw[A.o];simpa using d
    rintro en w2 ⟨ao,r,rfl,d⟩;have C:=ab (l.o.trans ao);have D:=ab (f.o.next ao d);clear ao d;go_wp2_with fail;exact⟨⟨j+1,by omega,by go_num,D,C⟩,by simp[intOf];omega⟩
   ·have S:Hi (comma (vs.take j)=[44]):=by
     show _=_
     have:(vs.take j).length=j:=by rw[List.length_take];have:=y.o;omega
     cases hq:vs.take j with
     | nil=>rw[hq] at this;simp at this;omega
     | cons=>rfl
    have ad:(0:Int)<(j:Int):=by omega
    clear W X
    go_wp2_with (at_builtin;refine bx rfl (.tmp 24) (.tmp 25) 118 rfl [44] rfl rfl ((f.o.o.alloc _).alloc _) (by exact kA (b:=44) (t:=5) (af (by simp) _)) ?hb4 ?hl4 ?_)
    case hb4=>first|omega|(simp;omega)
    case hl4=>have:=q.o;rw[S.o] at this;simp at this ⊢;omega
    intro v4 M N O s;have cF:¬iL u0 wr.heap.size:=fun e=>by have:=(f.o.o.own.lt _ e).2;omega
    have p0:M.cell? ⟨wr.heap.size,0,none⟩=some (.pointer (some T)):=by rw[s.cell (a:=⟨wr.heap.size,0,none⟩) (by simp;omega) cF];simp
    have p1:M.cell? ⟨wr.heap.size,1,none⟩=some (.int .i64 U):=by rw[s.cell (a:=⟨wr.heap.size,1,none⟩) (by simp;omega) cF];simp
    have p2:M.cell? ⟨wr.heap.size,2,none⟩=some (.string (ba V)):=by rw[s.cell (a:=⟨wr.heap.size,2,none⟩) (by simp;omega) cF];simp
    have p3:M.cell? ⟨wr.heap.size,3,none⟩=some (.slice o n m):=by rw[s.cell (a:=⟨wr.heap.size,3,none⟩) (by simp;omega) cF];simp
    have E:=ab (((Fr.alloc (bk B) wr _).trans (Fr.alloc _ _ _)).trans O)
    have ah:Hi (jX M B v4 (acc++[b]++aD (aw k) (vs.take j)++comma (vs.take j))):=by
     show jX _ _ _ _;rw[S.o];exact f.o.next E.o (by simpa using N)
    clear N O s cF;go_wp2_with fail;refine Calls.mono (R:=fun en w'=>dN wr B (acc++[b]++aD (aw k) (vs.take (j+1))) en w') ?_ ?_
    ·refine(HT.o _ B _ (acc++[b]++aD (aw k) (vs.take j)++comma (vs.take j)) ⟨T,U,V,.slice o n m⟩ v t ah (H.o.ae E) I x q ⟨_,_,_,rfl⟩).mono ?_;rintro en w2 ⟨ao,r,rfl,d⟩;refine⟨E.o.trans ao,r,rfl,?_⟩;rw[A.o];simpa using d
    rintro en w2 ⟨ao,r,rfl,d⟩;have C:=ab (l.o.trans ao);have D:=ab (f.o.next ao d);clear ao d;go_wp2_with fail;exact⟨⟨j+1,by omega,by go_num,D,C⟩,by simp[intOf];omega⟩
  ·have ai:j=rows.length:=by omega
   subst ai;have hI:¬(rows.length:Int)<(rows.length:Int):=by omega
   have aj:Hi (jX wr B u0 (acc++[b]++aD (aw k) vs)):=by
    have h':=f.o;rw[List.take_of_length_le (by have:=y.o;omega)] at h';exact h'
   go_wp2_with (at_builtin;refine bx rfl (.tmp 31) (.tmp 33) 118 rfl [e] rfl rfl (aj.o.o.alloc _) (ez rfl) ?hb5 ?hl5 ?_)
   case hb5=>first|omega|(simp;omega)
   case hl5=>have:=HL.o;first|omega|(simp;omega)
   intro v5 w5 P Q _;have ak:=ab P;have al:=ab ((l.o.trans (Fr.alloc (bk B) _ _)).trans Q);clear P Q;go_wp2_with fail;go_ret;exact⟨al,v5,rfl,by simpa using ak.o⟩
theorem Gl(w:World)(B:Nat)(sv:Value)(acc:Bs)(c:VC)(v:PV)(h:jX w B sv acc)(hV:VR w (bk B) c v)(_hW:c8 (k+1) t)(bN:Valid (k+1) t v)(hk:t.kind=0)(hl:acc.length+(aw (k+1) v).length+1000<=140737488355328)(hc:∃ o n j,c.sv=.slice o n j):
  Calls Tryz.prog 101 #[c.val,sv] w fun e w'=>dN w B (acc++aw (k+1) v) e w':=by
 have K:=ab h;obtain⟨V,W,X,R⟩:=c;obtain⟨o,n,j,hc⟩:=hc;simp only at hc;subst hc;obtain⟨b,F,G,H,I,J,S⟩:=hV.open;simp only at b F G I J;subst F G;obtain⟨q,T,r,rfl,d,s,u,x,y,z,A⟩:=b.open;obtain⟨f,g⟩:=bN;have L:=lt_of_heap d;have U:w.cell? ⟨q,0,none⟩=some (.int .i64 0):=by rw[cell_of_heap d,f,hk];rfl
 simp only[hk] at g;obtain⟨iQ,C,D,eQ⟩:=g;have M:bQ 0<=4294967295:=by decide
 have N:-9223372036854775808<=v.num:=by omega
 have O:v.num<=9223372036854775807:=by omega
 have P:Hi (aw (k+1) v=gq v.num):=by
  show _=_;simp only[aw,f,hk];rfl
 have l:=ab hl;clear h hV _hW b d s f hl hk u x y z A I J S iQ C D eQ M;simp only[VC.val];have a:Hi (jX (w.alloc (.cells #[.pointer (some ⟨q,0,none⟩),.int .i64 v.num,.string (ba v.bytes),.slice o n j] 133)) B sv acc):=K.o.alloc _;have Q:Hi (Fr (bk B) w (w.alloc (.cells #[.pointer (some ⟨q,0,none⟩),.int .i64 v.num,.string (ba v.bytes),.slice o n j] 133))):=Fr.alloc _ _ _;go_enter Tryz.func101,Tryz.ntmps101;go_wp2_with fail;refine(im _ B sv acc v.num N O a.o.o a.o.le a.o.pow a.o.gb (by have:=l.o;omega)).mono ?_;rintro e Y ⟨ao,E,rfl,i⟩;have m:=ab (Q.o.trans ao);have p:=ab i;clear ao i;go_wp2_with fail;go_ret;rw[P.o];exact⟨m,E,rfl,p⟩
theorem Gk(w:World)(B:Nat)(sv:Value)(acc:Bs)(c:VC)(v:PV)(h:jX w B sv acc)(hV:VR w (bk B) c v)(_hW:c8 (k+1) t)(bN:Valid (k+1) t v)(hk:t.kind=1)(hl:acc.length+(aw (k+1) v).length+1000<=140737488355328)(hc:∃ o n j,c.sv=.slice o n j):
  Calls Tryz.prog 101 #[c.val,sv] w fun e w'=>dN w B (acc++aw (k+1) v) e w':=by
 have K:=ab h;obtain⟨V,W,X,R⟩:=c;obtain⟨o,n,j,hc⟩:=hc;simp only at hc;subst hc;obtain⟨b,F,G,H,I,J,S⟩:=hV.open;simp only at b F G I J;subst F G;obtain⟨q,T,r,rfl,d,s,u,x,y,z,A⟩:=b.open;obtain⟨f,g⟩:=bN;have L:=lt_of_heap d;have U:w.cell? ⟨q,0,none⟩=some (.int .i64 1):=by rw[cell_of_heap d,f,hk];rfl
 simp only[hk] at g;obtain⟨iQ,C,D,eQ⟩:=g;have M:bQ 1<=4294967295:=by decide
 have N:-9223372036854775808<=v.num:=by omega
 have O:v.num<=9223372036854775807:=by omega
 have P:Hi (aw (k+1) v=gq v.num):=by
  show _=_;simp only[aw,f,hk];rfl
 have l:=ab hl;clear h hV _hW b d s f hl hk u x y z A I J S iQ C D eQ M;simp only[VC.val];have a:Hi (jX (w.alloc (.cells #[.pointer (some ⟨q,0,none⟩),.int .i64 v.num,.string (ba v.bytes),.slice o n j] 133)) B sv acc):=K.o.alloc _;have Q:Hi (Fr (bk B) w (w.alloc (.cells #[.pointer (some ⟨q,0,none⟩),.int .i64 v.num,.string (ba v.bytes),.slice o n j] 133))):=Fr.alloc _ _ _;go_enter Tryz.func101,Tryz.ntmps101;go_wp2_with fail;refine(im _ B sv acc v.num N O a.o.o a.o.le a.o.pow a.o.gb (by have:=l.o;omega)).mono ?_;rintro e Y ⟨ao,E,rfl,i⟩;have m:=ab (Q.o.trans ao);have p:=ab i;clear ao i;go_wp2_with fail;go_ret;rw[P.o];exact⟨m,E,rfl,p⟩
theorem Gj(w:World)(B:Nat)(sv:Value)(acc:Bs)(c:VC)(v:PV)(h:jX w B sv acc)(hV:VR w (bk B) c v)(_hW:c8 (k+1) t)(bN:Valid (k+1) t v)(hk:t.kind=2)(hl:acc.length+(aw (k+1) v).length+1000<=140737488355328)(hc:∃ o n j,c.sv=.slice o n j):
  Calls Tryz.prog 101 #[c.val,sv] w fun e w'=>dN w B (acc++aw (k+1) v) e w':=by
 have K:=ab h;obtain⟨V,W,X,R⟩:=c;obtain⟨o,n,j,hc⟩:=hc;simp only at hc;subst hc;obtain⟨b,F,G,H,I,J,S⟩:=hV.open;simp only at b F G I J;subst F G;obtain⟨q,T,r,rfl,d,s,u,x,y,z,A⟩:=b.open;obtain⟨f,g⟩:=bN;have L:=lt_of_heap d;have U:w.cell? ⟨q,0,none⟩=some (.int .i64 2):=by rw[cell_of_heap d,f,hk];rfl
 simp only[hk] at g;obtain⟨iQ,C,D,eQ⟩:=g;have M:bQ 2<=4294967295:=by decide
 have N:-9223372036854775808<=v.num:=by omega
 have O:v.num<=9223372036854775807:=by omega
 have P:Hi (aw (k+1) v=gq v.num):=by
  show _=_;simp only[aw,f,hk];rfl
 have l:=ab hl;clear h hV _hW b d s f hl hk u x y z A I J S iQ C D eQ M;simp only[VC.val];have a:Hi (jX (w.alloc (.cells #[.pointer (some ⟨q,0,none⟩),.int .i64 v.num,.string (ba v.bytes),.slice o n j] 133)) B sv acc):=K.o.alloc _;have Q:Hi (Fr (bk B) w (w.alloc (.cells #[.pointer (some ⟨q,0,none⟩),.int .i64 v.num,.string (ba v.bytes),.slice o n j] 133))):=Fr.alloc _ _ _;go_enter Tryz.func101,Tryz.ntmps101;go_wp2_with fail;refine(im _ B sv acc v.num N O a.o.o a.o.le a.o.pow a.o.gb (by have:=l.o;omega)).mono ?_;rintro e Y ⟨ao,E,rfl,i⟩;have m:=ab (Q.o.trans ao);have p:=ab i;clear ao i;go_wp2_with fail;go_ret;rw[P.o];exact⟨m,E,rfl,p⟩
theorem Gi(w:World)(B:Nat)(sv:Value)(acc:Bs)(c:VC)(v:PV)(h:jX w B sv acc)(hV:VR w (bk B) c v)(_hW:c8 (k+1) t)(bN:Valid (k+1) t v)(hk:t.kind=3)(hl:acc.length+(aw (k+1) v).length+1000<=140737488355328)(hc:∃ o n j,c.sv=.slice o n j):
  Calls Tryz.prog 101 #[c.val,sv] w fun e w'=>dN w B (acc++aw (k+1) v) e w':=by
 have J:=ab h;obtain⟨T,U,V,N⟩:=c;obtain⟨o,n,j,hc⟩:=hc;simp only at hc;subst hc;obtain⟨b,E,F,G,H,I,O⟩:=hV.open;simp only at b E F H I;subst E F;obtain⟨q,P,r,rfl,d,s,u,x,y,z,A⟩:=b.open;obtain⟨f,g⟩:=bN;have K:=lt_of_heap d;have S:w.cell? ⟨q,0,none⟩=some (.int .i64 3):=by rw[cell_of_heap d,f,hk];rfl
 simp only[hk] at g;obtain⟨iQ,C,Q,R⟩:=g
 have L:Hi (aw (k+1) v=gq v.num):=by
  show _=_;simp only[aw,f,hk];rfl
 have l:=ab hl;clear h hV _hW b d s f hl hk u x y z A H I O iQ C;simp only[VC.val];have a:Hi (jX (w.alloc (.cells #[.pointer (some ⟨q,0,none⟩),.int .i64 v.num,.string (ba v.bytes),.slice o n j] 133)) B sv acc):=J.o.alloc _;have M:Hi (Fr (bk B) w (w.alloc (.cells #[.pointer (some ⟨q,0,none⟩),.int .i64 v.num,.string (ba v.bytes),.slice o n j] 133))):=Fr.alloc _ _ _;go_enter Tryz.func101,Tryz.ntmps101;go_wp2_with fail;refine(im _ B sv acc v.num Q R a.o.o a.o.le a.o.pow a.o.gb (by have:=l.o;omega)).mono ?_;rintro e W ⟨ao,D,rfl,i⟩;have m:=ab (M.o.trans ao);have p:=ab i;clear ao i;go_wp2_with fail;go_ret;rw[L.o];exact⟨m,D,rfl,p⟩
theorem Gh(w:World)(B:Nat)(sv:Value)(acc:Bs)(c:VC)(v:PV)(h:jX w B sv acc)(hV:VR w (bk B) c v)(_hW:c8 (k+1) t)(bN:Valid (k+1) t v)(hk:t.kind=4)(hl:acc.length+(aw (k+1) v).length+1000<=140737488355328)(hc:∃ o n j,c.sv=.slice o n j):
  Calls Tryz.prog 101 #[c.val,sv] w fun e w'=>dN w B (acc++aw (k+1) v) e w':=by
 have J:=ab h;obtain⟨U,V,W,Q⟩:=c;obtain⟨o,n,j,hc⟩:=hc;simp only at hc;subst hc;obtain⟨g,K,L,M,F,G,N⟩:=hV.open;simp only at g K L F G;subst K L;obtain⟨r,R,H,rfl,i,s,u,x,y,z,A⟩:=g.open;obtain⟨d,C⟩:=bN;have O:=lt_of_heap i;have T:w.cell? ⟨r,0,none⟩=some (.int .i64 4):=by rw[cell_of_heap i,d,hk];rfl
 simp only[hk] at C;obtain⟨iQ,D,a⟩:=C;rcases a with a|a
 ·have q:Hi (aw (k+1) v=jx):=by
   show _=_;simp only[aw,d,hk,a];rfl
  have P:(v.num==0)=true:=by rw[a];rfl
  have l:=ab hl;clear h hV _hW g i s d hl hk u x y z A F G N iQ D a;simp only[VC.val];have b:Hi (jX (w.alloc (.cells #[.pointer (some ⟨r,0,none⟩),.int .i64 v.num,.string (ba v.bytes),.slice o n j] 133)) B sv acc):=J.o.alloc _;have E:Hi (Fr (bk B) w (w.alloc (.cells #[.pointer (some ⟨r,0,none⟩),.int .i64 v.num,.string (ba v.bytes),.slice o n j] 133))):=Fr.alloc _ _ _;go_enter Tryz.func101,Tryz.ntmps101
  go_wp2_with (at_builtin;refine bx rfl (.tmp 24) _ 9 rfl jx rfl rfl b.o.o (by exact tU _ jx) ?hb1 ?hl1 ?_)
  case hb1=>exact b.o.le
  case hl1=>have:=l.o;rw[q.o] at this;omega
  intro I S ew f _;have m:=ab (E.o.trans f);have p:=ab ew;clear ew f;go_wp2_with fail;go_ret;rw[q.o];exact⟨m,I,rfl,p⟩
 ·have q:Hi (aw (k+1) v=dX):=by
   show _=_;simp only[aw,d,hk,a];rfl
  have P:(v.num==0)=false:=by rw[a];rfl
  have l:=ab hl;clear h hV _hW g i s d hl hk u x y z A F G N iQ D a;simp only[VC.val];have b:Hi (jX (w.alloc (.cells #[.pointer (some ⟨r,0,none⟩),.int .i64 v.num,.string (ba v.bytes),.slice o n j] 133)) B sv acc):=J.o.alloc _;have E:Hi (Fr (bk B) w (w.alloc (.cells #[.pointer (some ⟨r,0,none⟩),.int .i64 v.num,.string (ba v.bytes),.slice o n j] 133))):=Fr.alloc _ _ _;go_enter Tryz.func101,Tryz.ntmps101
  go_wp2_with (at_builtin;refine bx rfl (.tmp 26) _ 9 rfl dX rfl rfl b.o.o (by exact tU _ dX) ?hb1 ?hl1 ?_)
  case hb1=>exact b.o.le
  case hl1=>have:=l.o;rw[q.o] at this;omega
  intro I S ew f _;have m:=ab (E.o.trans f);have p:=ab ew;clear ew f;go_wp2_with fail;go_ret;rw[q.o];exact⟨m,I,rfl,p⟩
theorem Gg(w:World)(B:Nat)(sv:Value)(acc:Bs)(c:VC)(v:PV)(h:jX w B sv acc)(hV:VR w (bk B) c v)(_hW:c8 (k+1) t)(bN:Valid (k+1) t v)(hk:t.kind=5)(hl:acc.length+(aw (k+1) v).length+1000<=140737488355328)(hc:∃ o n j,c.sv=.slice o n j):
  Calls Tryz.prog 101 #[c.val,sv] w fun e w'=>dN w B (acc++aw (k+1) v) e w':=by
 have L:=ab h;obtain⟨T,U,V,P⟩:=c;obtain⟨o,n,j,hc⟩:=hc;simp only at hc;subst hc;obtain⟨a,G,H,I,J,K,Q⟩:=hV.open;simp only at a G H J K;subst G H;obtain⟨q,R,r,rfl,b,s,u,x,y,z,A⟩:=a.open;obtain⟨d,g⟩:=bN;have M:=lt_of_heap b;have S:w.cell? ⟨q,0,none⟩=some (.int .i64 5):=by rw[cell_of_heap b,d,hk];rfl
 simp only[hk] at g;obtain⟨C,D,iQ,E⟩:=g
 have N:Hi (aw (k+1) v=34::(gP v.bytes++[34])):=by
  show _=_;simp only[aw,d,hk];rfl
 have l:=ab hl;clear h hV _hW a b s d hl hk u x y z A J K Q D C E;simp only[VC.val];have f:Hi (jX (w.alloc (.cells #[.pointer (some ⟨q,0,none⟩),.int .i64 v.num,.string (ba v.bytes),.slice o n j] 133)) B sv acc):=L.o.alloc _;have O:Hi (Fr (bk B) w (w.alloc (.cells #[.pointer (some ⟨q,0,none⟩),.int .i64 v.num,.string (ba v.bytes),.slice o n j] 133))):=Fr.alloc _ _ _;go_enter Tryz.func101,Tryz.ntmps101;go_wp2_with fail;refine(oI _ B sv acc v.bytes f.o.o f.o.le (by have:=l.o;omega)).mono ?_;rintro e W ⟨ao,F,rfl,i⟩;have m:=ab (O.o.trans ao);have p:=ab i;clear ao i;go_wp2_with fail;go_ret;rw[N.o];exact⟨m,F,rfl,p⟩
theorem Gf(w:World)(B:Nat)(sv:Value)(acc:Bs)(c:VC)(v:PV)(h:jX w B sv acc)(hV:VR w (bk B) c v)(_hW:c8 (k+1) t)(bN:Valid (k+1) t v)(hk:t.kind=6)(hl:acc.length+(aw (k+1) v).length+1000<=140737488355328)(hc:∃ o n j,c.sv=.slice o n j):
  Calls Tryz.prog 101 #[c.val,sv] w fun e w'=>dN w B (acc++aw (k+1) v) e w':=by
 have K:=ab h;obtain⟨S,T,U,O⟩:=c;obtain⟨o,n,j,hc⟩:=hc;simp only at hc;subst hc;obtain⟨a,F,G,H,I,J,P⟩:=hV.open;simp only at a F G I J;subst F G;obtain⟨q,Q,r,rfl,b,s,u,x,y,z,A⟩:=a.open;obtain⟨d,g⟩:=bN;have L:=lt_of_heap b;have R:w.cell? ⟨q,0,none⟩=some (.int .i64 6):=by rw[cell_of_heap b,d,hk];rfl
 simp only[hk] at g;obtain⟨C,D,iQ⟩:=g
 have M:Hi (aw (k+1) v=120::iN v.bytes):=by
  show _=_;simp only[aw,d,hk];rfl
 have l:=ab hl;clear h hV _hW a b s d hl hk u x y z A I J P D C;simp only[VC.val];have f:Hi (jX (w.alloc (.cells #[.pointer (some ⟨q,0,none⟩),.int .i64 v.num,.string (ba v.bytes),.slice o n j] 133)) B sv acc):=K.o.alloc _;have N:Hi (Fr (bk B) w (w.alloc (.cells #[.pointer (some ⟨q,0,none⟩),.int .i64 v.num,.string (ba v.bytes),.slice o n j] 133))):=Fr.alloc _ _ _;go_enter Tryz.func101,Tryz.ntmps101;go_wp2_with fail;refine(ld _ B sv acc v.bytes f.o.o f.o.le (by have:=l.o;omega)).mono ?_;rintro e V ⟨ao,E,rfl,i⟩;have m:=ab (N.o.trans ao);have p:=ab i;clear ao i;go_wp2_with fail;go_ret;rw[M.o];exact⟨m,E,rfl,p⟩
theorem Ge(hT:tJ k)(w:World)(B:Nat)(sv:Value)(acc:Bs)(c:VC)(v:PV)(h:jX w B sv acc)(hV:VR w (bk B) c v)(hW:c8 (k+1) t)(bN:Valid (k+1) t v)(hk:t.kind=7)(hl:acc.length+(aw (k+1) v).length+1000<=140737488355328)(hc:∃ o n j,c.sv=.slice o n j):
  Calls Tryz.prog 101 #[c.val,sv] w fun e w'=>dN w B (acc++aw (k+1) v) e w':=by
 have P:=ab h;obtain⟨ca,cn,cb,W⟩:=c;obtain⟨o,n,j,hc⟩:=hc;simp only at hc;subst hc;obtain⟨a,M,N,f,z,g,O⟩:=hV.open;simp only at a M N z g;subst M N;obtain⟨A,X,C,rfl,b,D,E,F,G,H,I⟩:=a.open;obtain⟨d,i⟩:=bN;have Q:=lt_of_heap b;have Z:w.cell? ⟨A,0,none⟩=some (.int .i64 7):=by rw[cell_of_heap b,d,hk];rfl
 simp only[hk] at i;have R:=ab hT;clear hT;obtain⟨J,iQ,Y,l⟩:=i;have S:Hi (∀ x∈v.parts,∃ u,c8 k u/\Valid k u x):=fun x g=>⟨_,hW.sub (hW.2.2.2.1 (by omega)),l x g⟩
 have L:Hi (aw (k+1) v=91::(aD (aw k) v.parts++[93])):=by
  show _=_;simp only[aw,d,hk];rfl
 have T:=ab z;have U:=ab g;have p:=ab O;have q:=ab hl;clear h hV hW a b D d hl hk E F G H I z g O J iQ l;simp only[VC.val];have r:Hi (jX (w.alloc (.cells #[.pointer (some ⟨A,0,none⟩),.int .i64 v.num,.string (ba v.bytes),.slice o n j] 133)) B sv acc):=P.o.alloc _;have V:Hi (Fr (bk B) w (w.alloc (.cells #[.pointer (some ⟨A,0,none⟩),.int .i64 v.num,.string (ba v.bytes),.slice o n j] 133))):=Fr.alloc _ _ _;go_enter Tryz.func101,Tryz.ntmps101;go_wp2_with fail;refine(jL R.o _ B sv (.slice o n j) acc 91 93 f v.parts r (by exact T.o.alloc _) U (p.o.ae (Fr.alloc _ _ _)) S (by omega) (by have:=q.o;rw[L.o] at this;simp at this;omega)).mono ?_;rintro e w2 ⟨ao,K,rfl,m⟩;have s:=ab (V.o.trans ao);have y:=ab m;clear ao m;go_wp2_with fail;go_ret;rw[L.o];exact⟨s,K,rfl,y⟩
theorem Gc(hT:tJ k)(w:World)(B:Nat)(sv:Value)(acc:Bs)(c:VC)(v:PV)(h:jX w B sv acc)(hV:VR w (bk B) c v)(hW:c8 (k+1) t)(bN:Valid (k+1) t v)(hk:t.kind=9)(hl:acc.length+(aw (k+1) v).length+1000<=140737488355328)(hc:∃ o n j,c.sv=.slice o n j):
  Calls Tryz.prog 101 #[c.val,sv] w fun e w'=>dN w B (acc++aw (k+1) v) e w':=by
 have T:=ab h;obtain⟨ca,cn,cb,aa⟩:=c;obtain⟨o,n,j,hc⟩:=hc;simp only at hc;subst hc;obtain⟨a,P,Q,g,D,l,R⟩:=hV.open;simp only at a P Q D l;subst P Q;obtain⟨E,ac,F,rfl,b,G,H,I,J,K,L⟩:=a.open;obtain⟨d,m⟩:=bN;have U:=lt_of_heap b;have k0:w.cell? ⟨E,0,none⟩=some (.int .i64 9):=by rw[cell_of_heap b,d,hk];rfl
 simp only[hk] at m;have V:=ab hT;clear hT;obtain⟨M,iQ,f,p⟩:=m
 have W:Hi (∀ x∈v.parts,∃ u,c8 k u/\Valid k u x):=fun x l=>by
  obtain⟨i,S⟩:=List.getElem?_of_mem l;exact⟨_,hW.sub (by rw[<-f];exact(List.getElem?_eq_some_iff.1 S).1),p i x S⟩
 have r:=hW.2.2.2.2.2.1.1;have X:v.parts.length<=300:=by rw[f];omega
 have O:Hi (aw (k+1) v=123::(aD (aw k) v.parts++[125])):=by
  show _=_;simp only[aw,d,hk];rfl
 have Y:=ab D;have Z:=ab l;have s:=ab R;have y:=ab hl;clear h hV hW a b G d hl hk H I J K L D l R M iQ p f r;simp only[VC.val];have z:Hi (jX (w.alloc (.cells #[.pointer (some ⟨E,0,none⟩),.int .i64 v.num,.string (ba v.bytes),.slice o n j] 133)) B sv acc):=T.o.alloc _;have HA:Hi (Fr (bk B) w (w.alloc (.cells #[.pointer (some ⟨E,0,none⟩),.int .i64 v.num,.string (ba v.bytes),.slice o n j] 133))):=Fr.alloc _ _ _;go_enter Tryz.func101,Tryz.ntmps101;go_wp2_with fail;refine(jL V.o _ B sv (.slice o n j) acc 123 125 g v.parts z (by exact Y.o.alloc _) Z (s.o.ae (Fr.alloc _ _ _)) W (by omega) (by have:=y.o;rw[O.o] at this;simp at this;omega)).mono ?_;rintro e w2 ⟨ao,N,rfl,q⟩;have A:=ab (HA.o.trans ao);have C:=ab q;clear ao q;go_wp2_with fail;go_ret;rw[O.o];exact⟨A,N,rfl,C⟩
theorem sB{oU:Array Oper}{o:Oper}{a:Act}{K:Act->World->Prop}{Q:Exit->Act->World->Prop}{E:Prop}
  (hg:o.guard=none) (f:FuncId) (args:Array Operand) (ats:Array TypeId) (hop:o.op=Op.call { callee:=Callee.value (Operand.func f),args:=args,argTypes:=ats })
  (hen:∀(vs:Array Value) (w:World),(callFunc f vs).run Tryz.prog w=.ok (.enter f vs) w) (vals:Array Value) (hv:args.map a.eval=vals) {R:Ending->World->Prop} (hc:Calls Tryz.prog f vals w R) (hR:∀ e w',R e w'->∃ v,e=.returned v)
  (hK:∀ v w',R (.returned v) w'->K (a.put o.dst v) w') :
  if Region.wanted o (yielded oU a.tmps)=true then Oper.wp Tryz.prog o a w K Q else E:=by
 have c:Region.wanted o (yielded oU a.tmps)=true:=by simp[Region.wanted,hg]
 rw[if_pos c];unfold Oper.wp
 have b:(execOp a.eval o).run Tryz.prog w=.ok (.enter f vals) w:=by
  simp[execOp,hop,resolve,invoke,Deferred.ofValue,hv,hen,Act.eval]
 rw[b];refine hc.mono ?_;intro e w' h;obtain⟨v,rfl⟩:=hR e w' h;exact hK v w' h
theorem BO.I4(h:BO w B sv acc){n:Nat}{cs:Array Value}{t:TypeId}{f:Nat×Nat}(hb:w.heap[n]?=some (.cells cs t f))(ht:t≠5):¬iL sv n:=by
 intro e;unfold iL at e;rcases h.own.2 with⟨rfl,_⟩|⟨g,au,b,rfl,_,a,_⟩
 ·simp[Value.ownBlock] at e
 ·simp[Value.ownBlock] at e;subst e;rw[hb] at a;simp at a;exact ht a.2.1
theorem Gd(hT:tJ k)(w:World)(B:Nat)(sv:Value)(acc:Bs)(c:VC)(v:PV)(h:jX w B sv acc)(hV:VR w (bk B) c v)(hW:c8 (k+1) t)(bN:Valid (k+1) t v)(hk:t.kind=8)(hl:acc.length+(aw (k+1) v).length+1000<=140737488355328)(hc:∃ o n j,c.sv=.slice o n j):
  Calls Tryz.prog 101 #[c.val,sv] w fun e w'=>dN w B (acc++aw (k+1) v) e w':=by
 have bZ:=h.le;have X:=ab h;obtain⟨Z,cn,cb,aq⟩:=c;obtain⟨o,n,j,hc⟩:=hc;simp only at hc;subst hc;obtain⟨r,hn,hb,d,y,hx,hL⟩:=hV.open;simp only at r hn hb y hx;subst hn hb;obtain⟨C,az,ar,rfl,s,I,J,K,L,M,N⟩:=r.open;obtain⟨l,O⟩:=bN;have ax:=lt_of_heap s;have k0:w.cell? ⟨C,0,none⟩=some (.int .i64 8):=by rw[cell_of_heap s,l,hk];rfl
 simp only[hk] at O;have HT:=ab hT;clear hT;obtain⟨P,iQ,m,z⟩:=O;obtain⟨ea,av,Q⟩:=dF y;simp only[Value.slice.injEq] at Q;obtain⟨rfl,rfl,rfl⟩:=Q;have dK:=hL.1;rcases hpp:v.parts with _|⟨x,ps⟩
 ·have A:Hi (aw (k+1) v=[45]):=by
   show _=_;simp only[aw,l,hk,hpp];rfl
  have E:d.length=0:=by rw[dK,hpp];rfl
  have aa:((d.length:Int)==0)=true:=by rw[E];rfl
  have p:=ab hl;clear h hV hW r s I l hl hk J K L M N y hx hL P iQ m z hpp dK E;simp only[VC.val];have i:Hi (jX (w.alloc (.cells #[.pointer (some ⟨C,0,none⟩),.int .i64 v.num,.string (ba v.bytes),.slice o d.length j] 133)) B sv acc):=X.o.alloc _;have HA:Hi (Fr (bk B) w (w.alloc (.cells #[.pointer (some ⟨C,0,none⟩),.int .i64 v.num,.string (ba v.bytes),.slice o d.length j] 133))):=Fr.alloc _ _ _;go_enter Tryz.func101,Tryz.ntmps101
  go_wp2_with (at_builtin;refine bx rfl (.tmp 52) (.tmp 53) 118 rfl [45] rfl rfl (i.o.o.alloc _) (by exact kA (b:=45) (t:=5) (af (by simp) _)) ?hb1 ?hl1 ?_)
  case hb1=>have:=i.o.le;simp at this ⊢;omega
  case hl1=>have:=p.o;rw[A.o] at this;simp at this ⊢;omega
  intro v1 w1 ew R _;have ac:=ab ((HA.o.trans (Fr.alloc _ _ _)).trans R);have ad:=ab ew;clear ew R;go_wp2_with fail;go_ret;rw[A.o];exact⟨ac,v1,rfl,ad⟩
 ·have ag:ps=[]:=by
   rw[hpp] at m;simp at m;exact m
  subst ag
  have A:Hi (aw (k+1) v=43::aw k x):=by
   show _=_;simp only[aw,l,hk,hpp];rfl
  have F:d.length=1:=by rw[dK,hpp];rfl
  obtain⟨⟨Z,cn,cb,aq⟩,qU⟩:∃ c,d[0]?=some c:=⟨d[0]'(by omega),by simp⟩;have u:=hL.2 0 _ x qU (by rw[hpp];rfl);obtain⟨o2,n2,j2,E1⟩:=u.sliced;simp only at E1;subst E1;have ah:=ab u;have ai:Hi (c8 k (t.sub 0)):=hW.sub (hW.2.2.2.1 (by omega));have aj:Hi (Valid k (t.sub 0) x):=z x (by rw[hpp];simp);obtain⟨g,au,hv⟩:=dz y (by omega);simp at hv;obtain⟨rfl,rfl⟩:=hv;have q:g<w.heap.size:=(y.lt g rfl).2;have G:¬bk B g:=hx g rfl;obtain⟨c0,c1,c2,c3⟩:=vB y rfl qU;simp only[Nat.zero_mul,Nat.zero_add] at c0 c1 c2 c3;have aa:((d.length:Int)==0)=false:=by rw[F];rfl
  have ay:0<d.length:=by omega
  have Y:=ab G;have p:=ab hl;clear h hV hW r s I l hl hk J K L M N y hx hL P iQ m z hpp dK F u G qU;simp only[VC.val];have i:Hi (jX (w.alloc (.cells #[.pointer (some ⟨C,0,none⟩),.int .i64 v.num,.string (ba v.bytes),.slice (some ⟨g,0,none⟩) d.length j] 133)) B sv acc):=X.o.alloc _;have HA:Hi (Fr (bk B) w (w.alloc (.cells #[.pointer (some ⟨C,0,none⟩),.int .i64 v.num,.string (ba v.bytes),.slice (some ⟨g,0,none⟩) d.length j] 133))):=Fr.alloc _ _ _;go_enter Tryz.func101,Tryz.ntmps101;have m1:Hi (B<=((w.alloc (.cells #[.pointer (some ⟨C,0,none⟩),.int .i64 v.num,.string (ba v.bytes),.slice (some ⟨g,0,none⟩) d.length j] 133)).drew.alloc (.cells #[.int .u8 43] 5)).heap.size):=by have:=i.o.le;show _<=_;simp at this ⊢;omega
  have m2:Hi (acc.length+[43].length<=140737488355328):=by have:=p.o;rw[A.o] at this;show _<=_;simp at this ⊢;omega
  have m3:Hi ((acc++[43]).length+(aw k x).length+1000<=140737488355328):=by have:=p.o;rw[A.o] at this;show _<=_;simp at this ⊢;omega
  have H:¬iL sv w.heap.size:=fun e=>by have:=(X.o.o.own.lt _ e).2;omega
  have ak:=ab H;clear H;go_wp2_with fail
  go_region_law (first
   |(refine ni (sv:=sv) (xv:=.slice (some ⟨w.heap.size+1,0,none⟩) 1 1) rfl (.tmp 59) (.tmp 60) 118 rfl [43] (by simp[Act.eval,Act.put]) (by simp[Act.eval,Act.put]) (by exact i.o.drew.o.alloc _) (by exact kA (b:=43) (t:=5) (af (by simp) _)) m1.o m2.o ?_
     intro v2 D S ao T;have f:=ab (((HA.o.trans (Fr.dr (bk B) _)).trans (Fr.alloc _ _ _)).trans ao);have al:=ab (X.o.next f.o S);have e3:D.cell? ⟨w.heap.size,3,none⟩=some (.slice (some ⟨g,0,none⟩) d.length j):=by rw[T.cell (a:=⟨w.heap.size,3,none⟩) (by simp;omega) ak.o];simp
     have f0:D.cell? ⟨g,0,none⟩=some (.pointer (some Z)):=(f.o.cell (a:=⟨g,0,none⟩) q Y.o).trans c0;have f1:D.cell? ⟨g,1,none⟩=some (.int .i64 cn):=(f.o.cell (a:=⟨g,1,none⟩) q Y.o).trans c1;have f2:D.cell? ⟨g,2,none⟩=some (.string (ba cb)):=(f.o.cell (a:=⟨g,2,none⟩) q Y.o).trans c2;have f3:D.cell? ⟨g,3,none⟩=some (.slice o2 n2 j2):=(f.o.cell (a:=⟨g,3,none⟩) q Y.o).trans c3
     clear S ao T)
   |(refine sB rfl 101 _ _ rfl (enters_of Tryz.func101 (by kernel_rfl) rfl) #[VC.val ⟨Z,cn,cb,.slice o2 n2 j2⟩,v2] (by simp[Act.eval,VC.val]) (HT.o D B v2 (acc++[43]) ⟨Z,cn,cb,.slice o2 n2 j2⟩ x (t.sub 0) al (ah.o.ae f) ai aj m3 ⟨_,_,_,rfl⟩) (fun e w' h=>⟨_,h.2.choose_spec.1⟩) ?_
     rintro v3 w3 ⟨U,aA,V,W⟩;have am:=ab (f.o.trans U);have an:=ab W;have ap:=ab V
     clear U W V))
  all_goals
   go_wp2_with fail;go_ret;rw[A.o];obtain rfl:=(Ending.returned.inj ap.o);exact⟨am,v3,rfl,by simpa using an.o⟩
theorem EC(hT:tJ k)(w:World)(B:Nat)(sv:Value)(acc:Bs)(c:VC)(v:PV)(h:jX w B sv acc)(hV:VR w (bk B) c v)(hW:c8 (k+1) t)(bN:Valid (k+1) t v)(hk:t.kind=10)(hl:acc.length+(aw (k+1) v).length+1000<=140737488355328)(hc:∃ o n j,c.sv=.slice o n j):
  Calls Tryz.prog 101 #[c.val,sv] w fun e w'=>dN w B (acc++aw (k+1) v) e w':=by
 have HI:=ab h;obtain⟨T,U,V,aB⟩:=c;obtain⟨o,n,j,hc⟩:=hc;simp only at hc;subst hc;obtain⟨J,hn,hb,d,K,hx,hL⟩:=hV.open;simp only at J hn hb K hx;subst hn hb;obtain⟨W,aL,f,rfl,A,aC,C,aD,X,Y,aE⟩:=J.open;obtain⟨y,Z⟩:=bN;have aI:=lt_of_heap A;have k0:w.cell? ⟨W,0,none⟩=some (.int .i64 10):=by rw[cell_of_heap A,y,hk];rfl
 simp only[hk] at Z;have HT:=ab hT;clear hT;obtain⟨iQ,i,x,z,hi,D,aa⟩:=Z;have dK:=hL.1;have an:d.length=1:=by rw[dK,D];rfl
 obtain⟨ea,aH,ac⟩:=dF K;simp only[Value.slice.injEq] at ac;obtain⟨rfl,rfl,rfl⟩:=ac;obtain⟨⟨T,U,V,aB⟩,qU⟩:∃ c,d[0]?=some c:=⟨d[0]'(by omega),by simp⟩;have H:=hL.2 0 _ x qU (by rw[D];rfl);obtain⟨o2,n2,j2,E1⟩:=H.sliced;simp only at E1;subst E1;have ap:=ab H;have aq:Hi (c8 k (t.sub i)):=hW.sub hi;have ar:=ab aa;obtain⟨g,au,hv⟩:=dz K (by omega);simp at hv;obtain⟨rfl,rfl⟩:=hv;have m:g<w.heap.size:=(K.lt g rfl).2;have M:¬bk B g:=hx g rfl;obtain⟨c0,c1,c2,c3⟩:=vB K rfl qU;simp only[Nat.zero_mul,Nat.zero_add] at c0 c1 c2 c3;have aJ:0<d.length:=by omega
 have aK:i<f.length:=by rw[Y,y];exact hi
 obtain⟨p,hp⟩:∃ p,f[i]?=some p:=⟨f[i],by simp⟩;obtain⟨pg,ad,ag⟩:=dz C (by omega);subst ag;have jq:pg<w.heap.size:=(C.lt pg rfl).2;obtain⟨s,il⟩:∃ s,s=p.1.data.toList:=⟨_,rfl⟩;have N:p.1=ba s:=by rw[il,eC]
 have n0:w.cell? ⟨pg,i*2,none⟩=some (.string (ba s)):=by rw[C.cellAt (i*2) (by omega),(a8 f i p hp).1,N]
 have t1:w.cell? ⟨W,1,none⟩=some (.slice (some ⟨pg,0,none⟩) f.length ad):=by rw[cell_of_heap A];rfl
 have u:t.name i=s:=by
  have h1:=congrArg (fun l=>l[i]?) X;simp only[List.getElem?_map,hp,Option.map_some,y] at h1;unfold PT.name;rw[<-h1,il];rfl
 have HE:Hi (aw (k+1) v=s++58::aw k x):=by
  show _=_;simp only[aw,y,hk,D,z];simp only[Int.toNat_natCast,u];rfl
 have aF:(i:Int)<(f.length:Int):=by omega
 have G:=ab M;have I:=ab hl;clear h hV hW J A aC y hl hk C aD X Y aE K hx hL iQ D aa dK an H M qU hp il N u hi;simp only[VC.val,z];clear z;have O:Hi (jX (w.alloc (.cells #[.pointer (some ⟨W,0,none⟩),.int .i64 (i:Int),.string (ba v.bytes),.slice (some ⟨g,0,none⟩) d.length j] 133)) B sv acc):=HI.o.alloc _;have HA:Hi (Fr (bk B) w (w.alloc (.cells #[.pointer (some ⟨W,0,none⟩),.int .i64 (i:Int),.string (ba v.bytes),.slice (some ⟨g,0,none⟩) d.length j] 133))):=Fr.alloc _ _ _;have m1:Hi (B<=((w.alloc (.cells #[.pointer (some ⟨W,0,none⟩),.int .i64 (i:Int),.string (ba v.bytes),.slice (some ⟨g,0,none⟩) d.length j] 133))).drew.heap.size):=by have:=O.o.le;show _<=_;simp at this ⊢;omega
 have m2:Hi (acc.length+s.length<=140737488355328):=by have:=I.o;rw[HE.o] at this;show _<=_;simp at this ⊢;omega
 have m4:Hi ((acc++s).length+[58].length<=140737488355328):=by have:=I.o;rw[HE.o] at this;show _<=_;simp at this ⊢;omega
 have m3:Hi ((acc++s++[58]).length+(aw k x).length+1000<=140737488355328):=by have:=I.o;rw[HE.o] at this;show _<=_;simp at this ⊢;omega
 have P:¬iL sv w.heap.size:=fun e=>by have:=(HI.o.o.own.lt _ e).2;omega
 have Q:=ab P;clear P;go_enter Tryz.func101,Tryz.ntmps101;go_wp2_with fail
 go_region_law (first
  |(refine ni (sv:=sv) (xv:=.string (ba s)) rfl (.tmp 71) (.tmp 81) 9 rfl s (by simp[Act.eval]) (by simp[Act.eval]) (by exact O.o.drew.o) (by exact tU _ s) m1.o m2.o ?_
    intro v1 E ew ah F;have r:=ab ((HA.o.trans (Fr.dr (bk B) _)).trans ah);have R:=ab (HI.o.next r.o ew);have e3:E.cell? ⟨w.heap.size,3,none⟩=some (.slice (some ⟨g,0,none⟩) d.length j):=by rw[F.cell (a:=⟨w.heap.size,3,none⟩) (by simp) Q.o];simp
    have av:w.heap.size<E.heap.size:=by have:=F.size;simp at this;omega
    have S:Hi (¬iL v1 w.heap.size):=ew.I4 (F.ae (af rfl _) Q.o) (by decide);have d0:E.cell? ⟨g,0,none⟩=some (.pointer (some T)):=(r.o.cell (a:=⟨g,0,none⟩) m G.o).trans c0;have d1:E.cell? ⟨g,1,none⟩=some (.int .i64 U):=(r.o.cell (a:=⟨g,1,none⟩) m G.o).trans c1;have d2:E.cell? ⟨g,2,none⟩=some (.string (ba V)):=(r.o.cell (a:=⟨g,2,none⟩) m G.o).trans c2;have d3:E.cell? ⟨g,3,none⟩=some (.slice o2 n2 j2):=(r.o.cell (a:=⟨g,3,none⟩) m G.o).trans c3
    clear ew ah F))
 all_goals
  have aG:g<E.heap.size:=by omega
  have p1:Hi (B<=(E.drew.alloc (.cells #[.int .u8 58] 5)).heap.size):=by have:=R.o.le;show _<=_;simp at this ⊢;omega
  go_wp2_with fail
  go_region_law (first
   |(refine ni (sv:=v1) (xv:=.slice (some ⟨E.heap.size,0,none⟩) 1 1) rfl (.tmp 87) (.tmp 88) 118 rfl [58] (by simp[Act.eval,Act.put]) (by simp[Act.eval,Act.put]) (by exact R.o.drew.o.alloc _) (by exact kA (b:=58) (t:=5) (af (by simp) _)) p1.o m4.o ?_
     intro v2 L ai ao aj;have q:=ab (((r.o.trans (Fr.dr (bk B) _)).trans (Fr.alloc _ _ _)).trans ao);have ax:=ab (HI.o.next q.o ai);have e4:L.cell? ⟨w.heap.size,3,none⟩=some (.slice (some ⟨g,0,none⟩) d.length j):=by rw[aj.cell (a:=⟨w.heap.size,3,none⟩) (by simp;omega) S.o];simp[World.cell?_alloc_lt,av,e3]
     have f0:L.cell? ⟨g,0,none⟩=some (.pointer (some T)):=(q.o.cell (a:=⟨g,0,none⟩) m G.o).trans c0;have f1:L.cell? ⟨g,1,none⟩=some (.int .i64 U):=(q.o.cell (a:=⟨g,1,none⟩) m G.o).trans c1;have f2:L.cell? ⟨g,2,none⟩=some (.string (ba V)):=(q.o.cell (a:=⟨g,2,none⟩) m G.o).trans c2;have f3:L.cell? ⟨g,3,none⟩=some (.slice o2 n2 j2):=(q.o.cell (a:=⟨g,3,none⟩) m G.o).trans c3
     clear ai ao aj)
   |(refine sB rfl 101 _ _ rfl (enters_of Tryz.func101 (by kernel_rfl) rfl) #[VC.val ⟨T,U,V,.slice o2 n2 j2⟩,v2] (by simp[Act.eval,VC.val]) (HT.o L B v2 (acc++s++[58]) ⟨T,U,V,.slice o2 n2 j2⟩ x (t.sub i) ax (ap.o.ae q) aq ar m3 ⟨_,_,_,rfl⟩) (fun e w' h=>⟨_,h.2.choose_spec.1⟩) ?_
     rintro v3 w3 ⟨ak,aM,al,am⟩;have ay:=ab (q.o.trans ak);have az:=ab am;have aA:=ab al
     clear ak am al))
  all_goals
   go_wp2_with fail;go_ret;rw[HE.o];obtain rfl:=(Ending.returned.inj aA.o);exact⟨ay,v3,rfl,by simpa using az.o⟩
theorem qO:∀ k,tJ k:=by
 intro k
 induction k with
 | zero=>intro w B d a c v t _ _ b;exact b.elim
 | succ k ih =>
  intro w B d a c v t e f b bN g i;have j:=b.1;obtain h|h|h|h|h|h|h|h|h|h|h:t.kind=0\/t.kind=1\/t.kind=2\/t.kind=3\/t.kind=4\/t.kind=5\/t.kind=6\/t.kind=7\/t.kind=8\/t.kind=9\/t.kind=10:=by omega
  ·exact Gl w B d a c v e f b bN h g i
  ·exact Gk w B d a c v e f b bN h g i
  ·exact Gj w B d a c v e f b bN h g i
  ·exact Gi w B d a c v e f b bN h g i
  ·exact Gh w B d a c v e f b bN h g i
  ·exact Gg w B d a c v e f b bN h g i
  ·exact Gf w B d a c v e f b bN h g i
  ·exact Ge ih w B d a c v e f b bN h g i
  ·exact Gd ih w B d a c v e f b bN h g i
  ·exact Gc ih w B d a c v e f b bN h g i
  ·exact EC ih w B d a c v e f b bN h g i
theorem vC(w:World)(c:VC)(v:PV)(hP:ey w)(hV:VR w Zero c v)(hW:c8 k t)(bN:Valid k t v)(hl:(aw k v).length+1000<=140737488355328)(hc:∃ o n j,c.sv=.slice o n j):
  Calls Tryz.prog 73 #[c.val] w fun e w'=>Fr Zero w w'/\e=.returned (.string (ba (aw k v))):=by
 have u:=ab hP;have m:=hP.lt;have x:=ab hV;have y:=ab hW;have a:=ab bN;obtain⟨g,i,l,z⟩:=c;obtain⟨o,n,j,hc⟩:=hc;simp only at hc;subst hc;have d:Hi (([]:Bs).length+(aw k v).length+1000<=140737488355328):=by show _<=_;simp;omega
 clear hP hV hW bN hl;simp only[VC.val]
 have p:Hi (jX (w.alloc (.cells #[.pointer (some g),.int .i64 i,.string (ba l),.slice o n j] 133)) w.heap.size (.slice none 0 0) []) :=
  ⟨BO.nil _ _,by simp,u.o.ae (Fr.alloc Zero _ _) (fun h=>h),m⟩
 have q:Hi (VR (w.alloc (.cells #[.pointer (some g),.int .i64 i,.string (ba l),.slice o n j] 133)) (bk w.heap.size) ⟨g,i,l,.slice o n j⟩ v) :=
  (x.o.aY (fun b hb e=>by unfold bk at e;omega)).ae (Fr.alloc _ _ _)
 go_enter Tryz.func73,Tryz.ntmps73;go_wp2_with fail;refine(qO k _ w.heap.size (.slice none 0 0) [] ⟨g,i,l,.slice o n j⟩ v t p q y a d ⟨_,_,_,rfl⟩).mono ?_;rintro e A ⟨ao,B,rfl,f⟩;have r:Hi (Fr Zero w A):=(Fr.alloc _ _ _).past ao;have s:=f.conv;rw[List.nil_append] at s;clear f ao;go_wp2_with fail;go_ret;exact⟨r,rfl⟩
end Go.Proofs.YtpffifpbpmlhdaaGreatDoor
