import Derived.Test.YtpffifpbpmlhdaaGreatDoorBsPAny
namespace Go.Proofs.YtpffifpbpmlhdaaGreatDoor
variable {t:PT}{l:List Bs}{k i:Nat}{v:PV}{st:Bs}
def NE:Nat->PT->Prop
 | 0,_=>True
 | k+1,t=>(9<=t.kind->∀ n∈t.names,n.data.toList≠[])/\∀ u∈t.subs,NE k u
def qX(t:PT):Prop:=∀ k,NE k t
theorem qX.plain(h1:t.names=[])(h2:t.subs=[]):qX t:=by
 intro k;cases k with
 | zero=>trivial
 | succ k=>exact⟨fun _ n hn=>by rw[h1] at hn;simp at hn,fun u hu=>by rw[h2] at hu;simp at hu⟩
theorem qX.n7(kind:Nat)(l:List (ByteArray×PT))(h1:∀ q∈l,qX q.2)(h2:9<=kind->∀ q∈l,q.1.data.toList≠[]):qX (aP kind l):=by
 intro k;cases k with
 | zero=>trivial
 | succ k =>
  refine⟨fun h9 n hn=>?_,fun u hu=>?_⟩
  ·simp only[aP,List.mem_map] at hn;obtain⟨q,a,rfl⟩:=hn;exact h2 h9 q a
  ·simp only[aP,List.mem_map] at hu;obtain⟨q,a,rfl⟩:=hu;exact h1 q a k
theorem Bz{s:ByteArray}{n:Nat}(h:fF s n≠false):(ax s n).data.toList≠[]:=by
 intro d;have cF:ah s n 6≠n:=fun e=>h (by simp[fF,e])
 have c:(ax s n).size=0:=by
  show(ax s n).data.size=0
  rw[<-Array.length_toList,d];rfl
 have a:n<ah s n 6:=by
  rw[ah] at cF ⊢
  split at cF
  ·rename_i f;rw[if_pos f]
   have b:∀(k m:Nat),m<=ah s m k:=by
    intro k
    induction k with
    | zero=>intro m;exact Nat.le_refl _
    | succ k ih =>
     intro m;rw[ah]
     split
     ·have:=ih (m+1);omega
     ·exact Nat.le_refl _
   have:=b 5 (n+1)
   omega
  ·exact absurd rfl cF
 have g:=my s 6 n n (Nat.le_refl _) a
 have i:n<s.size:=by
  rcases Nat.lt_or_ge n s.size with q|q
  ·exact q
  ·have:aq s n=256:=kP (Nat.not_lt.2 q)
   omega
 unfold ax at c;rw[ByteArray.size_extract] at c;omega
def As(rd:Nat->Option Nat->lN):Prop:=∀ n bad,qX (rd n bad).t
theorem fm:qX PT.dummy:=qX.plain rfl rfl
theorem wD{rd:Nat->Option Nat->lN}(iW:As rd)(s:ByteArray)(br:List ByteArray)(de n:Nat)(bad:Option Nat):qX (aM rd s br de n bad).t:=by
 unfold aM
 split
 ·exact fm
 ·split
  ·exact iW _ _
  ·exact fm
theorem Dv{rd:Nat->Option Nat->lN}{s:ByteArray}{br:List ByteArray}{de n:Nat}{bad:Option Nat}(h:(aM rd s br de n bad).ok=true):(ax s n).data.toList≠[]:=by
 unfold aM at h
 split at h
 ·cases h
 ·rename_i a;exact Bz a
theorem sP{rd:Nat->Option Nat->lN}(iW:As rd)(s:ByteArray)(kind cR close:Nat):∀(k:Nat) (acc:List (ByteArray×PT)) (n:Nat) (bad:Option Nat),(∀ q∈acc,qX q.2)->(∀ q∈acc,q.1.data.toList≠[])->qX (bJ rd s kind cR close k acc n bad).t:=by
 intro k
 induction k with
 | zero=>intro acc n bad _ _;exact fm
 | succ k ih =>
  intro acc n bad d e;simp only[bJ]
  split
  ·exact fm
  ·rename_i dq;have a:(aM rd s (acc.map (·.1)) 58 n bad).ok=true:=by cases h:(aM rd s (acc.map (·.1)) 58 n bad).ok;exact absurd h dq;rfl
   have b:∀ q∈acc++[(ax s n,(aM rd s (acc.map (·.1)) 58 n bad).t)],qX q.2:=fun q hq=>by
    rcases List.mem_append.1 hq with h|h
    ·exact d q h
    ·simp at h;subst h;exact wD iW _ _ _ _ _
   have c:∀ q∈acc++[(ax s n,(aM rd s (acc.map (·.1)) 58 n bad).t)],q.1.data.toList≠[]:=fun q hq=>by
    rcases List.mem_append.1 hq with h|h
    ·exact e q h
    ·simp only[List.mem_singleton] at h;subst h;exact Dv a
   split
   ·exact qX.n7 _ _ b (fun _=>c)
   ·split
    ·exact fm
    ·exact ih _ _ _ b c
theorem Bn(s:ByteArray)(lines:List (ByteArray×PT))(hL:∀ q∈lines,qX q.2):As (cL s lines):=by
 intro n a;unfold cL
 split
 ·exact fm
 ·split
  ·exact qX.plain rfl rfl
  ·split
   ·rename_i t b;obtain⟨q,c,e⟩:=mT b;rw[<-e];exact hL q c
   ·exact fm
theorem FE(s:ByteArray)(lines:List (ByteArray×PT))(hL:∀ q∈lines,qX q.2):∀ f,As (aJ s lines f):=by
 intro f
 induction f with
 | zero=>intro n a;exact fm
 | succ f ih =>
  intro n a
  have b:∀ kind,kind<9->qX (aP kind [(⟨#[]⟩,(aJ s lines f (n+1) a).t)]):=fun kind hk =>
   qX.n7 _ _ (fun q hq=>by simp at hq;subst hq;exact ih _ _) (fun h=>by omega)
  simp only[aJ]
  split
  ·split
   ·exact fm
   ·split
    ·exact b 7 (by omega)
    ·exact fm
  ·split
   ·split
    ·exact fm
    ·exact b 8 (by omega)
   ·split
    ·exact sP ih s _ _ _ _ _ _ _ (by simp) (by simp)
    ·split
     ·exact sP ih s _ _ _ _ _ _ _ (by simp) (by simp)
     ·exact Bn s lines hL n a
theorem Dx(s:ByteArray):∀(k:Nat) (lines:List (ByteArray×PT)) (n:Nat) (bad deep:Option Nat),(∀ q∈lines,qX q.2)->∀ q∈(bO s k lines n bad deep).lines,qX q.2:=by
 intro k
 induction k with
 | zero=>intro lines n bad deep h;exact h
 | succ k ih =>
  intro lines n bad deep h
  have b:∀ q∈lines++[(ax s n,(cd s lines n bad).t)],qX q.2:=fun q hq=>by
   rcases List.mem_append.1 hq with a|a
   ·exact h q a
   ·simp at a;subst a;exact wD (FE s lines h _) _ _ _ _ _
  simp only[bO]
  split
  ·exact h
  ·split
   ·exact b
   ·split
    ·exact h
    ·exact ih _ _ _ _ b
theorem CP(s:ByteArray):qX (iJ s):=by
 unfold iJ;rcases h:(bO s 10 [] 0 none none).lines.getLast? with _|q
 ·exact fm
 ·exact Dx s 10 [] 0 none none (by simp) q (List.mem_of_getLast? h)
def hH:List Bs->Bs
 | []=>[]
 | [x]=>x
 | x::y::l=>x++47::hH (y::l)
theorem jk(x:Bs)(h:l≠[]):hH (x::l)=x++47::hH l:=by
 cases l with
 | nil=>exact absurd rfl h
 | cons y l=>rfl
theorem pO:∀(l:List Bs),l≠[]->(∀ x∈l,(47:UInt8)∉x)->bP (hH l)=l:=by
 intro l
 induction l with
 | nil=>intro h;exact absurd rfl h
 | cons x l ih =>
  intro _ h;cases l with
  | nil=>exact kB x (h x (by simp))
  | cons y l =>
   rw[jk x (by simp),jy _ _ (h x (by simp)),ih (by simp) (fun z hz=>h z (by simp[hz]))]
theorem DZ{a b:List Bs}(ha:a≠[])(hb:b≠[])(Jn:∀ x∈a,(47:UInt8)∉x)(kc:∀ x∈b,(47:UInt8)∉x)(h:hH a=hH b):a=b:=by
 rw[<-pO a ha Jn,<-pO b hb kc,h]
theorem zm(x:Bs):∀(l:List Bs),l≠[]->hH (l++[x])=hH l++47::x:=by
 intro l
 induction l with
 | nil=>intro h;exact absurd rfl h
 | cons y l ih =>
  intro _;cases l with
  | nil=>rfl
  | cons z l =>
   rw[List.cons_append,jk y (by simp),ih (by simp),jk y (by simp)];simp
theorem D1(h:l≠[])(hn:∀ x∈l,x≠[]):hH l≠[]:=by
 cases l with
 | nil=>exact absurd rfl h
 | cons x l =>
  cases l with
  | nil=>exact hn x (by simp)
  | cons y l=>rw[jk x (by simp)];simp
theorem yg(hn:∀ x∈l,x≠[])(st:Bs):under (hH l) st=hH (l++[st]):=by
 unfold under;cases l with
 | nil=>rfl
 | cons x l =>
  rw[if_neg (D1 (by simp) hn),zm _ _ (by simp)]
def gM:Nat->List Bs->PV->List (List Bs×Bs)
 | 0,_,_=>[]
 | k+1,q,v=>(q,aw (k+1) v)::kids (fun i x=>gM k (q++[stepOf v.of v.num i]) x) 0 v.parts
def Step(x:Bs):Prop:=x≠[]/\(47:UInt8)∉x
theorem F7:∀(f n:Nat),0<f->ed f n≠[]/\∀ b∈ed f n,48<=b.toNat:=by
 intro f
 induction f with
 | zero=>intro n h;omega
 | succ f ih =>
  intro n _;refine⟨by simp[ed],fun b hb=>?_⟩;simp only[ed] at hb;rcases List.mem_append.1 hb with h|h
  ·split at h
   ·simp at h
   ·rcases f with _|f
    ·simp[ed] at h
    ·exact(ih _ (by omega)).2 b h
  ·simp only[List.mem_singleton] at h;subst h;rw[toNat_ofNat (by omega)];omega
theorem uK(n:Nat):Step (ed 20 n):=by
 obtain⟨a,b⟩:=F7 20 n (by omega);refine⟨a,fun h=>?_⟩
 have:=b _ h
 simp at this
theorem Ep{a b:Nat}(ha:a<=1000)(hb:b<=1000)(h:ed 20 a=ed 20 b):a=b:=by
 have d:=pZ (most:=1000) (r:=[]) (by omega) (by decide) ha (by simp[Ap]);have c:=pZ (most:=1000) (r:=[]) (by omega) (by decide) hb (by simp[Ap]);rw[h] at d;rw[d] at c;simp at c;exact c
theorem z7(hW:c8 (k+1) t)(hN:NE (k+1) t)(h9:9<=t.kind)(hi:i<t.subs.length):Step (t.name i):=by
 have d:=hW.2.1;have a:i<t.names.length:=by omega
 have c:t.name i=(t.names[i]).data.toList:=by unfold PT.name;rw[List.getElem?_eq_getElem a];rfl
 have b:t.names[i]∈t.names:=List.getElem_mem a;rw[c];refine⟨hN.1 h9 _ b,fun h=>?_⟩
 have:=(hW.2.2.2.2.2.2 h9).2 _ b _ h
 simp at this
theorem Ho{a b:ByteArray}(h:a.data.toList=b.data.toList):a=b:=by
 cases a;cases b
 congr 1
 exact Array.toList_inj.1 h
theorem Dz{α:Type}{l:List α}(h:l.Nodup){j:Nat}(hi:i<l.length)(hj:j<l.length)(e:l[i]=l[j]):i=j:=by
 have a:=List.pairwise_iff_getElem.1 h;rcases Nat.lt_trichotomy i j with q|q|q
 ·exact absurd e (a i j hi hj q)
 ·exact q
 ·exact absurd e.symm (a j i hj hi q)
theorem DH(hW:c8 (k+1) t)(h9:9<=t.kind){j:Nat}(hi:i<t.subs.length)(hj:j<t.subs.length)(h:t.name i=t.name j):i=j:=by
 have c:=hW.2.1;have a:i<t.names.length:=by omega
 have b:j<t.names.length:=by omega
 unfold PT.name at h;rw[List.getElem?_eq_getElem a,List.getElem?_eq_getElem b] at h;exact Dz (hW.2.2.2.2.2.2 h9).1 a b (Ho h)
theorem nj(hW:c8 (k+1) t)(hN:NE (k+1) t)(hV:Valid (k+1) t v):
  (∀ i,i<v.parts.length->Step (stepOf v.of v.num i))/\(∀ i j,i<v.parts.length->j<v.parts.length->stepOf v.of v.num i=stepOf v.of v.num j->i=j)/\∀ u∈v.parts,∃ t',c8 k t'/\NE k t'/\Valid k t' u:=by
 obtain⟨g,h⟩:=hV;have s:=hW.1
 have a:∀ i,i<t.subs.length->NE k (t.sub i):=fun i b=>by
  refine hN.2 _ ?_;unfold PT.sub;rw[List.getElem?_eq_getElem b];exact List.getElem_mem b
 rw[g]
 split at h
 ·rw[h.2.1];simp
 split at h
 ·rw[h.2.1];simp
 split at h
 ·rw[h.2.1];simp
 split at h
 ·rw[h.2.1];simp
 split at h
 ·rw[h.2.1];simp
 split at h
 ·rename_i m;have o:=hW.2.2.2.2.1 (.inl m);unfold stepOf;simp only[m,if_true];exact⟨fun i _=>uK i,fun i j b d e=>Ep (by omega) (by omega) e,fun u hu=>⟨_,hW.sub (by omega),a 0 (by omega),h.2.2.2 u hu⟩⟩
 split at h
 ·rename_i n;have o:=hW.2.2.2.2.1 (.inr n);unfold stepOf;simp only[n,if_true];exact⟨fun i _=>by simp[Step],fun i j b d e=>by omega,fun u hu=>⟨_,hW.sub (by omega),a 0 (by omega),h.2.2.2 u hu⟩⟩
 split at h
 ·rename_i q;unfold stepOf;simp only[q,if_true];refine⟨fun i b=>?_,fun i j b d e=>?_,fun u hu=>?_⟩
  ·simpa using z7 hW hN (by omega) (i:=i) (by omega)
  ·exact DH hW (by omega) (i:=i) (j:=j) (by omega) (by omega) (by simpa using e)
  ·obtain⟨i,b⟩:=List.mem_iff_getElem?.1 hu;have p:=(List.getElem?_eq_some_iff.1 b).1;exact⟨_,hW.sub (by omega),a i (by omega),h.2.2.2 i u b⟩
 ·obtain⟨_,j,x,d,c,l,r⟩:=h;have f:t.kind=10:=by omega
  unfold stepOf;simp only[f,l,d];refine⟨fun i _=>?_,fun i j b d _=>by simp at b d;omega,fun u hu=>?_⟩
  ·simpa using z7 hW hN (by omega) c
  ·simp at hu;subst hu;exact⟨_,hW.sub c,a j c,r⟩
theorem zF{u:PV}:∀(l:List PV) (i:Nat),fg v st i l=some u->∃ j,i<=j/\j<i+l.length/\stepOf v.of v.num j=st:=by
 intro l
 induction l with
 | nil=>intro i h;simp[fg] at h
 | cons x l ih =>
  intro i h;unfold fg at h
  split at h
  ·rename_i e;exact⟨i,Nat.le_refl _,by simp,e⟩
  ·obtain⟨j,b,c,a⟩:=ih _ h;exact⟨j,by omega,by simp;omega,a⟩
theorem nS{u:PV}(hW:c8 (k+1) t)(hN:NE (k+1) t)(hV:Valid (k+1) t v)(h:c7 v []=some u):False:=by
 obtain⟨j,_,a,b⟩:=zF _ _ h;rw[Nat.zero_add] at a;exact((nj hW hN hV).1 j a).1 b
def et{α:Type}[DecidableEq α](l:List (α×Bs))(p:α):Option Bs:=(l.find? fun q=>decide (q.1=p)).map (·.2)
theorem B4{α:Type}[DecidableEq α](p:α):et ([]:List (α×Bs)) p=none:=rfl
theorem gK{α:Type}[DecidableEq α](q:α×Bs)(l:List (α×Bs))(p:α):et (q::l) p=if q.1=p then some q.2 else et l p:=by
 unfold et;rw[List.find?_cons]
 by_cases h:q.1=p<;>simp[h]
theorem B5{α:Type}[DecidableEq α](a b:List (α×Bs))(p:α):et (a++b) p=(et a p).or (et b p):=by
 unfold et;rw[List.find?_append];cases List.find? (fun q=>decide (q.1=p)) a<;>simp
theorem qI{α:Type}[DecidableEq α]{l:List (α×Bs)}{p:α}(h:∀ q∈l,q.1≠p):et l p=none:=by
 unfold et;rw[Option.map_eq_none_iff,List.find?_eq_none];intro q a;simpa using h q a
theorem lC{α:Type}{f:Nat->PV->List α}{a:α}:∀(l:List PV) (i:Nat),a∈kids f i l->∃ j x,i<=j/\j<i+l.length/\l[j-i]?=some x/\a∈f j x:=by
 intro l
 induction l with
 | nil=>intro i h;simp[kids] at h
 | cons y l ih =>
  intro i h;simp only[kids] at h;rcases List.mem_append.1 h with h|h
  ·exact⟨i,y,Nat.le_refl _,by simp,by simp,h⟩
  ·obtain⟨j,x,d,e,b,c⟩:=ih (i+1) h;refine⟨j,x,by omega,by simp;omega,?_,c⟩;rw[show j-i=(j-(i+1))+1 by omega,List.getElem?_cons_succ];exact b
theorem pH:∀(k:Nat) (q:List Bs) (v:PV) (a:List Bs×Bs),a∈gM k q v->q <+: a.1:=by
 intro k
 induction k with
 | zero=>intro q v a h;simp[gM] at h
 | succ k ih =>
  intro q v a h;simp only[gM] at h;rcases List.mem_cons.1 h with rfl|h
  ·exact List.prefix_rfl
  ·obtain⟨j,x,_,_,_,b⟩:=lC _ _ h;exact(List.prefix_append _ _).trans (ih _ _ _ b)
theorem wm{q:List Bs}{x:Bs}(h:q++[x] <+: q++st::l):x=st:=by
 have:=(List.prefix_append_right_inj q).1 h
 obtain⟨m,a⟩:=this;simp at a;exact a.1
theorem B3{q:List Bs}(GB:∀ i j,i<v.parts.length->j<v.parts.length->stepOf v.of v.num i=stepOf v.of v.num j->i=j)
  (ih:∀ u∈v.parts,∀ q',et (gM k q' u) (q'++l)=(eM u l).map (aw (k-l.length))):∀(ps:List PV) (i:Nat),i+ps.length=v.parts.length->(∀ u∈ps,u∈v.parts) ->
  et (kids (fun i x=>gM k (q++[stepOf v.of v.num i]) x) i ps) (q++st::l)=((fg v st i ps).bind fun u=>eM u l).map (aw (k-l.length)):=by
 intro ps
 induction ps with
 | nil=>intro i _ _;rfl
 | cons x ps ih2 =>
  intro i h g;simp only[List.length_cons] at h;simp only[kids];rw[B5]
  by_cases b:stepOf v.of v.num i=st
  ·have d:et (kids (fun i x=>gM k (q++[stepOf v.of v.num i]) x) (i+1) ps) (q++st::l)=none:=by
    refine qI (fun a ha e=>?_);obtain⟨j,y,n,o,_,m⟩:=lC _ _ ha;have c:=pH _ _ _ _ m;rw[e] at c
    have:=GB i j (by omega) (by omega) (b.trans (wm c).symm)
    omega
   have f:=ih x (g x (by simp)) (q++[st]);rw[List.append_assoc,List.singleton_append] at f;rw[d,b,f];unfold fg;rw[if_pos b];simp
  ·have d:et (gM k (q++[stepOf v.of v.num i]) x) (q++st::l)=none:=by
    refine qI (fun a ha e=>?_);have c:=pH _ _ _ _ ha;rw[e] at c;exact b (wm c)
   rw[d,ih2 (i+1) (by omega) (fun u hu=>g u (by simp[hu]))]
   conv=>rhs;unfold fg
   rw[if_neg b];simp
theorem B2:∀(k:Nat) (t:PT) (v:PV) (q l:List Bs),c8 k t->NE k t->Valid k t v->et (gM k q v) (q++l)=(eM v l).map (aw (k-l.length)):=by
 intro k
 induction k with
 | zero=>intro t v q l h;exact h.elim
 | succ k ih =>
  intro t v q l a b c;obtain⟨_,d,e⟩:=nj a b c;simp only[gM];rw[gK];cases l with
  | nil=>simp[eM]
  | cons st l =>
   rw[if_neg (by simp)];rw[B3 d (fun u hu q'=>by obtain⟨f,g,i,j⟩:=e u hu;exact ih f u q' l g i j) v.parts 0 (by simp) (fun u hu=>hu)];simp only[eM,c7,List.length_cons];rw[show k+1-(l.length+1)=k-l.length by omega]
theorem DW{α β:Type}(g:α->β)(f:Nat->PV->List α)(f':Nat->PV->List β):∀(l:List PV) (i:Nat),(∀ j x,i<=j->j<i+l.length->x∈l->f' j x=(f j x).map g)->kids f' i l=(kids f i l).map g:=by
 intro l
 induction l with
 | nil=>intro i _;rfl
 | cons y l ih =>
  intro i h;simp only[kids,List.map_append];rw[h i y (Nat.le_refl _) (by simp) (by simp),ih (i+1) (fun j x h1 h2 h3=>h j x (by omega) (by simp;omega) (by simp[h3]))]
theorem AF:∀(k:Nat) (t:PT) (v:PV) (q:List Bs),c8 k t->NE k t->Valid k t v->(∀ x∈q,Step x)->cy k (hH q) v=(gM k q v).map (fun a=>(hH a.1,a.2))/\∀ a∈gM k q v,∀ x∈a.1,Step x:=by
 intro k
 induction k with
 | zero=>intro t v q h;exact h.elim
 | succ k ih =>
  intro t v q p r s e;obtain⟨u,_,o⟩:=nj p r s
  have b:∀ i,i<v.parts.length->∀ x∈q++[stepOf v.of v.num i],Step x:=fun i hi x hx=>by
   rcases List.mem_append.1 hx with h|h
   ·exact e x h
   ·simp at h;subst h;exact u i hi
  refine⟨?_,?_⟩
  ·simp only[cy,gM,List.map_cons]
   congr 1
   refine DW _ _ _ _ _ (fun j x _ c n=>?_);rw[Nat.zero_add] at c;obtain⟨f,g,l,m⟩:=o x n;rw[yg (fun y hy=>(e y hy).1)];exact(ih f x _ g l m (b j c)).1
  ·intro a d;simp only[gM] at d;rcases List.mem_cons.1 d with rfl|d
   ·exact e
   ·obtain⟨j,x,_,c,n,w⟩:=lC _ _ d;rw[Nat.zero_add] at c;obtain⟨f,g,l,m⟩:=o x (List.mem_iff_getElem?.2 ⟨_,n⟩);exact(ih f x _ g l m (b j c)).2 a w
theorem tm(hW:c8 (k+1) t)(hN:NE (k+1) t)(hV:Valid (k+1) t v)(hl:l≠[])(hs:∀ x∈l,(47:UInt8)∉x):
  et ((cy (k+1) [] v).drop 1) (hH l)=(eM v l).map (aw (k+1-l.length)):=by
 obtain⟨g,m⟩:=AF (k+1) t v [] hW hN hV (by simp);have f:=B2 (k+1) t v [] l hW hN hV;have d:cy (k+1) [] v=(gM (k+1) [] v).map (fun a=>(hH a.1,a.2)):=g;rw[List.nil_append] at f;rw[<-f,d];simp only[gM,List.map_cons,List.drop_succ_cons,List.drop_zero];rw[gK,if_neg (fun e=>hl e.symm)]
 have c:∀ a∈kids (fun i x=>gM k ([]++[stepOf v.of v.num i]) x) 0 v.parts,a.1≠[]:=fun a ha=>by
  obtain⟨j,x,_,_,_,n⟩:=lC _ _ ha;intro e
  have:=pH _ _ _ _ n
  rw[e] at this;simp at this
 have gg:∀ a∈kids (fun i x=>gM k ([]++[stepOf v.of v.num i]) x) 0 v.parts,∀ x∈a.1,Step x:=fun a ha=>m a (by simp only[gM];exact List.mem_cons_of_mem _ ha)
 revert c gg
 generalize kids (fun i x=>gM k ([]++[stepOf v.of v.num i]) x) 0 v.parts=L;intro c gg
 induction L with
 | nil=>rfl
 | cons a L ih =>
  rw[List.map_cons,gK,gK]
  by_cases h:a.1=l
  ·rw[if_pos h,if_pos (by rw[h])]
  ·rw[if_neg h,if_neg (fun e=>h (DZ (c a (by simp)) hl (fun x hx=>(gg a (by simp) x hx).2) hs e)),ih (fun b hb=>c b (by simp[hb])) (fun b hb=>gg b (by simp[hb]))]
def kF(W:List (Bs×Bs))(p:Bs):Nat->Nat->Nat->Bs->ByteArray×Nat×Nat
 | 0,_,_,text=>(ba text,0,0)
 | f+1,i,step,text =>
  if i<p.length/\p[i]?≠some 47 then kF W p f (i+1) step text
  else match et W (p.take i) with
   | none=>(⟨#[]⟩,7,step)
   | some s=>if i=0 then(⟨#[]⟩,7,step) else kF W p f (i+1) (step+1) s
def fk:List Bs->Bs
 | []=>[]
 | x::l=>x++47::fk l
theorem qe(x:Bs):∀(l:List Bs),fk (l++[x])=fk l++(x++[47]):=by
 intro l
 induction l with
 | nil=>simp[fk]
 | cons y l ih=>simp[fk,ih]
theorem te(x:Bs):∀(l:List Bs),hH (l++[x])=fk l++x:=by
 intro l
 induction l with
 | nil=>rfl
 | cons y l ih=>rw[List.cons_append,jk y (by simp),ih];simp[fk]
theorem yk(b:Bs):∀(l:List Bs),(∀ x∈l,(47:UInt8)∉x)->bP (fk l++b)=l++bP b:=by
 intro l
 induction l with
 | nil=>intro _;rfl
 | cons x l ih =>
  intro h
  have:fk (x::l)++b=x++47::(fk l++b):=by simp[fk]
  rw[this,jy _ _ (h x (by simp)),ih (fun y hy=>h y (by simp[hy])),List.cons_append]
def CS(K:Nat)(r:Option PV×Nat):ByteArray×Nat×Nat :=
 match r with
 |(some u,_)=>(ba (aw K u),0,0)
 |(none,n)=>(⟨#[]⟩,7,n)
theorem Df(hW:c8 (k+1) t)(hN:NE (k+1) t)(hV:Valid (k+1) t v)(p:Bs):∀(b:Bs) (dm:List Bs) (cur:Bs) (u:PV) (text:Bs),p=fk dm++(cur++b)->(47:UInt8)∉cur->(∀ x∈dm,(47:UInt8)∉x)->eM v dm=some u ->
  kF ((cy (k+1) [] v).drop 1) p (b.length+1) (fk dm++cur).length dm.length text=CS (k+1-(bP p).length) (g9 u (bP (cur++b)) dm.length):=by
 intro b
 induction b with
 | nil =>
  intro dm cur u text d g a f;have m:p.take (fk dm++cur).length=hH (dm++[cur]):=by rw[te,d,List.append_nil,List.take_length]
  have n:=tm hW hN hV (l:=dm++[cur]) (by simp) (fun x hx=>by rcases List.mem_append.1 hx with h|h;exact a x h;simp at h;subst h;exact g);have o:bP p=dm++[cur]:=by rw[d,yk _ _ a,List.append_nil,kB _ g]
  rw[List.append_nil,kB _ g];simp only[List.length_nil,kF];rw[if_neg (by rw[d];simp),m,n,kM,f,o];simp only[Option.bind_some,g9];rcases hb:c7 u cur with _|u2
  ·rfl
  ·simp only[Option.map_some];rw[if_neg]
   ·rfl
   ·intro e
    have q:dm=[]/\cur=[]:=by
     rcases dm with _|⟨x,dm⟩
     ·simp[fk] at e;exact⟨rfl,e⟩
     ·simp[fk] at e
    obtain⟨rfl,rfl⟩:=q;simp[eM] at f;subst f;exact(nS hW hN hV hb).elim
 | cons c b ih =>
  intro dm cur u text d g a f;have aX:(fk dm++cur).length<p.length:=by rw[d];simp
  have iX:p[(fk dm++cur).length]?=some c:=by
   rw[d,<-List.append_assoc,List.getElem?_append_right (Nat.le_refl _)];simp
  rw[List.length_cons,kF]
  by_cases i:c=47
  ·subst i;have m:p.take (fk dm++cur).length=hH (dm++[cur]):=by rw[te,d,<-List.append_assoc,List.take_left]
   have n:=tm hW hN hV (l:=dm++[cur]) (by simp) (fun x hx=>by rcases List.mem_append.1 hx with h|h;exact a x h;simp at h;subst h;exact g);rw[if_neg (by rw[iX];simp),m,n,kM,f,jy _ _ g];simp only[Option.bind_some,g9];rcases hb:c7 u cur with _|u2
   ·rfl
   ·simp only[Option.map_some];rw[if_neg]
    ·have j:=ih (dm++[cur]) [] u2 (aw (k+1-(dm++[cur]).length) u2) (by rw[qe,d];simp) (by simp) (fun x hx=>by rcases List.mem_append.1 hx with h|h;exact a x h;simp at h;subst h;exact g) (by rw[kM,f];exact hb);rw[qe] at j;simp only[List.append_nil,List.length_append,List.length_cons,List.length_nil,List.nil_append] at j ⊢;rw[show(fk dm).length+cur.length+1=(fk dm).length+(cur.length+(0+1)) by omega];exact j
    ·intro e
     have q:dm=[]/\cur=[]:=by
      rcases dm with _|⟨x,dm⟩
      ·simp[fk] at e;exact⟨rfl,e⟩
      ·simp[fk] at e
     obtain⟨rfl,rfl⟩:=q;simp[eM] at f;subst f;exact(nS hW hN hV hb).elim
  ·rw[if_pos ⟨aX,by rw[iX];simpa using i⟩];have j:=ih dm (cur++[c]) u text (by rw[d];simp) (by simp[g];exact fun e=>i e.symm) a f;simp only[List.append_assoc,List.length_append,List.length_cons,List.length_nil,List.cons_append,List.nil_append] at j ⊢;rw[show(fk dm).length+cur.length+1=(fk dm).length+(cur.length+(0+1)) by omega];exact j
theorem Ba(hW:c8 12 t)(hN:NE 12 t)(hV:Valid 12 t v)(path:ByteArray)(cF:path≠⟨#[]⟩):kF ((cy 12 [] v).drop 1) path.data.toList (path.data.toList.length+1) 0 0 []=iR v path:=by
 have h:=Df hW hN hV path.data.toList path.data.toList [] [] v [] rfl (by simp) (by simp) rfl
 have e:iR v path=CS (12-(bP path.data.toList).length) (g9 v (bP path.data.toList) 0):=by
  unfold iR CS;rw[if_neg cF];rcases g9 v (bP path.data.toList) 0 with⟨_|u,n⟩<;>rfl
 rw[e];exact h
end Go.Proofs.YtpffifpbpmlhdaaGreatDoor
