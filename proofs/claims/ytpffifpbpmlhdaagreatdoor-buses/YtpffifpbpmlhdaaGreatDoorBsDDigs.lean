import Derived.Deep.Cut
import Derived.Deep.CutRange
import Derived.Test.YtpffifpbpmlhdaaGreatDoorBsVHex
set_option maxHeartbeats 32000000
set_option maxRecDepth 100000
namespace Go.Proofs.YtpffifpbpmlhdaaGreatDoor
open Go.RowKit
variable {q:Bs->Bool}{k N m:Nat}{w:World}{acc:Bs}
def ib(ws:List Bs):List Value:=ws.map fun x=>.string (ba x)
theorem nB(s p:Bs)(h:p.length<=s.length):decide ((ba s).extract 0 p.length=ba p)=p.isPrefixOf s:=by
 rw[Bool.eq_iff_iff,decide_eq_true_eq,List.isPrefixOf_iff_prefix]
 have e:((ba s).extract 0 p.length).data.toList=s.take p.length:=by
  simp only[ByteArray.data_extract,Array.toList_extract,List.extract_eq_take_drop,ba,List.toList_toArray];simp
 constructor
 ·intro a
  have:=congrArg (fun b=>b.data.toList) a
  simp only[e,dk] at this;exact⟨s.drop p.length,by rw[<-this,List.length_take,Nat.min_eq_left h,List.take_append_drop]⟩
 ·rintro⟨t,rfl⟩
  apply ef;rw[e,dk];simp
theorem zp(s p:Bs)(_hs:s.length<=maxLen)(w:World):
  Calls Tryz.prog 193 #[.string (ba s),.string (ba p)] w fun e w'=>e=.returned (.bool (p.isPrefixOf s))/\Fr Zero w w':=by
 have d:=aI s;have f:=aI p;unfold maxLen at _hs
 by_cases b:p.length<=s.length
 ·have a:=ab (nB s p b);have c:((p.length:Nat):Int)<=((s.length:Nat):Int):=by omega
  go_enter Tryz.func193,Tryz.ntmps193;go_wp2_with fail;go_ret;refine⟨?_,Fr.refl _ _⟩
  have:=a.o
  rw[<-fJ] at this;rw[<-this];rfl
 ·have a:Hi (p.isPrefixOf s=false):=by
   show _=_;rw[Bool.eq_false_iff];intro h;rw[List.isPrefixOf_iff_prefix] at h;exact b h.length_le
  have c:¬((p.length:Nat):Int)<=((s.length:Nat):Int):=by omega
  go_enter Tryz.func193,Tryz.ntmps193;go_wp2_with fail;go_ret;refine⟨?_,Fr.refl _ _⟩;rw[a.o];rfl
def BN(o:Option Nat):Value:=.int .i64 (match o with|some i=>(i:Int)|none=>-1)
theorem jn{ws:List Bs}{p:Bs}(hp:ws[k]?=some p)(hq:q p=true)(hn:∀ j y,j<k->ws[j]?=some y->q y=false):ws.findIdx? q=some k:=by
 obtain⟨a,b⟩:=List.getElem?_eq_some_iff.1 hp;refine List.findIdx?_eq_some_iff_getElem.2 ⟨a,by rw[b];exact hq,fun j hj=>?_⟩;rw[hn j ws[j] hj (by rw[List.getElem?_eq_getElem])];simp
theorem jm{ws:List Bs}(hn:∀ j y,j<ws.length->ws[j]?=some y->q y=false):ws.findIdx? q=none:=by
 rw[List.findIdx?_eq_none_iff];intro x b;obtain⟨j,a,c⟩:=List.getElem_of_mem b;exact hn j x a (by rw[List.getElem?_eq_getElem a,c])
theorem BL(g au:Nat)(ws:List Bs)(x:Bs)(w:World)(hl:ws.length<=1000)(fT:w.ownsRow 0 9 1 (.slice (some ⟨g,0,none⟩) ws.length au) ws.length (ib ws)):
  Calls Tryz.prog 165 #[.slice (some ⟨g,0,none⟩) ws.length au,.string (ba x)] w fun e w'=>e=.returned (BN (ws.findIdx? (fun y=>y==x)))/\Fr Zero w w':=by
 have t:g<w.heap.size:=(fT.lt g rfl).2;have u:=ab fT;clear fT;go_enter Tryz.func165,Tryz.ntmps165;go_wp2_with fail
 go_loopw [8] (fun i wr=>∃ k:Nat,k<=ws.length/\i=.int .i64 k/\Hi (∀ j y,j<k->ws[j]?=some y->(y==x)=false)/\Hi (Fr Zero w wr)) (fun i _=>ws.length-(intOf i).toNat)
 case atStart=>exact⟨0,by omega,rfl,fun j q hj=>by omega,Fr.refl _ _⟩
 case round =>
  obtain⟨k,z,rfl,r,f⟩:=hrel
  by_cases l:k<ws.length
  ·obtain⟨p,s⟩:∃ p,ws[k]?=some p:=⟨ws[k],by simp[l]⟩
   have qU:wr.cell? ⟨g,k,none⟩=some (.string (ba p)):=by
    rw[f.o.cell (a:=⟨g,k,none⟩) t (by intro h;exact h),u.o.cellAt k (by omega)];simp[ib,s]
   have d:=ab s;clear s
   by_cases c:p=x
   ·have v:((ba x).toList==(ba p).toList)=true:=by rw[fJ];simp[c]
    have m:=ab c;clear c;go_wp2_with fail;go_ret;refine⟨?_,f⟩;rw[jn d.o (by simpa using m.o) r];rfl
   ·have v:((ba x).toList==(ba p).toList)=false:=by
     rw[fJ];refine decide_eq_false (fun e=>c ?_)
     have:=congrArg (fun b=>b.data.toList) e
     simpa[ba] using this.symm
    have m:=ab c;clear c;go_wp2_with fail;refine⟨⟨k+1,by omega,by go_num,fun j y hj hy=>?_,f⟩,by simp[intOf];omega⟩
    by_cases e:j=k
    ·subst e;rw[d.o] at hy;cases hy;simpa using m.o
    ·exact r j y (by omega) hy
  ·have n:k=ws.length:=by omega
   subst n;go_wp2_with fail;go_ret;refine⟨?_,f⟩;rw[jm r];rfl
theorem zG(b:Nat)(x p:Bs)(w:World)(hx:x.length<=maxLen)(hb:w.cell? ⟨b,0,none⟩=some (.string (ba p))):
  Calls Tryz.prog 184 #[.string (ba x),.pointer (some ⟨b,0,none⟩)] w fun e w'=>e=.returned (.bool (p.isPrefixOf x))/\Fr Zero w w':=by
 go_enter Tryz.func184,Tryz.ntmps184;go_wp2_with fail;refine Calls.mono (R:=fun e w'=>e=.returned (.bool (p.isPrefixOf x))/\Fr Zero w w') ?_ ?_
 ·go_enter Tryz.func185,Tryz.ntmps185;go_wp2_with fail;refine(zp x p hx _).mono ?_;rintro e c ⟨rfl,(a:Hi _)⟩;go_wp2_with fail;go_ret;exact⟨rfl,a⟩
 ·rintro e c ⟨rfl,(a:Hi _)⟩;go_wp2_with fail;go_ret;exact⟨rfl,a⟩
theorem rS(g au b:Nat)(ws:List Bs)(p:Bs)(w:World)(hl:ws.length<=1000)(hx:∀ x∈ws,x.length<=maxLen)(hb:w.cell? ⟨b,0,none⟩=some (.string (ba p)))(kV:b<w.heap.size)(fT:w.ownsRow 0 9 1 (.slice (some ⟨g,0,none⟩) ws.length au) ws.length (ib ws)):
  Calls Tryz.prog 192 #[.slice (some ⟨g,0,none⟩) ws.length au,.func (Fn.func 184) #[] #[.pointer (some ⟨b,0,none⟩)]] w fun e w'=>e=.returned (BN (ws.findIdx? (fun y=>p.isPrefixOf y)))/\Fr Zero w w':=by
 have u:g<w.heap.size:=(fT.lt g rfl).2;have v:=ab fT;have z:=ab hx;have A:=ab hb;clear fT hx hb;go_enter Tryz.func192,Tryz.ntmps192;go_wp2_with fail
 go_loopw [8] (fun i wr=>∃ k:Nat,k<=ws.length/\i=.int .i64 k/\Hi (∀ j y,j<k->ws[j]?=some y->(p.isPrefixOf y)=false)/\Hi (Fr Zero w wr)) (fun i _=>ws.length-(intOf i).toNat)
 case atStart=>exact⟨0,by omega,rfl,fun j q hj=>by omega,Fr.refl _ _⟩
 case round =>
  obtain⟨k,B,rfl,s,l⟩:=hrel
  by_cases m:k<ws.length
  ·obtain⟨x,t⟩:∃ p,ws[k]?=some p:=⟨ws[k],by simp[m]⟩
   have qU:wr.cell? ⟨g,k,none⟩=some (.string (ba x)):=by
    rw[l.o.cell (a:=⟨g,k,none⟩) u (by intro h;exact h),v.o.cellAt k (by omega)];simp[ib,t]
   have c:=ab t;clear t;go_wp2_with fail;refine(zG b x p _ (z x (List.mem_of_getElem? c)) ((l.o.cell (a:=⟨b,0,none⟩) kV (by intro h;exact h)).trans A)).mono ?_;rintro e C ⟨rfl,f⟩;have d:=ab (l.o.trans f);clear f;rcases hq:p.isPrefixOf x with _|_
   ·have n:=ab hq;clear hq;go_wp2_with fail;refine⟨⟨k+1,by omega,by go_num,fun j y hj hy=>?_,d⟩,by simp[intOf];omega⟩
    by_cases e:j=k
    ·subst e;rw[c.o] at hy;cases hy;exact n
    ·exact s j y (by omega) hy
   ·have n:=ab hq;clear hq;go_wp2_with fail;go_ret;refine⟨?_,d⟩;rw[jn (q:=fun y=>p.isPrefixOf y) c.o n s];rfl
  ·have r:k=ws.length:=by omega
   subst r;go_wp2_with fail;go_ret;refine⟨?_,l⟩;rw[jm (q:=fun y=>p.isPrefixOf y) s];rfl
theorem xP(ws:List Bs):(ws.findIdx? q).isSome=ws.any q:=by
 rw[Bool.eq_iff_iff,List.any_eq_true];constructor
 ·intro h;obtain⟨i,a⟩:=Option.isSome_iff_exists.1 h;obtain⟨b,c,_⟩:=List.findIdx?_eq_some_iff_getElem.1 a;exact⟨ws[i],List.getElem_mem _,c⟩
 ·rintro⟨x,d,e⟩
  rcases h:ws.findIdx? q with _|i
  ·rw[List.findIdx?_eq_none_iff] at h
   have:=h x d
   rw[e] at this;cases this
  ·rfl
theorem jW(g au:Nat)(ws:List Bs)(p:Bs)(w:World)(hl:ws.length<=1000)(hx:∀ x∈ws,x.length<=maxLen)(fT:w.ownsRow 0 9 1 (.slice (some ⟨g,0,none⟩) ws.length au) ws.length (ib ws)):
  Calls Tryz.prog 167 #[.slice (some ⟨g,0,none⟩) ws.length au,.string (ba p)] w fun e w'=>e=.returned (.bool (ws.any (fun y=>p.isPrefixOf y)))/\Fr Zero w w':=by
 have c:=ab fT;have d:=ab hx;clear fT hx;go_enter Tryz.func167,Tryz.ntmps167;go_wp2_with fail;refine Calls.mono (R:=fun e w'=>e=.returned (.bool (ws.any (fun y=>p.isPrefixOf y)))/\Fr Zero (w.alloc (.cells #[.string (ba p)] 9)) w') ?_ ?_
 ·go_enter Tryz.func183,Tryz.ntmps183;go_wp2_with fail;refine(rS g au w.heap.size ws p _ hl d (by rw[cell_of_heap (af rfl _)];rfl) (by simp) (c.o.alloc _)).mono ?_;rintro e f ⟨rfl,(b:Hi _)⟩;have a:=ab (xP (q:=fun y=>p.isPrefixOf y) ws);rcases hq:ws.findIdx? (fun y=>p.isPrefixOf y) with _|i
  ·rw[hq] at a;simp only[BN];clear hq;go_wp2_with fail;go_ret;exact⟨by rw[<-a.o];rfl,b⟩
  ·rw[hq] at a;simp only[BN];clear hq;go_wp2_with fail;go_ret;exact⟨by rw[<-a.o];rfl,b⟩
 ·rintro e f ⟨rfl,(b:Hi _)⟩;go_wp2_with fail;go_ret;exact⟨rfl,(Fr.alloc Zero w _).trans b⟩
theorem bD(x y:Bs):ba x++ba y=ba (x++y):=by
 apply ef;simp[ba]
theorem RB.same{ty:TypeId}{w':World}{rb:Nat}{s:ByteArray}{l:Bs}(h:RB ty w rb s l)(e:w'.heap=w.heap):RB ty w' rb s l:=⟨h.len,h.tail,by rw[e];exact h.block⟩
theorem iV{w':World}{base:Nat}{e:TypeId}{size:Nat}{v:Value}{n:Nat}{xs:List Value}(h:w.ownsRow base e size v n xs)(he:w'.heap=w.heap):w'.ownsRow base e size v n xs:=by
 refine⟨h.1,?_⟩;rcases h.2 with b|⟨g,au,a,c,d,f,r⟩
 ·exact .inl b
 ·exact .inr ⟨g,au,a,c,d,by rw[he];exact f,r⟩
theorem Fr.drew(X:Nat->Prop)(w:World):Fr X w w.drew:=⟨rfl,rfl,rfl,Nat.le_refl _,fun _ _ _=>rfl⟩
theorem nP{b:UInt8}(h:w.heap[k]?=some (.cells #[.int .u8 b.toNat] 5 (0,0))):(convert 118 9 (.slice (some ⟨k,0,none⟩) 1 1)).run Tryz.prog w=.ok (.string (ba [b])) w:=by
 refine run_convert_bytes_back (P:=Tryz.prog) _ 118 9 5 ⟨k,0,none⟩ 1 [b] Tryz.underlying118 Tryz.underlying5 Tryz.underlying9 (fun j hj=>?_)
 have:j=0:=by simp at hj;omega
 subst this;show w.cell? ⟨k,0,none⟩=_;rw[cell_of_heap h];rfl
theorem Bt{ty:TypeId}{rb:Nat}{s:ByteArray}{l:Bs}(g au:Nat)(ws:List Bs)(hl:ws.length<=1000)(hx:∀ x∈ws,x.length<=1000)(fT:w.ownsRow 0 9 1 (.slice (some ⟨g,0,none⟩) ws.length au) ws.length (ib ws))(mV:g≠rb)
  (h:RB ty w rb s l) (hs:s.size<=maxLen) :
  Calls Tryz.prog 112 #[.pointer (some ⟨rb,0,none⟩),.slice (some ⟨g,0,none⟩) ws.length au] w fun e w'=>eD ty w rb s ((cK ws [] l).1.map Int.ofNat,(cK ws [] l).2) e w':=by
 have HR:=ab h;have HO:=ab fT;have HX:=ab hx;have k9:=h.len;have U:=ab h.tail;clear fT h hx;go_enter Tryz.func112,Tryz.ntmps112;go_wp2_with fail;refine(AL HR).mono ?_;rintro e w1 ⟨rfl,e1⟩;obtain rfl:=e1.symm;go_wp2_with fail
 go_loopw [] (fun wr=>∃(c r:Bs),l=c++r/\Hi (cK ws [] l=cK ws c r)/\Hi (RB ty wr rb s r)/\Hi (Fr (One rb) w wr)) (fun wr=>s.size+1-ue rb wr)
 case atStart=>exact⟨[],l,rfl,rfl,HR,Fr.refl _ _⟩
 case round =>
  obtain⟨c,r,P,V,Q,HF⟩:=hrel;have X:=ab (ag HO.o HF (fun g' hg' e=>by simp[Value.ownBlock] at hg';have E:g'=rb:=e;omega));subst P;go_wp2_with fail;refine(oj Q hs k9 U).mono ?_;rintro e w2 ⟨rfl,(an:Hi _),ao⟩;have Y:=ab (HF.o.trans ao);have M:=ab (ag X.o ao (fun g' hg' e=>by simp[Value.ownBlock] at hg';have E:g'=rb:=e;omega));clear ao;go_wp2_with fail;refine(BL g au ws c _ hl M).mono ?_;rintro e w3 ⟨rfl,C⟩;have F:=ab (Y.o.trans C.dV);have G:=ab (an.o.ae C (fun h=>h));have Z:=ab (ag M.o C (fun g' _ h=>h));clear C;rcases hq:ws.findIdx? (fun y=>y==c) with _|i
  ·simp only[BN];rcases r with _|⟨b,r⟩
   ·have H:Hi (cK ws [] (c++[])=(none,[])):=V.o.trans (by simp only[cK];rw[hq]);clear hq;go_wp2_with fail;refine(lj G hs).mono ?_;rintro e B ⟨rfl,(q:Hi _),t⟩;have u:=ab (F.o.trans t);clear t;go_wp2_with fail
    go_quiet (fail)
    go_wp2_with fail;go_ret2;rw[H.o];exact⟨u.o.trans (Fr.drewN _ _ _),q.o.drewN _,0,rfl,fun x hx=>by simp at hx⟩
   ·go_wp2_with fail;refine(fX G hs).mono ?_;rintro e B ⟨rfl,(q:Hi _),t⟩;have u:=ab (F.o.trans t);have I:=ab (ag Z.o t (fun g' hg' e=>by simp[Value.ownBlock] at hg';have E:g'=rb:=e;omega));clear t;have N:=bD c [b];have aa:∀(W:World) (k:Nat),k=W.heap.size->(convert 118 9 (.slice (some ⟨k,0,none⟩) 1 1)).run Tryz.prog (W.alloc (.cells #[.int .u8 b.toNat] 5))=.ok (.string (ba [b])) (W.alloc (.cells #[.int .u8 b.toNat] 5)):=fun W k e=>nP (by rw[e];exact af rfl _)
    have ac:∀(W:World) (k:Nat),k=W.heap.size->(convert 118 9 (.slice (some ⟨k,0,none⟩) 1 1)).run Tryz.prog (W.alloc (.cells #[.int .u8 b.toNat] 5)).drew=.ok (.string (ba [b])) (W.alloc (.cells #[.int .u8 b.toNat] 5)).drew:=fun W k e=>nP (by rw[e];exact af rfl _)
    have ad:=aI c;have J:Hi (∀ x∈ws,x.length<=maxLen):=fun x hx=>by have:=HX.o x hx;unfold maxLen;omega
    have ah:(ba [b]).size=1:=aI [b];have ai:c.length+1<=9223372036854775807:=by unfold maxLen at hs;simp at k9;omega
    have aj:¬(9223372036854775807<c.length+1):=by omega
    go_wp2_with fail
    go_cut [47] from 15 to 52 (fun bv wx=>bv=.bool (!(ws.any (fun x=>(c++[b]).isPrefixOf x)))/\Hi (RB ty wx rb s (b::r))/\Hi (Fr (One rb) w wx))
    case first =>
     refine wp_region_held_drew (S:=fun _=>True) (by kernel_rfl) trivial (fun hT=>?_);refine wt 0 trivial ?_
     try simp only[sA]
     refine wt 1 trivial ?_
     try simp only[sA]
     refine wt 2 trivial ?_
     try simp only[sA]
     refine wt 3 trivial ?_
     try simp only[sA]
     refine wt 4 trivial ?_
     try simp only[sA]
     refine wt 5 trivial ?_
     try simp only[sA]
     refine wt 6 trivial ?_
     try simp only[sA]
     refine wt 7 trivial ?_
     try simp only[sA]
     refine wt 9 trivial ?_
     try simp only[sA]
     refine wpAnyH_ready (rs:=[8,10]) (by kernel_rfl) (by simp) ?_;refine wc 8 (fun K hK=>?_) (wc 10 (fun K hK=>?_) AllReadyH.nil)
     ·go_simp;refine(oj (by exact q.o.same rfl) hs k9 U).mono ?_;rintro e L ⟨rfl,p,f⟩;have v:=ab p;have z:Hi (Fr (One rb) w L):=(u.o.trans (Fr.drew _ _)).trans f;have A:=ab (ag (by exact iV I.o rfl) f (fun g' hg' e=>by simp[Value.ownBlock] at hg';have E:g'=rb:=e;omega));clear p f;go_wp2_with fail
      refine hK.out _ _ trivial (fun _=>?_);clear hK K
      try simp only[sA]
      refine wpAnyH_ready (rs:=[10]) (by kernel_rfl) (by simp) ?_;refine wc 10 (fun K hK=>?_) AllReadyH.nil
      go_simp
      refine hK.out _ _ trivial (fun _=>?_);clear hK K
      try simp only[sA]
      refine wpAnyH_ready (rs:=[11]) (by kernel_rfl) (by simp) ?_;refine wc 11 (fun K hK=>?_) AllReadyH.nil
      go_simp
      refine hK.out _ _ trivial (fun _=>?_);clear hK K
      try simp only[sA]
      refine wpAnyH_ready (rs:=[12]) (by kernel_rfl) (by simp) ?_;refine wc 12 (fun K hK=>?_) AllReadyH.nil
      go_simp
      refine hK.out _ _ trivial (fun _=>?_);clear hK K
      try simp only[sA]
      refine wpAnyH_ready (rs:=[13]) (by kernel_rfl) (by simp) ?_;refine wc 13 (fun K hK=>?_) AllReadyH.nil
      go_simp;refine(jW g au ws (c++[b]) _ hl J (by exact iV (A.o.alloc (.cells #[.int .u8 b.toNat] 5)) rfl)).mono ?_;rintro e D ⟨rfl,j⟩;have n:Hi (Fr (One rb) w D):=(z.o.trans (Fr.alloc _ L (.cells #[.int .u8 b.toNat] 5))).trans (Fr.dV j);have m:Hi (RB ty D rb s (b::r)):=(v.o.ae (Fr.alloc Zero L (.cells #[.int .u8 b.toNat] 5)) (fun h=>h)).ae j (fun h=>h);clear j;go_wp2_with fail
      refine hK.out _ _ trivial (fun _=>?_);clear hK K
      try simp only[sA]
      refine wpAnyH_ready (rs:=[14]) (by kernel_rfl) (by simp) ?_;refine wc 14 (fun K hK=>?_) AllReadyH.nil
      go_simp
      refine hK.out _ _ trivial (fun _=>?_);clear hK K
      try simp only[sA]
      refine wpAnyH_ready (rs:=[15]) (by kernel_rfl) (by simp) ?_;refine wc 15 (fun K hK=>?_) AllReadyH.nil
      go_simp
      refine hK.out _ _ trivial (fun _=>?_);clear hK K
      try simp only[sA]
      refine wpAnyH_done (by kernel_rfl) ?_ _;go_wp2_with fail
      go_meet
      exact⟨rfl,m,n⟩
     ·go_simp
      refine hK.out _ _ trivial (fun _=>?_);clear hK K
      try simp only[sA]
      refine wpAnyH_ready (rs:=[8,11]) (by kernel_rfl) (by simp) ?_;refine wc 8 (fun K hK=>?_) (wc 11 (fun K hK=>?_) AllReadyH.nil)
      ·go_simp;refine(oj (by exact(q.o.ae (Fr.alloc Zero B (.cells #[.int .u8 b.toNat] 5)) (fun h=>h)).same rfl) hs k9 U).mono ?_;rintro e L ⟨rfl,p,f⟩;have v:=ab p;have z:Hi (Fr (One rb) w L):=u.o.trans ((Fr.alloc _ B (.cells #[.int .u8 b.toNat] 5)).trans ((Fr.drew _ _).trans f));have A:=ab (ag (by exact iV (I.o.alloc (.cells #[.int .u8 b.toNat] 5)) rfl) f (fun g' hg' e=>by simp[Value.ownBlock] at hg';have E:g'=rb:=e;omega));have ak:=nP (f.ae (b:=B.heap.size) (af (w:=B) rfl (.cells #[.int .u8 b.toNat] 5)) (fun e=>by have E:B.heap.size=rb:=e;have:=q.o.lt;omega));clear p f;go_wp2_with fail
       refine hK.out _ _ trivial (fun _=>?_);clear hK K
       try simp only[sA]
       refine wpAnyH_ready (rs:=[11]) (by kernel_rfl) (by simp) ?_;refine wc 11 (fun K hK=>?_) AllReadyH.nil
       go_simp
       refine hK.out _ _ trivial (fun _=>?_);clear hK K
       try simp only[sA]
       refine wpAnyH_ready (rs:=[12]) (by kernel_rfl) (by simp) ?_;refine wc 12 (fun K hK=>?_) AllReadyH.nil
       go_simp
       refine hK.out _ _ trivial (fun _=>?_);clear hK K
       try simp only[sA]
       refine wpAnyH_ready (rs:=[13]) (by kernel_rfl) (by simp) ?_;refine wc 13 (fun K hK=>?_) AllReadyH.nil
       go_simp;refine(jW g au ws (c++[b]) _ hl J (by exact iV A.o rfl)).mono ?_;rintro e D ⟨rfl,j⟩;have n:Hi (Fr (One rb) w D):=z.o.trans (Fr.dV j);have m:Hi (RB ty D rb s (b::r)):=v.o.ae j (fun h=>h);clear j;go_wp2_with fail
       refine hK.out _ _ trivial (fun _=>?_);clear hK K
       try simp only[sA]
       refine wpAnyH_ready (rs:=[14]) (by kernel_rfl) (by simp) ?_;refine wc 14 (fun K hK=>?_) AllReadyH.nil
       go_simp
       refine hK.out _ _ trivial (fun _=>?_);clear hK K
       try simp only[sA]
       refine wpAnyH_ready (rs:=[15]) (by kernel_rfl) (by simp) ?_;refine wc 15 (fun K hK=>?_) AllReadyH.nil
       go_simp
       refine hK.out _ _ trivial (fun _=>?_);clear hK K
       try simp only[sA]
       refine wpAnyH_done (by kernel_rfl) ?_ _;go_wp2_with fail
       go_meet
       exact⟨rfl,m,n⟩
      ·go_simp
       refine hK.out _ _ trivial (fun _=>?_);clear hK K
       try simp only[sA]
       refine wpAnyH_ready (rs:=[8]) (by kernel_rfl) (by simp) ?_;refine wc 8 (fun K hK=>?_) AllReadyH.nil
       go_simp;refine(oj (by exact(q.o.ae (Fr.alloc Zero B (.cells #[.int .u8 b.toNat] 5)) (fun h=>h)).same rfl) hs k9 U).mono ?_;rintro e L ⟨rfl,p,f⟩;have v:=ab p;have z:Hi (Fr (One rb) w L):=u.o.trans ((Fr.alloc _ B (.cells #[.int .u8 b.toNat] 5)).trans ((Fr.drew _ _).trans f));have A:=ab (ag (by exact iV (I.o.alloc (.cells #[.int .u8 b.toNat] 5)) rfl) f (fun g' hg' e=>by simp[Value.ownBlock] at hg';have E:g'=rb:=e;omega));have ak:=nP (f.ae (b:=B.heap.size) (af (w:=B) rfl (.cells #[.int .u8 b.toNat] 5)) (fun e=>by have E:B.heap.size=rb:=e;have:=q.o.lt;omega));clear p f;go_wp2_with fail
       refine hK.out _ _ trivial (fun _=>?_);clear hK K
       try simp only[sA]
       refine wpAnyH_ready (rs:=[12]) (by kernel_rfl) (by simp) ?_;refine wc 12 (fun K hK=>?_) AllReadyH.nil
       go_simp
       refine hK.out _ _ trivial (fun _=>?_);clear hK K
       try simp only[sA]
       refine wpAnyH_ready (rs:=[13]) (by kernel_rfl) (by simp) ?_;refine wc 13 (fun K hK=>?_) AllReadyH.nil
       go_simp;refine(jW g au ws (c++[b]) _ hl J (by exact iV A.o rfl)).mono ?_;rintro e D ⟨rfl,j⟩;have n:Hi (Fr (One rb) w D):=z.o.trans (Fr.dV j);have m:Hi (RB ty D rb s (b::r)):=v.o.ae j (fun h=>h);clear j;go_wp2_with fail
       refine hK.out _ _ trivial (fun _=>?_);clear hK K
       try simp only[sA]
       refine wpAnyH_ready (rs:=[14]) (by kernel_rfl) (by simp) ?_;refine wc 14 (fun K hK=>?_) AllReadyH.nil
       go_simp
       refine hK.out _ _ trivial (fun _=>?_);clear hK K
       try simp only[sA]
       refine wpAnyH_ready (rs:=[15]) (by kernel_rfl) (by simp) ?_;refine wc 15 (fun K hK=>?_) AllReadyH.nil
       go_simp
       refine hK.out _ _ trivial (fun _=>?_);clear hK K
       try simp only[sA]
       refine wpAnyH_done (by kernel_rfl) ?_ _;go_wp2_with fail
       go_meet
       exact⟨rfl,m,n⟩
    case rest =>
     obtain⟨rfl,m,n⟩:=hcut;have d:Hi (cK ws [] (c++b::r)=if ws.any (fun x=>(c++[b]).isPrefixOf x) then cK ws (c++[b]) r else(none,b::r)):=V.o.trans (by simp only[cK];rw[hq]);have al:=ab Q.o.place;have BS:=m.o.len;clear V hq N aa ac ad ah ai aj;rcases hany:ws.any (fun x=>(c++[b]).isPrefixOf x) with _|_
     ·rw[hany] at d;have H:Hi (cK ws [] (c++b::r)=(none,b::r)):=d;clear hany d;go_wp2_with fail;go_ret2;rw[H.o];exact⟨n,m,0,rfl,fun x hx=>by simp at hx⟩
     ·rw[hany] at d;have H:Hi (cK ws [] (c++b::r)=cK ws (c++[b]) r):=d;clear hany d;go_wp2_with fail;refine(pK (a:=[b]) m hs 1 rfl).mono ?_;rintro e w7 ⟨rfl,(R:Hi _),T⟩;have am:=ab (n.o.trans T);have O:=ab R.o.place;clear T;go_wp2_with fail;refine⟨⟨c++[b],r,by simp,H,R,am⟩,?_⟩;rw[al.o,O.o];simp only[pos,List.length_cons];simp only[List.length_cons] at BS;omega
  ·have H:Hi (cK ws [] (c++r)=(some i,r)):=V.o.trans (by cases r with
    | nil=>simp only[cK];rw[hq]
    | cons b r=>simp only[cK];rw[hq])
   simp only[BN];clear hq;go_wp2_with fail;go_ret2;rw[H.o];exact⟨F,G,i,rfl,fun x hx=>by simp at hx;subst hx;rfl⟩
def under(p st:Bs):Bs:=if p=[] then st else p++47::st
def stepOf(t:PT)(n:Int)(i:Nat):Bs:=if t.kind=7 then ed 20 i else if t.kind=8 then[43] else if t.kind=9 then t.name i else t.name n.toNat
def ou(t:PT)(n:Int)(i:Nat):Bs:=if t.kind=7 then[42] else stepOf t n i
def kids{α:Type}(f:Nat->PV->List α):Nat->List PV->List α
 | _,[]=>[]
 | i,v::l=>f i v++kids f (i+1) l
def cy:Nat->Bs->PV->List (Bs×Bs)
 | 0,_,_=>[]
 | k+1,p,v=>(p,aw (k+1) v)::kids (fun i x=>cy k (under p (stepOf v.of v.num i)) x) 0 v.parts
def dI:Nat->Bs->PV->List (Bs×Int)
 | 0,_,_=>[]
 | k+1,p,v=>if v.of.kind<=3 then[(p,v.num)] else kids (fun i x=>dI k (under p (ou v.of v.num i)) x) 0 v.parts
theorem l5{α:Type}(f:Nat->PV->List α)(v:PV):∀(l:List PV) (i:Nat),kids f i (l++[v])=kids f i l++f (i+l.length) v:=by
 intro l
 induction l with
 | nil=>intro i;simp[kids]
 | cons x l ih=>intro i;simp only[List.cons_append,kids,ih,List.append_assoc,List.length_cons];rw[show i+1+l.length=i+(l.length+1) by omega]
theorem mr(f:PV->Bs)(v:PV):∀(l:List PV),aD f (l++[v])=aD f l++((if l.length=0 then[] else[44])++f v):=by
 intro l
 induction l with
 | nil=>simp[aD]
 | cons x l ih =>
  cases l with
  | nil=>simp[aD]
  | cons y l=>rw[List.cons_append,fu (by simp),fu (by simp),ih];simp
theorem eZ(p st:Bs):(under p st).length<=p.length+1+st.length:=by
 unfold under
 split
 ·omega
 ·simp;omega
theorem Fr.four(X:Nat->Prop)(w:World)(b:Nat)(v0 v1 v2 v3:Value)(hx:X b):Fr X w ((((w.setCell ⟨b,0,none⟩ v0).setCell ⟨b,1,none⟩ v1).setCell ⟨b,2,none⟩ v2).setCell ⟨b,3,none⟩ v3) :=
 (((Fr.setCell X w ⟨b,0,none⟩ v0 hx).trans (Fr.setCell X _ ⟨b,1,none⟩ v1 hx)).trans (Fr.setCell X _ ⟨b,2,none⟩ v2 hx)).trans (Fr.setCell X _ ⟨b,3,none⟩ v3 hx)
theorem eL{b:Nat}{a0 a1 a2 a3:Value}{t:TypeId}{f:Nat×Nat}(h:w.heap[b]?=some (.cells #[a0,a1,a2,a3] t f))(v0 v1 v2 v3:Value):
  ((((w.setCell ⟨b,0,none⟩ v0).setCell ⟨b,1,none⟩ v1).setCell ⟨b,2,none⟩ v2).setCell ⟨b,3,none⟩ v3).heap[b]?=some (.cells #[v0,v1,v2,v3] t f):=by
 rw[heap_setCell_same (heap_setCell_same (heap_setCell_same (heap_setCell_same h)))];rfl
theorem cN{b:Nat}(hk:k≠b)(v0 v1 v2 v3:Value):
  ((((w.setCell ⟨b,0,none⟩ v0).setCell ⟨b,1,none⟩ v1).setCell ⟨b,2,none⟩ v2).setCell ⟨b,3,none⟩ v3).heap[k]?=w.heap[k]?:=by
 rw[Below.heap_setCell _ _ _ _ hk,Below.heap_setCell _ _ _ _ hk,Below.heap_setCell _ _ _ _ hk,Below.heap_setCell _ _ _ _ hk]
theorem lF(d:Nat)(hd:d<256)(W:World)(k:Nat)(x:Int)(hx:x=d)(hk:k=W.heap.size):
  (convert 118 9 (.slice (some ⟨k,0,none⟩) 1 1)).run Tryz.prog (W.alloc (.cells #[.int .u8 x] 5))=.ok (.string (ba [UInt8.ofNat d])) (W.alloc (.cells #[.int .u8 x] 5)):=by
 refine nP (b:=UInt8.ofNat d) ?_;rw[hk,toNat_ofNat hd,<-hx];exact af rfl _
theorem Fi{n:Int}(h1:-9223372036854775808<=n)(hn:n<0):IntKind.u64.wrap (-IntKind.u64.wrap n)=(n.natAbs:Int):=by
 simp only[IntKind.wrap,IntKind.bits,IntKind.signed];simp;omega
theorem Fh{n:Int}(hn:¬n<0)(h2:n<=9223372036854775807):IntKind.u64.wrap n=(n.natAbs:Int):=by
 simp only[IntKind.wrap,IntKind.bits,IntKind.signed];simp;omega
def r9(N m:Nat)(acc:Bs):Prop:=m<10^20/\ed 20 N=ed 20 m++acc
theorem r9.more(h:r9 N m acc)(hm:9<m):r9 N (m/10) (UInt8.ofNat (48+m%10)::acc):=by
 obtain⟨c,b⟩:=h;refine⟨by omega,?_⟩;rw[b]
 have:=tw (a:=m/10) (d:=m%10) (by omega) (by omega) (by omega)
 rw[show m/10*10+m%10=m by omega] at this;rw[this];simp
theorem r9.last(h:r9 N m acc)(hm:m<=9):ed 20 N=UInt8.ofNat (48+m)::acc:=by
 rw[h.2,xB (by omega)];rfl
theorem r9.len(h:r9 N m acc):acc.length<=20:=by
 have:=congrArg List.length h.2
 have a:=qL 20 N;simp at this;omega
end Go.Proofs.YtpffifpbpmlhdaaGreatDoor
