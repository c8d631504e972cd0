/- Buses (P10), up to the bound, the whole claim: whatever the script of steps on rings and buses (new ones, values published, raw bytes put in, consumed, fields asked, released, shut, room asked, in every order, several of each side by side), each answer of the program is the document's own; in the end too, when all that wait are consumed and all fields asked. Its conditions: the script holds together at most 1048576 values and letters; the package-level variables are as the program's text lays them. -/
import Derived.Carry
import Derived.JoinedCond
import Derived.Deep.DeepHandedRow
import Derived.Deep.SlicePairs
import Derived.Test.YtpffifpbpmlhdaaGreatDoorTie
import Derived.Test.YtpffifpbpmlhdaaGreatDoorCards
import Derived.SevenTiedAt
import Derived.Test.YtpffifpbpmlhdaaGreatDoorBsVFacts
import Derived.Test.YtpffifpbpmlhdaaGreatDoorBsUPlay
set_option maxHeartbeats 32000000
set_option maxRecDepth 100000
namespace Go.Proofs.YtpffifpbpmlhdaaGreatDoor.Q
open Go.RowKit
variable {w:World}{B wb M:Nat}{L:List RP}{N:List BP}{rv qv bv cv:Value}
theorem Fo(g:Nat)(h2:2<=g)(tj:g<=64)(w:World):
  Calls Tryz.prog 35 #[.int .i64 g] w fun e w'=>∃ sb,e=.returned (.tuple #[.pointer (some ⟨sb,0,none⟩),.int .i64 0])/\Fr Zero w w'/\SM w' sb (w.heap.size+1) w.heap.size (jQ g)/\w.heap.size<=sb/\∀ k,RX w' (w.heap.size+1) w.heap.size k->w.heap.size<=k:=by
 go_enter Tryz.func35,Tryz.ntmps35;go_wp2_with fail;refine(z6 g h2 tj _).mono ?_;rintro e c ⟨rfl,(b:Hi _),eU⟩;have a:=ab eU;clear eU;go_wp2;go_ret2
 exact⟨c.heap.size,rfl,b.o.trans (Fr.alloc _ _ _),⟨af rfl _,_,a.o.quiet (Fr.alloc Zero _ _)⟩,b.o.size,fun k hk=>by
  rcases RX.of (a.o.quiet (Fr.alloc Zero _ _)) hk with e|e|e
  ·omega
  ·omega
  ·simp[al] at e⟩
theorem pz{n:Nat}{v:Value}{ty t e:TypeId}(hk:Tryz.prog.underlying t=some (.slice e))(h:w.heap[n]?=some (.cells #[v] ty (0,0)))(h1:v.oneCell'=true):Src Tryz.prog 1 t (.slice (some ⟨n,0,none⟩) 1 1) 1 [v] w:=by
 refine Src.ofSlice _ hk _ _ _ _ rfl (fun j u hj=>?_) (fun u hu=>?_)
 ·match j,hj with
  | 0,hj=>simp at hj;subst hj;rw[show(⟨n,0,none⟩:Addr).add 0=⟨n,0,none⟩ by simp[Addr.add]];rw[cell_of_heap h];rfl
  | j+1,hj=>simp at hj
 ·simp at hu;subst hu;exact h1
theorem G3:(Tryz.prog.info? 41).map (fun i=>(i.zero,i.size,i.bytes))=some (some (.pointer none),1,8):=by kernel_rfl
theorem G4:(Tryz.prog.info? 39).map (fun i=>(i.zero,i.size,i.bytes))=some (some (.pointer none),1,8):=by kernel_rfl
theorem G6:(Tryz.prog.info? 47).map (fun i=>(i.zero,i.size,i.bytes))=some (some (.pointer none),1,8):=by kernel_rfl
theorem G5:(Tryz.prog.info? 45).map (fun i=>(i.zero,i.size,i.bytes))=some (some (.pointer none),1,8):=by kernel_rfl
theorem zU{α:Type}(l:List α)(x:α)(i:Nat)(h:i≠l.length):(l++[x])[i]?=l[i]?:=by
 rcases Nat.lt_or_ge i l.length with a|a
 ·rw[List.getElem?_append_left a]
 ·rw[List.getElem?_append_right a,List.getElem?_eq_none a,List.getElem?_eq_none (by simp;omega)]
section
variable {w w':World} {B wb M:Nat} {L:List RP} {N:List BP} {rv qv bv cv:Value}
theorem WW.push{w1 w2:World}{p:RP}{pd vh:Value}(h:WW w B wb L N M rv qv bv cv)(hp:PM w p)(ux:∀ k,PX w p k->B<=k)(IM:∀ κ y,fj L N κ=some y->∀ k,PX w p k->¬TX w y k)(hl:p.Q.fs.length<=M)
  (h1:cA w1 41 1 pd (L.length+1) (L.map jN++[jN p])) (xq:Fr (px rv) w w1) (hv1:∀ k,k<w.heap.size->al pd=some k->al rv=some k)
  (h2:cA w2 39 1 vh (L.length+1) (L.map jO++[jO p])) (lh:Fr (px qv) (w1.setCell ⟨wb,0,none⟩ pd) w2) (hv2:∀ k,k<(w1.setCell ⟨wb,0,none⟩ pd).heap.size->al vh=some k->al qv=some k) :
  WW (w2.setCell ⟨wb,1,none⟩ vh) B wb (L++[p]) N M pd vh bv cv/\Fr (bk B) w (w2.setCell ⟨wb,1,none⟩ vh):=by
 have J:al rv≠some wb:=fun e=>h.rs.ne h.blk (by decide) e
 have s:al qv≠some wb:=fun e=>h.qs.ne h.blk (by decide) e
 have u:w1.heap[wb]?=some (.cells #[rv,qv,bv,cv] 31 (0,0)):=xq.ae h.blk J;have z:(w1.setCell ⟨wb,0,none⟩ pd).heap[wb]?=some (.cells #[pd,qv,bv,cv] 31 (0,0)):=by rw[heap_setCell_same u];rfl
 have A:w2.heap[wb]?=some (.cells #[pd,qv,bv,cv] 31 (0,0)):=lh.ae z s;have K:(w2.setCell ⟨wb,1,none⟩ vh).heap[wb]?=some (.cells #[pd,vh,bv,cv] 31 (0,0)):=by rw[heap_setCell_same A];rfl
 have d:Fr (One wb) w1 (w1.setCell ⟨wb,0,none⟩ pd):=Fr.setCell _ _ _ _ rfl;have i:Fr (One wb) w2 (w2.setCell ⟨wb,1,none⟩ vh):=Fr.setCell _ _ _ _ rfl;have O:Fr (fun k=>al rv=some k\/k=wb) w (w1.setCell ⟨wb,0,none⟩ pd):=(xq.mono (fun k _ e=>.inl e)).trans (d.mono (fun k _ e=>.inr e))
 have b:Fr (fun k=>al rv=some k\/al qv=some k\/k=wb) w (w2.setCell ⟨wb,1,none⟩ vh) :=
  ((xq.mono (fun k _ e=>.inl e)).trans (d.mono (fun k _ e=>.inr (.inr e)))).trans ((lh.mono (fun k _ e=>.inr (.inl e))).trans (i.mono (fun k _ e=>.inr (.inr e))))
 have l:∀ k,(al rv=some k\/al qv=some k\/k=wb)->∃ cs t,w.heap[k]?=some (.cells cs t (0,0))/\(t=31\/t=41\/t=39):=fun k hk=>by
  rcases hk with e|e|e
  ·obtain⟨c,q⟩:=h.rs.typed e;exact⟨_,_,q,.inr (.inl rfl)⟩
  ·obtain⟨c,q⟩:=h.qs.typed e;exact⟨_,_,q,.inr (.inr rfl)⟩
  ·rw[e];exact⟨_,_,h.blk,.inl rfl⟩
 have P:dR w (fun k=>al rv=some k\/al qv=some k\/k=wb):=fun k cs t f hk hx=>by
  obtain⟨G,S,o,a⟩:=l k hx;rw[o] at hk;simp at hk;rw[<-hk.2.1];rcases a with rfl|rfl|rfl<;>decide
 have dH:∀(x:Th),TM w x->∀ k,TX w x k->¬(al rv=some k\/al qv=some k\/k=wb):=fun x hx k hk e=>by
  obtain⟨G,S,o,a⟩:=l k e;refine hx.eh o ?_ hk;rcases a with rfl|rfl|rfl<;>decide
 have C:∀ {ty:TypeId} {n:Nat} {v:Value} {xs:List Value},cA w ty 1 v n xs->(ty≠31/\ty≠41/\ty≠39)->cA (w2.setCell ⟨wb,1,none⟩ vh) ty 1 v n xs:=fun hr ht=>hr.ae b (fun g hg e=>by
  obtain⟨c,H⟩:=hr.typed hg;obtain⟨G,S,o,a⟩:=l g e;rw[H] at o;simp at o;rw[<-o.2] at a;rcases a with a|a|a
  ·exact ht.1 a
  ·exact ht.2.1 a
  ·exact ht.2.2 a)
 have qE:∀ g,al pd=some g->¬One wb g:=fun g hg e=>by
  have R:g=wb:=e;rw[R] at hg;exact h1.ne u (by decide) hg
 have D8:∀ g,al vh=some g->¬One wb g:=fun g hg e=>by
  have R:g=wb:=e;rw[R] at hg;exact h2.ne A (by decide) hg
 have D:cA (w1.setCell ⟨wb,0,none⟩ pd) 41 1 pd (L.length+1) (L.map jN++[jN p]):=h1.ae d qE;have dJ:B<=w.heap.size:=h.size
 have I:Fr (bk B) w (w2.setCell ⟨wb,1,none⟩ vh):=b.mono (fun k _ e=>by
  rcases e with e|e|e
  ·exact h.rB k e
  ·exact h.qB k e
  ·show B<=k;rw[e];exact h.wB)
 have E:TM w (.r p):=hp;have m:=E.ae b P (dH _ E);have F:=h.sep.ae b P (fun κ x hκ=>dH x (h.sep.each κ x hκ))
 refine⟨⟨K,?_,?_,?_,?_,fun g hg=>?_,fun g hg=>?_,h.bB,h.cB,h.wB,F.push (κ:=(false,L.length)) (x:=.r p) m.1 (fun k hk=>ux k ((m.2 k).1 hk)) (fun κ y hy k hk gg=>IM κ y hy k ((m.2 k).1 hk) ((((h.sep.each κ y hy).ae b P (dH y (h.sep.each κ y hy))).2 k).1 gg)) hl (fun κ' cF=>by
  rcases κ' with⟨_|_,j⟩
  ·simp only[fj];rw[zU L p j (fun e=>cF (by rw[e]))]
  ·rfl) (by simp[fj]),(h.kY I).1,(h.kY I).2.1,(h.kY I).2.2,h.gB⟩,I⟩
 ·have e:(L++[p]).map jN=L.map jN++[jN p]:=by simp
  rw[e,show(L++[p]).length=L.length+1 by simp];refine(D.ae lh (fun g hg e=>?_)).ae i qE;obtain⟨V,H⟩:=h.qs.typed e;obtain⟨X,T⟩:=D.typed hg
  have U:(w1.setCell ⟨wb,0,none⟩ pd).heap[g]?=some (.cells V 39 (0,0)):=O.ae H (fun a=>by
   rcases a with a|a
   ·obtain⟨Y,W⟩:=h.rs.typed a;rw[W] at H;simp at H
   ·rw[a] at e
    exact s e)
  rw[U] at T;simp at T
 ·have e:(L++[p]).map jO=L.map jO++[jO p]:=by simp
  rw[e,show(L++[p]).length=L.length+1 by simp];exact h2.ae i D8
 ·exact C h.bs (by decide)
 ·exact C h.cs (by decide)
 ·rcases Nat.lt_or_ge g w.heap.size with q|q
  ·exact h.rB g (hv1 g q hg)
  ·exact Nat.le_trans dJ q
 ·rcases Nat.lt_or_ge g (w1.setCell ⟨wb,0,none⟩ pd).heap.size with q|q
  ·exact h.qB g (hv2 g q hg)
  ·exact Nat.le_trans (Nat.le_trans dJ (Nat.le_trans xq.size d.size)) q
theorem WW.Iu{w1 w2:World}{p:BP}{qV vj:Value}(h:WW w B wb L N M rv qv bv cv)(hp:me w p)(ux:∀ k,BX w p k->B<=k)(IM:∀ κ y,fj L N κ=some y->∀ k,BX w p k->¬TX w y k)(hl:p.Q.fs.length<=M)
  (h1:cA w1 47 1 qV (N.length+1) (N.map jU++[jU p])) (xq:Fr (px bv) w w1) (hv1:∀ k,k<w.heap.size->al qV=some k->al bv=some k)
  (h2:cA w2 45 1 vj (N.length+1) (N.map jT++[jT p])) (lh:Fr (px cv) (w1.setCell ⟨wb,2,none⟩ qV) w2) (hv2:∀ k,k<(w1.setCell ⟨wb,2,none⟩ qV).heap.size->al vj=some k->al cv=some k) :
  WW (w2.setCell ⟨wb,3,none⟩ vj) B wb L (N++[p]) M rv qv qV vj/\Fr (bk B) w (w2.setCell ⟨wb,3,none⟩ vj):=by
 have J:al bv≠some wb:=fun e=>h.bs.ne h.blk (by decide) e
 have s:al cv≠some wb:=fun e=>h.cs.ne h.blk (by decide) e
 have u:w1.heap[wb]?=some (.cells #[rv,qv,bv,cv] 31 (0,0)):=xq.ae h.blk J;have z:(w1.setCell ⟨wb,2,none⟩ qV).heap[wb]?=some (.cells #[rv,qv,qV,cv] 31 (0,0)):=by rw[heap_setCell_same u];rfl
 have A:w2.heap[wb]?=some (.cells #[rv,qv,qV,cv] 31 (0,0)):=lh.ae z s;have K:(w2.setCell ⟨wb,3,none⟩ vj).heap[wb]?=some (.cells #[rv,qv,qV,vj] 31 (0,0)):=by rw[heap_setCell_same A];rfl
 have i:Fr (One wb) w1 (w1.setCell ⟨wb,2,none⟩ qV):=Fr.setCell _ _ _ _ rfl;have l:Fr (One wb) w2 (w2.setCell ⟨wb,3,none⟩ vj):=Fr.setCell _ _ _ _ rfl;have O:Fr (fun k=>al bv=some k\/k=wb) w (w1.setCell ⟨wb,2,none⟩ qV):=(xq.mono (fun k _ e=>.inl e)).trans (i.mono (fun k _ e=>.inr e))
 have d:Fr (fun k=>al bv=some k\/al cv=some k\/k=wb) w (w2.setCell ⟨wb,3,none⟩ vj) :=
  ((xq.mono (fun k _ e=>.inl e)).trans (i.mono (fun k _ e=>.inr (.inr e)))).trans ((lh.mono (fun k _ e=>.inr (.inl e))).trans (l.mono (fun k _ e=>.inr (.inr e))))
 have m:∀ k,(al bv=some k\/al cv=some k\/k=wb)->∃ cs t,w.heap[k]?=some (.cells cs t (0,0))/\(t=31\/t=47\/t=45):=fun k hk=>by
  rcases hk with e|e|e
  ·obtain⟨c,q⟩:=h.bs.typed e;exact⟨_,_,q,.inr (.inl rfl)⟩
  ·obtain⟨c,q⟩:=h.cs.typed e;exact⟨_,_,q,.inr (.inr rfl)⟩
  ·rw[e];exact⟨_,_,h.blk,.inl rfl⟩
 have P:dR w (fun k=>al bv=some k\/al cv=some k\/k=wb):=fun k cs t f hk hx=>by
  obtain⟨G,S,r,a⟩:=m k hx;rw[r] at hk;simp at hk;rw[<-hk.2.1];rcases a with rfl|rfl|rfl<;>decide
 have dH:∀(x:Th),TM w x->∀ k,TX w x k->¬(al bv=some k\/al cv=some k\/k=wb):=fun x hx k hk e=>by
  obtain⟨G,S,r,a⟩:=m k e;refine hx.eh r ?_ hk;rcases a with rfl|rfl|rfl<;>decide
 have C:∀ {ty:TypeId} {n:Nat} {v:Value} {xs:List Value},cA w ty 1 v n xs->(ty≠31/\ty≠47/\ty≠45)->cA (w2.setCell ⟨wb,3,none⟩ vj) ty 1 v n xs:=fun hr ht=>hr.ae d (fun g hg e=>by
  obtain⟨c,H⟩:=hr.typed hg;obtain⟨G,S,r,a⟩:=m g e;rw[H] at r;simp at r;rw[<-r.2] at a;rcases a with a|a|a
  ·exact ht.1 a
  ·exact ht.2.1 a
  ·exact ht.2.2 a)
 have qE:∀ g,al qV=some g->¬One wb g:=fun g hg e=>by
  have R:g=wb:=e;rw[R] at hg;exact h1.ne u (by decide) hg
 have D8:∀ g,al vj=some g->¬One wb g:=fun g hg e=>by
  have R:g=wb:=e;rw[R] at hg;exact h2.ne A (by decide) hg
 have D:cA (w1.setCell ⟨wb,2,none⟩ qV) 47 1 qV (N.length+1) (N.map jU++[jU p]):=h1.ae i qE;have dJ:B<=w.heap.size:=h.size
 have I:Fr (bk B) w (w2.setCell ⟨wb,3,none⟩ vj):=d.mono (fun k _ e=>by
  rcases e with e|e|e
  ·exact h.bB k e
  ·exact h.cB k e
  ·show B<=k;rw[e];exact h.wB)
 have E:TM w (.b p):=hp;have o:=E.ae d P (dH _ E);have F:=h.sep.ae d P (fun κ x hκ=>dH x (h.sep.each κ x hκ))
 refine⟨⟨K,?_,?_,?_,?_,h.rB,h.qB,fun g hg=>?_,fun g hg=>?_,h.wB,F.push (κ:=(true,N.length)) (x:=.b p) o.1 (fun k hk=>ux k ((o.2 k).1 hk)) (fun κ y hy k hk gg=>IM κ y hy k ((o.2 k).1 hk) ((((h.sep.each κ y hy).ae d P (dH y (h.sep.each κ y hy))).2 k).1 gg)) hl (fun κ' cF=>by
  rcases κ' with⟨_|_,j⟩
  ·rfl
  ·simp only[fj]
   rw[zU N p j (fun e=>cF (by rw[e]))]) (by simp[fj]),(h.kY I).1,(h.kY I).2.1,(h.kY I).2.2,h.gB⟩,I⟩
 ·exact C h.rs (by decide)
 ·exact C h.qs (by decide)
 ·have e:(N++[p]).map jU=N.map jU++[jU p]:=by simp
  rw[e,show(N++[p]).length=N.length+1 by simp];refine(D.ae lh (fun g hg e=>?_)).ae l qE;obtain⟨V,H⟩:=h.cs.typed e;obtain⟨X,T⟩:=D.typed hg
  have U:(w1.setCell ⟨wb,2,none⟩ qV).heap[g]?=some (.cells V 45 (0,0)):=O.ae H (fun a=>by
   rcases a with a|a
   ·obtain⟨Y,W⟩:=h.bs.typed a;rw[W] at H;simp at H
   ·rw[a] at e
    exact s e)
  rw[U] at T;simp at T
 ·have e:(N++[p]).map jT=N.map jT++[jT p]:=by simp
  rw[e,show(N++[p]).length=N.length+1 by simp];exact h2.ae l D8
 ·rcases Nat.lt_or_ge g w.heap.size with q|q
  ·exact h.bB g (hv1 g q hg)
  ·exact Nat.le_trans dJ q
 ·rcases Nat.lt_or_ge g (w1.setCell ⟨wb,2,none⟩ qV).heap.size with q|q
  ·exact h.cB g (hv2 g q hg)
  ·exact Nat.le_trans (Nat.le_trans dJ (Nat.le_trans xq.size i.size)) q
end
theorem DC(h:WW w B wb L N M rv qv bv cv)(hL:0<L.length)(a b c g:Int)(s:ByteArray)(ha:a<2\/64<a):
  Calls Tryz.prog 9 #[.pointer (some ⟨wb,0,none⟩),gX 1 a b c g s] w fun e w'=>ft w B wb L N M e w':=by
 have d:Hi ((w.alloc (.cells (eA 1 a b c g s) 34)).heap[w.heap.size]?=some (.cells (eA 1 a b c g s) 34 (0,0))):=af rfl _;have f:Hi (Fr Zero w (w.alloc (.cells (eA 1 a b c g s) 34))):=Fr.alloc _ _ _;have j:=ab (h.quiet f.o);clear h;unfold gX;unfold eA at d f j;go_enter Tryz.func9,Tryz.ntmps9;go_wp2_with fail;generalize w.alloc (.cells #[.int .i64 1,.int .i64 a,.int .i64 b,.int .i64 c,.int .i64 g,.string s] 34)=w0 at *;refine(CW a ha _).mono ?_;rintro e k ⟨rfl,i⟩;obtain rfl:=i.symm;have m:w0.cell? ⟨w.heap.size,1,none⟩=some (.int .i64 a):=(cell_of_heap (o:=1) d.o).trans rfl;go_wp2_with fail;refine(vT a ha _).mono ?_;rintro e k ⟨rfl,i⟩;obtain rfl:=i.symm;go_wp2_with fail;refine(da _ _).mono ?_;rintro e n ⟨rfl,l⟩;obtain rfl:=l.symm;go_wp2;go_ret;exact⟨rfl,f.o.dV,L,N,rv,qv,bv,cv,j.o.mono (Nat.le_succ _),Nat.le_succ _,hL,Nat.le_succ _,Nat.le_refl _⟩
theorem sW(h:WW w B wb L N M rv qv bv cv)(rW:L.length<=5000000)(n:Nat)(b c g:Int)(s:ByteArray)(h2:2<=n)(tj:n<=64):
  Calls Tryz.prog 9 #[.pointer (some ⟨wb,0,none⟩),gX 1 n b c g s] w fun e w'=>ft w B wb L N M e w':=by
 have G:Hi ((w.alloc (.cells (eA 1 n b c g s) 34)).heap[w.heap.size]?=some (.cells (eA 1 n b c g s) 34 (0,0))):=af rfl _;have HZ:Hi (Fr Zero w (w.alloc (.cells (eA 1 n b c g s) 34))):=Fr.alloc _ _ _;have H:=ab (h.quiet HZ.o);clear h;unfold gX;unfold eA at G HZ H;go_enter Tryz.func9,Tryz.ntmps9;go_wp2_with fail;generalize w.alloc (.cells #[.int .i64 1,.int .i64 n,.int .i64 b,.int .i64 c,.int .i64 g,.string s] 34)=w0 at *;refine(Fo n h2 tj _).mono ?_;rintro e q ⟨z,rfl,(l:Hi _),eU,aH,Y⟩;have ah:=ab (l.o.ae G.o (fun h=>h));have o1:q.cell? ⟨w.heap.size,1,none⟩=some (.int .i64 n):=(cell_of_heap (o:=1) ah.o).trans rfl;have ai:=ab eU;have aj:=ab Y;clear eU Y;go_wp2_with fail;refine(vU n h2 tj _).mono ?_;rintro e A ⟨rfl,(t:Hi _),Z⟩;have I:=ab Z;clear Z;go_wp2_with fail;refine(da _ _).mono ?_;rintro e w3 ⟨rfl,e3⟩;obtain rfl:=e3.symm;have J:=ab (H.o.quiet (l.o.trans t.o));have K:=ab (ai.o.ae t.o (fun _ _ _ _ _ _ h=>h));have am:Hi (PM A ⟨z,w0.heap.size+1,w0.heap.size,q.heap.size,jQ n,⟨n,[],0,false⟩⟩):=⟨K.o.1,⟨_,I.o⟩,dO.new n,Fit.new h2 tj⟩
 have O:Hi (∀ k,PX A ⟨z,w0.heap.size+1,w0.heap.size,q.heap.size,jQ n,⟨n,[],0,false⟩⟩ k->w0.heap.size<=k):=fun k hk=>by
  rcases hk with e|e
  ·exact aj.o k ((K.o.2 k).1 e)
  ·rcases QX.of I.o e with e|e
   ·rw[e];exact l.o.size
   ·simp[al] at e
 have an:Hi (∀ κ y,fj L N κ=some y->∀ k,PX A ⟨z,w0.heap.size+1,w0.heap.size,q.heap.size,jQ n,⟨n,[],0,false⟩⟩ k->¬TX A y k):=fun κ y hy k hk gg=>by
  have e1:=O.o k hk;have e3:=(((H.o.sep.each κ y hy).ae (l.o.trans t.o) (dR.zero _) (fun _ _ h=>h)).2 k).1 gg
  have:=(H.o.sep.each κ y hy).Iv e3
  omega
 generalize R:(⟨z,w0.heap.size+1,w0.heap.size,q.heap.size,jQ n,⟨n,[],0,false⟩⟩:RP)=P at *;have ao:P.sb=z:=by rw[<-R]
 have ap:P.qb=q.heap.size:=by rw[<-R]
 have aq:P.Q.fs.length=0:=by rw[<-R];rfl
 have ar:=ab (HZ.o.trans (l.o.trans t.o));have au:=H.o.size;have m:Hi (Fr Zero A (A.alloc (.cells #[.pointer (some ⟨z,0,none⟩)] 41))):=Fr.alloc _ _ _;have f:=ab (J.o.quiet m.o)
 have av:Hi (Src Tryz.prog 1 26 (.slice (some ⟨A.heap.size,0,none⟩) 1 1) 1 [jN P] (A.alloc (.cells #[.pointer (some ⟨z,0,none⟩)] 41))):=by
  have e:jN P=.pointer (some ⟨z,0,none⟩):=by unfold jN;rw[ao]
  rw[e];exact pz Tryz.underlying26 (af rfl _) rfl
 have a0:=J.o.dM;have a1:=J.o.cE;have aE:=J.o.lt;have aD:=f.o.lt;obtain⟨ra,rc,rfl⟩:=f.o.rs.len;obtain⟨qa,qc,rfl⟩:=f.o.qs.len;have HP:=ab R;clear R o1
 go_wp2_with (at_builtin;refine eE rfl (.tmp 47) (.tmp 49) 26 26 rfl Tryz.underlying26 G3 rfl 1 [jN P] rfl rfl f.o.rs av.o ?hl9 ?h639 ?_)
 case hl9=>omega
 case h639=>omega
 intro v4 d aa u ac;have i:cA d 41 1 v4 (L.length+1) (L.map jN++[jN P]):=aa;have a:d.heap[wb]?=_:=u.ae f.o.blk (fun e=>f.o.rs.ne f.o.blk (by decide) e)
 have S:Hi (cA d 39 1 (.slice qa L.length qc) L.length (L.map jO)):=f.o.qs.ae u (fun k hk e=>by
  obtain⟨c1,q1⟩:=f.o.qs.typed hk
  exact f.o.rs.ne q1 (by decide) e)
 have q0:d.cell? ⟨wb,0,none⟩=some (.slice ra L.length rc):=by rw[cell_of_heap a];rfl
 have aw:d.frozen? ⟨wb,0,none⟩=false:=ak a;have q1:d.cell? ⟨wb,1,none⟩=some (.slice qa L.length qc):=by rw[cell_of_heap a];rfl
 have ax:d.frozen? ⟨wb,1,none⟩=false:=ak a;have aF:=lt_of_heap a;obtain⟨E,F,rfl⟩:=i.len;have T:(d.setCell ⟨wb,0,none⟩ (.slice E (L.length+1) F)).heap[wb]?=_:=heap_setCell_same (o:=0) (v:=.slice E (L.length+1) F) a
 have ay:Hi (cA (d.setCell ⟨wb,0,none⟩ (.slice E (L.length+1) F)) 39 1 (.slice qa L.length qc) L.length (L.map jO)):=S.o.ae (Fr.setCell (One wb) d ⟨wb,0,none⟩ _ rfl) (fun k hk e=>by
  have e':k=wb:=e;rw[e'] at hk
  exact S.o.ne a (by decide) hk)
 have U:Hi (Fr Zero (d.setCell ⟨wb,0,none⟩ (.slice E (L.length+1) F)) ((d.setCell ⟨wb,0,none⟩ (.slice E (L.length+1) F)).alloc (.cells #[.pointer (some ⟨q.heap.size,0,none⟩)] 39))):=Fr.alloc _ _ _;have V:=ab (ay.o.ae U.o (fun _ _ h=>h));have W:=U.o.ae T (fun h=>h)
 have az:Hi (Src Tryz.prog 1 27 (.slice (some ⟨d.heap.size,0,none⟩) 1 1) 1 [jO P] ((d.setCell ⟨wb,0,none⟩ (.slice E (L.length+1) F)).alloc (.cells #[.pointer (some ⟨q.heap.size,0,none⟩)] 39))):=by
  have e:jO P=.pointer (some ⟨q.heap.size,0,none⟩):=by unfold jO;rw[ap]
  rw[e];exact pz Tryz.underlying27 (af (by simp) _) rfl
 have aA:=ab i;have aB:=ab u;have aC:=ab ac;have X:=ab W;clear aa i u ac a T W a0 a1
 go_wp2_with (at_builtin;refine eE rfl (.tmp 57) (.tmp 59) 27 27 rfl Tryz.underlying27 G4 rfl 1 [jO P] rfl rfl V.o az.o ?hl10 ?h6310 ?_)
 case hl10=>omega
 case h6310=>omega
 intro v7 w7 ad D ag;have j:cA w7 39 1 v7 (L.length+1) (L.map jO++[jO P]):=ad;have C:=D.ae X.o (fun e=>V.o.ne X.o (by decide) e);have r1:w7.cell? ⟨wb,1,none⟩=some (.slice qa L.length qc):=by rw[cell_of_heap C];rfl
 have aG:w7.frozen? ⟨wb,1,none⟩=false:=ak C;have HK:=ab (TM.ae (x:=.r P) am.o m.o (dR.zero _) (fun _ _ h=>h));have HW:=ab (f.o.push (p:=P) HK.o.1 (fun k hk=>Nat.le_trans au (O.o k ((HK.o.2 k).1 hk))) (fun κ y hy k hk gg=>an.o κ y hy k ((HK.o.2 k).1 hk) ((((J.o.sep.each κ y hy).ae m.o (dR.zero _) (fun _ _ h=>h)).2 k).1 gg)) (by rw[aq];exact Nat.zero_le _) aA.o aB.o (by simpa using aC.o) j ((Fr.alloc _ _ _).trans D) (fun k hk e=>ag k (by simp at hk ⊢;omega) e));obtain⟨ua,uc,rfl⟩:=j.len;clear ad j D ag C q0 aw q1 ax;go_wp2;go_ret;exact⟨rfl,(ar.o.trans m.o).dV.trans HW.o.2,L++[P],N,_,_,_,_,HW.o.1.mono (Nat.le_succ _),by simp,by simp,Nat.le_succ _,Nat.le_refl _⟩
theorem DD(h:WW w B wb L N M rv qv bv cv)(hL:0<L.length)(rW:L.length<=5000000)(a b c g:Int)(s:ByteArray):
  Calls Tryz.prog 9 #[.pointer (some ⟨wb,0,none⟩),gX 1 a b c g s] w fun e w'=>ft w B wb L N M e w':=by
 by_cases d:a<2\/64<a
 ·exact DC h hL a b c g s d
 ·obtain⟨n,rfl⟩:∃ n:Nat,a=n:=⟨a.toNat,by omega⟩;exact sW h rW n b c g s (by omega) (by omega)
theorem vG(a b c g:Int)(s:ByteArray)
  (hn:∀ w1,Fr Zero w w1->Calls Tryz.prog 9 #[.pointer (some ⟨wb,0,none⟩),gX 1 a b c g s] w1 fun e w'=>ft w1 B wb L N M e w') :
  Calls Tryz.prog 5 #[.pointer (some ⟨wb,0,none⟩),gX 1 a b c g s] w fun e w'=>e=.returned (.bool true)/\∃ w1,Fr Zero w w1/\ft w1 B wb L N M e w':=by
 have d:Hi (Fr Zero w (w.alloc (.cells (eA 1 a b c g s) 34))):=Fr.alloc _ _ _;have f:=ab (hn _ d.o);clear hn;unfold gX eA at f;unfold eA at d;unfold gX;go_enter Tryz.func5,Tryz.ntmps5;go_wp2_with fail;refine f.o.mono ?_;rintro e j ⟨rfl,h⟩;have i:=ab h;clear h;go_wp2;go_ret;exact⟨rfl,_,d.o,rfl,i.o⟩
theorem sy(Q:World->Ending->World->Prop)(hq:∀ w1 e w2,Q w1 e w2->e=.returned (.bool true))(a b c g:Int)(s:ByteArray)
  (hn:∀ w1,Fr Zero w w1->Calls Tryz.prog 9 #[.pointer (some ⟨wb,0,none⟩),gX 11 a b c g s] w1 fun e w'=>Q w1 e w') :
  Calls Tryz.prog 5 #[.pointer (some ⟨wb,0,none⟩),gX 11 a b c g s] w fun e w'=>e=.returned (.bool true)/\∃ w1,Fr Zero w w1/\Q w1 e w':=by
 have d:Hi (Fr Zero w (w.alloc (.cells (eA 11 a b c g s) 34))):=Fr.alloc _ _ _;have h:=ab (hn _ d.o);clear hn;unfold gX eA at h;unfold eA at d;unfold gX;go_enter Tryz.func5,Tryz.ntmps5;go_wp2_with fail;refine h.o.mono ?_;rintro e w2 f;obtain rfl:=hq _ _ _ f;have i:=ab f;clear f;go_wp2;go_ret;exact⟨rfl,_,d.o,i.o⟩
def ma(w:World)(B wb:Nat)(L:List RP)(N:List BP)(M:Nat)(c:Prop)(e:Ending)(w':World):Prop :=
 e=.returned (.bool true)/\Fr (bk B) w w'/\∃(L':List RP) (N':List BP) (pd vh qV vj:Value),WW w' B wb L' N' (M+1) pd vh qV vj/\L'.length<=L.length+1/\0<L'.length/\N'.length<=N.length+1/\N.length<=N'.length/\(c->0<N'.length)
theorem ma.drop{w':World}{c:Prop}{e:Ending}(h:ma w B wb L N M c e w'):ft w B wb L N M e w':=by
 obtain⟨a,b,L',N',pd,vh,qV,vj,d,f,g,i,j,_⟩:=h;exact⟨a,b,L',N',pd,vh,qV,vj,d,f,g,i,j⟩
theorem Bu(h:WW w B wb L N M rv qv bv cv)(hL:0<L.length)(a b c g:Int)(s:ByteArray)(ha:a<2\/64<a)(hs:s.size<=maxLen):
  Calls Tryz.prog 9 #[.pointer (some ⟨wb,0,none⟩),gX 11 a b c g s] w fun e w'=>ft w B wb L N M e w':=by
 have d:Hi ((w.alloc (.cells (eA 11 a b c g s) 34)).heap[w.heap.size]?=some (.cells (eA 11 a b c g s) 34 (0,0))):=af rfl _;have l:Hi (Fr Zero w (w.alloc (.cells (eA 11 a b c g s) 34))):=Fr.alloc _ _ _;have k:=ab (h.quiet l.o);clear h;unfold gX;unfold eA at d l k;go_enter Tryz.func9,Tryz.ntmps9;go_wp2_with fail;generalize w.alloc (.cells #[.int .i64 11,.int .i64 a,.int .i64 b,.int .i64 c,.int .i64 g,.string s] 34)=w0 at *;refine(yU s a ha _ k.o.wrd k.o.err hs).mono ?_;rintro e m ⟨(j:Hi _),rfl⟩;have f:=ab (j.o.ae d.o (fun h=>h));have p:m.cell? ⟨w.heap.size,1,none⟩=some (.int .i64 a):=(cell_of_heap (o:=1) f.o).trans rfl;have q:m.cell? ⟨w.heap.size,5,none⟩=some (.string s):=(cell_of_heap (o:=5) f.o).trans rfl;go_wp2_with fail;refine(Et s a ha _ hs).mono ?_;rintro e u ⟨ao,rfl⟩;have i:=ab (j.o.trans ao);clear ao;generalize (jD s).1=E at *;generalize (jD s).2=E2 at *;have r:((E2:Int)==(E2:Int))=true:=by simp
 have t:((E:Int)==(E:Int))=true:=by simp
 go_wp2_with fail;refine(da _ _).mono ?_;rintro e v ⟨rfl,n⟩;obtain rfl:=n.symm;go_wp2;go_ret;exact⟨rfl,(l.o.trans i.o).dV,L,N,rv,qv,bv,cv,(k.o.quiet i.o).mono (Nat.le_succ _),Nat.le_succ _,hL,Nat.le_succ _,Nat.le_refl _⟩
theorem qq(h:WW w B wb L N M rv qv bv cv)(hL:0<L.length)(rW:N.length<=5000000)(n:Nat)(b c g:Int)(s:ByteArray)(h2:2<=n)(tj:n<=64)(hs:s.size<=maxLen):
  Calls Tryz.prog 9 #[.pointer (some ⟨wb,0,none⟩),gX 11 n b c g s] w fun e w'=>ma w B wb L N M (aL s=(0,0)) e w':=by
 have K:Hi ((w.alloc (.cells (eA 11 n b c g s) 34)).heap[w.heap.size]?=some (.cells (eA 11 n b c g s) 34 (0,0))):=af rfl _;have HZ:Hi (Fr Zero w (w.alloc (.cells (eA 11 n b c g s) 34))):=Fr.alloc _ _ _;have A:=ab (h.quiet HZ.o);clear h;unfold gX;unfold eA at K HZ A;go_enter Tryz.func9,Tryz.ntmps9;go_wp2_with fail;generalize w.alloc (.cells #[.int .i64 11,.int .i64 n,.int .i64 b,.int .i64 c,.int .i64 g,.string s] 34)=w0 at *;refine(yV s n h2 tj _ A.o.wrd A.o.err hs).mono ?_;rintro e w1 ⟨(i:Hi _),q⟩;have O:=ab (i.o.ae K.o (fun h=>h));have o1:w1.cell? ⟨w.heap.size,1,none⟩=some (.int .i64 n):=(cell_of_heap (o:=1) O.o).trans rfl;have o5:w1.cell? ⟨w.heap.size,5,none⟩=some (.string s):=(cell_of_heap (o:=5) O.o).trans rfl;have H1:=ab (A.o.quiet i);have ax:=A.o.size;have aU:=A.o.gB;rcases q with⟨cF,rfl⟩|⟨H,WB,C,rb,yb,ad,rfl,aQ,aY,eU⟩
 ·have R:=ab cF;clear cF;go_wp2_with fail;refine(xG s n h2 tj _ hs).mono ?_;rintro e u ⟨ao,q⟩;rcases q with⟨_,rfl⟩|⟨H,_⟩
  ·have d:=ab ao;clear ao;generalize (aL s).1=E at *;generalize (aL s).2=E2 at *;have q1:((E2:Int)==(E2:Int))=true:=by simp
   have q2:((E:Int)==(E:Int))=true:=by simp
   go_wp2_with fail;refine(da _ _).mono ?_;rintro e w3 ⟨rfl,Y⟩;obtain rfl:=Y.symm;go_wp2;go_ret;exact⟨rfl,(HZ.o.trans (i.o.trans d.o)).dV,L,N,rv,qv,bv,cv,(H1.o.quiet d.o).mono (Nat.le_succ _),Nat.le_succ _,hL,Nat.le_succ _,Nat.le_refl _,fun H=>absurd H R.o⟩
  ·exact absurd H R.o
 have HC:=ab H;have S:=ab eU;have ay:Hi (∀ k,RX w1 rb yb k->w0.heap.size<=k):=fun k hk=>Nat.le_trans aQ (eU.x k hk)
 clear H eU;go_wp2_with fail;refine(xG s n h2 tj _ hs).mono ?_;rintro e u ⟨(d:Hi _),q⟩;rcases q with⟨cF,rfl⟩|⟨_,D,db,qb,rfl,aR,am,an,aT,ap,aq⟩
 ·exact absurd HC.o cF
 have T:=ab aq;have az:=ab an;have aA:=ab am;clear aq an am;go_wp2_with fail;refine(da _ _).mono ?_;rintro e w3 ⟨rfl,Y⟩;obtain rfl:=Y.symm;have U:=ab (H1.o.quiet d.o);obtain⟨aZ,a2⟩:=S.o.r;have V:=ab (S.o.ae d.o (dR.zero _) (fun _ _ h=>h));have W:=i.o.size
 have aB:Hi (me u ⟨WB,C,rb,yb,ad,iJ s,jQ n,D,db,qb,(bl (eT s)).2,(eT s).roots,⟨n,[],0,false⟩⟩):=by
  obtain⟨_,t2,_,t4⟩:=zJ (uP HC.o) HC.o;exact⟨V.o.1,aA.o,az.o,⟨_,T.o⟩,dO.new n,Fit.new h2 tj,⟨t2,ap,by show(bl (eT s)).2.length<=_;omega,t4,yh HC.o,CP s 12,⟨by show _<WB;omega,by show _<WB;omega⟩⟩⟩
 have X:Hi (∀ k,BX u ⟨WB,C,rb,yb,ad,iJ s,jQ n,D,db,qb,(bl (eT s)).2,(eT s).roots,⟨n,[],0,false⟩⟩ k->w0.heap.size<=k):=fun k hk=>by
  rcases hk with e|e
  ·exact ay.o k ((V.o.2 k).1 e)
  ·rcases QX.of T.o e with e|e
   ·rw[e];exact Nat.le_trans W aR
   ·simp[al] at e
 have aC:Hi (∀ κ y,fj L N κ=some y->∀ k,BX u ⟨WB,C,rb,yb,ad,iJ s,jQ n,D,db,qb,(bl (eT s)).2,(eT s).roots,⟨n,[],0,false⟩⟩ k->¬TX u y k):=fun κ y hy k hk gg=>by
  have e1:=X.o k hk;have Y:=(((A.o.sep.each κ y hy).ae (i.o.trans d.o) (dR.zero _) (fun _ _ h=>h)).2 k).1 gg
  have:=(A.o.sep.each κ y hy).Iv Y
  omega
 generalize Z:(⟨WB,C,rb,yb,ad,iJ s,jQ n,D,db,qb,(bl (eT s)).2,(eT s).roots,⟨n,[],0,false⟩⟩:BP)=P at *;have aD:P.bb=C:=by rw[<-Z]
 have aE:P.cb=D:=by rw[<-Z]
 have aF:P.Q.fs.length=0:=by rw[<-Z];rfl
 have aG:=ab (HZ.o.trans (i.o.trans d.o));have t:Hi (Fr Zero u (u.alloc (.cells #[.pointer (some ⟨C,0,none⟩)] 47))):=Fr.alloc _ _ _;have j:=ab (U.o.quiet t.o)
 have aH:Hi (Src Tryz.prog 1 28 (.slice (some ⟨u.heap.size,0,none⟩) 1 1) 1 [jU P] (u.alloc (.cells #[.pointer (some ⟨C,0,none⟩)] 47))):=by
  have e:jU P=.pointer (some ⟨C,0,none⟩):=by unfold jU;rw[aD]
  rw[e];exact pz Tryz.underlying28 (af rfl _) rfl
 have a0:=U.o.fM;have a1:=U.o.dw;have aV:=U.o.lt;have aS:=j.o.lt;obtain⟨ra,rc,rfl⟩:=j.o.bs.len;obtain⟨qa,qc,rfl⟩:=j.o.cs.len;have HP:=ab Z;clear Z o1 o5
 go_wp2_with (at_builtin;refine eE rfl (.tmp 103) (.tmp 105) 28 28 rfl Tryz.underlying28 G6 rfl 1 [jU P] rfl rfl j.o.bs aH.o ?hl9 ?h639 ?_)
 case hl9=>omega
 case h639=>omega
 intro v4 f ar z au;have l:cA f 47 1 v4 (N.length+1) (N.map jU++[jU P]):=ar;have a:f.heap[wb]?=_:=z.ae j.o.blk (fun e=>j.o.bs.ne j.o.blk (by decide) e)
 have aa:Hi (cA f 45 1 (.slice qa N.length qc) N.length (N.map jT)):=j.o.cs.ae z (fun k hk e=>by
  obtain⟨c1,q1⟩:=j.o.cs.typed hk
  exact j.o.bs.ne q1 (by decide) e)
 have q0:f.cell? ⟨wb,2,none⟩=some (.slice ra N.length rc):=by rw[cell_of_heap a];rfl
 have aI:f.frozen? ⟨wb,2,none⟩=false:=ak a;have q1:f.cell? ⟨wb,3,none⟩=some (.slice qa N.length qc):=by rw[cell_of_heap a];rfl
 have aJ:f.frozen? ⟨wb,3,none⟩=false:=ak a;have aW:=lt_of_heap a;obtain⟨I,J,rfl⟩:=l.len;have ac:(f.setCell ⟨wb,2,none⟩ (.slice I (N.length+1) J)).heap[wb]?=_:=heap_setCell_same (o:=2) (v:=.slice I (N.length+1) J) a
 have aK:Hi (cA (f.setCell ⟨wb,2,none⟩ (.slice I (N.length+1) J)) 45 1 (.slice qa N.length qc) N.length (N.map jT)):=aa.o.ae (Fr.setCell (One wb) f ⟨wb,2,none⟩ _ rfl) (fun k hk e=>by
  have e':k=wb:=e;rw[e'] at hk
  exact aa.o.ne a (by decide) hk)
 have ag:Hi (Fr Zero (f.setCell ⟨wb,2,none⟩ (.slice I (N.length+1) J)) ((f.setCell ⟨wb,2,none⟩ (.slice I (N.length+1) J)).alloc (.cells #[.pointer (some ⟨D,0,none⟩)] 45))):=Fr.alloc _ _ _;have ah:=ab (aK.o.ae ag.o (fun _ _ h=>h));have ai:=ag.o.ae ac (fun h=>h)
 have aM:Hi (Src Tryz.prog 1 29 (.slice (some ⟨f.heap.size,0,none⟩) 1 1) 1 [jT P] ((f.setCell ⟨wb,2,none⟩ (.slice I (N.length+1) J)).alloc (.cells #[.pointer (some ⟨D,0,none⟩)] 45))):=by
  have e:jT P=.pointer (some ⟨D,0,none⟩):=by unfold jT;rw[aE]
  rw[e];exact pz Tryz.underlying29 (af (by simp) _) rfl
 have aN:=ab l;have aO:=ab z;have aP:=ab au;have aj:=ab ai;clear ar l z au a ac ai a0 a1
 go_wp2_with (at_builtin;refine eE rfl (.tmp 113) (.tmp 115) 29 29 rfl Tryz.underlying29 G5 rfl 1 [jT P] rfl rfl ah.o aM.o ?hl10 ?h6310 ?_)
 case hl10=>omega
 case h6310=>omega
 intro v7 w7 av G aw;have m:cA w7 45 1 v7 (N.length+1) (N.map jT++[jT P]):=av;have F:=G.ae aj.o (fun e=>ah.o.ne aj.o (by decide) e);have r1:w7.cell? ⟨wb,3,none⟩=some (.slice qa N.length qc):=by rw[cell_of_heap F];rfl
 have aX:w7.frozen? ⟨wb,3,none⟩=false:=ak F;have HK:=ab (TM.ae (x:=.b P) aB.o t.o (dR.zero _) (fun _ _ h=>h));have HW:=ab (j.o.Iu (p:=P) HK.o.1 (fun k hk=>Nat.le_trans ax (X.o k ((HK.o.2 k).1 hk))) (fun κ y hy k hk gg=>aC.o κ y hy k ((HK.o.2 k).1 hk) ((((U.o.sep.each κ y hy).ae t.o (dR.zero _) (fun _ _ h=>h)).2 k).1 gg)) (by rw[aF];exact Nat.zero_le _) aN.o aO.o (by simpa using aP.o) m ((Fr.alloc _ _ _).trans G) (fun k hk e=>aw k (by simp at hk ⊢;omega) e));obtain⟨ua,uc,rfl⟩:=m.len;clear av m G aw F q0 aI q1 aJ;go_wp2;go_ret;exact⟨rfl,(aG.o.trans t.o).dV.trans HW.o.2,L,N++[P],_,_,_,_,HW.o.1.mono (Nat.le_succ _),Nat.le_succ _,hL,by simp,by simp,fun _=>by simp⟩
theorem Bv(h:WW w B wb L N M rv qv bv cv)(hL:0<L.length)(rW:N.length<=5000000)(a b c g:Int)(s:ByteArray)(hs:s.size<=maxLen):
  Calls Tryz.prog 9 #[.pointer (some ⟨wb,0,none⟩),gX 11 a b c g s] w fun e w'=>ft w B wb L N M e w':=by
 by_cases d:a<2\/64<a
 ·exact Bu h hL a b c g s d hs
 ·obtain⟨n,rfl⟩:∃ n:Nat,a=n:=⟨a.toNat,by omega⟩;exact(qq h hL rW n b c g s (by omega) (by omega) hs).mono (fun _ _ hh=>hh.drop)
theorem ja(h:WW w B wb L N M rv qv bv cv)(hL:0<L.length)(rW:L.length<=5000000)(hN:0<N.length)(Hg:N.length<=5000000)(hM:M<=4000000)(k a b c g:Int)(s:ByteArray)(ho:iH k a b c g s)(hs:s.size<=1048576):
  Calls Tryz.prog 5 #[.pointer (some ⟨wb,0,none⟩),gX k a b c g s] w fun e w'=>ft w B wb L N M e w':=by
 by_cases j:k=1
 ·subst j
  exact(vG a b c g s (fun i d=>DD (h.quiet d) hL rW a b c g s)).mono (fun e w' hh=>by
   obtain⟨_,i,d,hs⟩:=hh
   exact⟨hs.1,d.dV.trans hs.2.1,hs.2.2⟩)
 by_cases f:k=11
 ·subst f
  exact(sy (fun i e w'=>ft i B wb L N M e w') (fun _ _ _ h=>h.1) a b c g s (fun i d=>Bv (h.quiet d) hL Hg a b c g s (by unfold maxLen;omega))).mono (fun e w' hh=>by
   obtain⟨_,i,d,hs⟩:=hh
   exact⟨hs.1,d.dV.trans hs.2.1,hs.2.2⟩)
 by_cases gg:k<11
 ·exact AW h hL rW hM k a b c g s ho j gg
 ·exact CU h hL hN Hg hM k a b c g s ho (by omega) hs
theorem WW.rows(h:WW w B wb L N M rv qv bv cv){i:Nat}{p:RP}(hp:L[i]?=some p):∃ fb fo fc gb go gc,rv=.slice (some ⟨fb,fo,none⟩) L.length fc/\qv=.slice (some ⟨gb,go,none⟩) L.length gc/\w.cell? ⟨fb,fo+i,none⟩=some (.pointer (some ⟨p.sb,0,none⟩))/\w.cell? ⟨gb,go+i,none⟩=some (.pointer (some ⟨p.qb,0,none⟩)):=by
 obtain⟨fb,fo,fc,c,a⟩:=h.rs.at_ (j:=i) (u:=jN p) (by rw[List.getElem?_map,hp];rfl);obtain⟨gb,go,gc,d,b⟩:=h.qs.at_ (j:=i) (u:=jO p) (by rw[List.getElem?_map,hp];rfl);exact⟨fb,fo,fc,gb,go,gc,c,d,a,b⟩
theorem WW.EY(h:WW w B wb L N M rv qv bv cv){i:Nat}{p:BP}(hp:N[i]?=some p):∃ fb fo fc gb go gc,bv=.slice (some ⟨fb,fo,none⟩) N.length fc/\cv=.slice (some ⟨gb,go,none⟩) N.length gc/\w.cell? ⟨fb,fo+i,none⟩=some (.pointer (some ⟨p.bb,0,none⟩))/\w.cell? ⟨gb,go+i,none⟩=some (.pointer (some ⟨p.cb,0,none⟩)):=by
 obtain⟨fb,fo,fc,c,a⟩:=h.bs.at_ (j:=i) (u:=jU p) (by rw[List.getElem?_map,hp];rfl);obtain⟨gb,go,gc,d,b⟩:=h.cs.at_ (j:=i) (u:=jT p) (by rw[List.getElem?_map,hp];rfl);exact⟨fb,fo,fc,gb,go,gc,c,d,a,b⟩
theorem sj(h:WW w B wb L N M rv qv bv cv)(hM:M<=5000000)(_hL2:L.length<=5000000)(i:Nat)(hi:i<L.length):
  Calls Tryz.prog 6 #[.pointer (some ⟨wb,0,none⟩),.int .i64 i] w fun e w'=>e=.returned (.bool true)/\Fr Zero w w':=by
 obtain⟨p,n⟩:∃ p,L[i]?=some p:=⟨_,List.getElem?_eq_getElem hi⟩;have g:=ab (h.each i p n);have jq:=h.lens i p n;obtain⟨y,z,I,Z,go,gc,rfl,rfl,b,d⟩:=h.rows n;have H:=ab h;have C:=h.dM;have V:=h.cE;have r:=h.lt;have jt:=World.block_lt_of_cell? _ _ b;have D:=World.block_lt_of_cell? _ _ d;have E:(i:Int)<(L.length:Int):=by omega
 clear h n;go_enter Tryz.func6,Tryz.ntmps6;go_wp2_with fail;refine(sJ g.o (by omega) 0 0 0 0 ⟨#[]⟩).mono ?_;rintro e w1 ⟨rfl,(k:Hi _)⟩;go_wp2
 go_loopw [6,7] (fun ov iv wr=>∃ j:Nat,j<=p.Q.fs.length/\ov=.bool true/\iv=.int .i64 j/\Hi (Fr Zero w wr)) (fun _ iv _=>p.Q.fs.length-(intOf iv).toNat)
 case atStart=>exact⟨0,by omega,rfl,rfl,k⟩
 case round =>
  clear k;obtain⟨j,hj,rfl,rfl,l⟩:=hrel;have c:=ab (g.o.quiet l.o);obtain⟨fq,m⟩:=c.o.1.rq;have W:=m.cE;have X:wr.cell? ⟨wb,0,none⟩=some (.slice (some ⟨y,z,none⟩) L.length I):=(l.o.cell (a:=⟨wb,0,none⟩) r (fun h=>h)).trans C;have Y:wr.cell? ⟨y,z+i,none⟩=some (.pointer (some ⟨p.sb,0,none⟩)):=(l.o.cell (a:=⟨y,z+i,none⟩) jt (fun h=>h)).trans b;obtain⟨J,K,rfl⟩:=m.f.len
  by_cases s:j<p.Q.fs.length
  ·have F:(j:Int)<(p.Q.fs.length:Int):=by omega
   obtain⟨f,A⟩:∃ f,p.Q.fs[j]?=some f:=⟨_,List.getElem?_eq_getElem s⟩;obtain⟨O,P,R,q,c0,T,U,_⟩:=m.frame A;obtain⟨rfl,_,rfl⟩:J=some ⟨O,P,none⟩/\True/\K=R:=by simp at q;exact⟨q.1,trivial,q.2⟩
   have t:=c.o.1.same.short f (List.mem_of_getElem? A);have dJ:=aI f.bytes;generalize ba f.bytes=S at *;have G:S.size<=1000:=by omega
   have u:Hi (iH 4 ((j:Int)+1) 0 (S.size:Int) 0 ⟨#[]⟩):=⟨by omega,by omega,by omega,by omega,by omega,by omega,by omega,by omega,by omega,by omega,by show(0:Nat)<=_;omega⟩;clear A q m T U dJ t;go_wp2_with fail;refine(sI c.o.1 (by omega) ((j:Int)+1) 0 (S.size:Int) 0 ⟨#[]⟩ u.o).mono ?_;rintro e w2 ⟨rfl,ao⟩;have v:=ab (l.o.trans ao);clear ao;go_wp2;exact⟨⟨j+1,by omega,rfl,by go_num,v⟩,by simp[intOf];omega⟩
  ·have x:j=p.Q.fs.length:=by omega
   subst x;have F:¬(p.Q.fs.length:Int)<(p.Q.fs.length:Int):=by omega
   clear m;go_wp2;go_ret;exact⟨rfl,l⟩
theorem WW.start(w:World)(hP:ey w)(hW:Words w)(hE:m8 w):WW (w.alloc (.cells #[.slice none 0 0,.slice none 0 0,.slice none 0 0,.slice none 0 0] 31)) w.heap.size w.heap.size [] [] 0 (.slice none 0 0) (.slice none 0 0) (.slice none 0 0) (.slice none 0 0):=by
 have a:∀ κ x,fj [] [] κ=some x->False:=fun κ x h=>by
  rcases κ with⟨_|_,j⟩<;>simp[fj] at h
 have b:∀ g,al (.slice none 0 0)=some g->w.heap.size<=g:=fun g h=>by simp[al] at h
 have c:Fr Zero w (w.alloc (.cells #[.slice none 0 0,.slice none 0 0,.slice none 0 0,.slice none 0 0] 31)):=Fr.alloc _ _ _;exact⟨af rfl _,cA.nil _ _ _,cA.nil _ _ _,cA.nil _ _ _,cA.nil _ _ _,b,b,b,b,Nat.le_refl _,⟨fun κ x h=>(a κ x h).elim,fun κ _ x _ h=>(a κ x h).elim,fun κ x h=>(a κ x h).elim,fun κ x h=>(a κ x h).elim⟩,hP.ae c (fun h=>h),hW.ae c (fun h=>h),hE.ae c (fun h=>h),⟨hW.one,hP.lt⟩⟩
def nW(w:World)(o:Option Addr)(n:Nat):Prop:=∀ i,i<n->∃(b off:Nat) (k a b' c g:Int) (s:ByteArray),o=some ⟨b,off,none⟩/\w.cell? ⟨b,off+i*6,none⟩=some (.int .i64 k)/\w.cell? ⟨b,off+i*6+1,none⟩=some (.int .i64 a)/\w.cell? ⟨b,off+i*6+2,none⟩=some (.int .i64 b')/\w.cell? ⟨b,off+i*6+3,none⟩=some (.int .i64 c)/\w.cell? ⟨b,off+i*6+4,none⟩=some (.int .i64 g)/\w.cell? ⟨b,off+i*6+5,none⟩=some (.string s)/\iH k a b' c g s/\s.size<=1048576
def ud:ByteArray:=⟨#[109,61,123,105,100,58,115,104,111,114,116,44,116,97,103,58,116,101,120,116,44,111,110,58,63,98,111,111,108,125]⟩
theorem Dq:aL ud=(0,0):=by decide +kernel
theorem Bj(w:World)(hW:Words w)(hE:m8 w)(hP:ey w)(o:Option Addr)(n c:Nat)(hS:nW w o n)(hn:n<=2000000):
  Calls Tryz.prog 4 #[.slice o n c,.bool true] w fun e w'=>e=.returned (.bool true)/\Fr Zero w w':=by
 have HS:=ab hS;have HZ:Hi (Fr Zero w (w.alloc (.cells #[.slice none 0 0,.slice none 0 0,.slice none 0 0,.slice none 0 0] 31))):=Fr.alloc _ _ _;have H0:=ab (WW.start w hP hW hE);have aQ:=ab Dq;go_enter Tryz.func4,Tryz.ntmps4;go_wp2_with fail;generalize w.alloc (.cells #[.slice none 0 0,.slice none 0 0,.slice none 0 0,.slice none 0 0] 31)=w0 at *;refine(vG (B:=w.heap.size) (wb:=w.heap.size) (M:=0) (L:=[]) (N:=[]) 4 0 0 0 ⟨#[]⟩ (fun w1 hf=>sW (H0.o.quiet hf) (by simp) 4 0 0 0 ⟨#[]⟩ (by omega) (by omega))).mono ?_;rintro e w1 ⟨rfl,wx,P,_,xq,L1,N1,bd,be,bf,bg,aI,a5,a6,eQ,_⟩;have aD:=ab (HZ.o.past (P.dV.trans xq));have aE:=ab aI;simp only[List.length_nil] at a5 eQ;go_wp2_with fail;refine(sy (fun w2 e w'=>ma w2 w.heap.size w.heap.size L1 N1 1 (aL ud=(0,0)) e w') (fun _ _ _ h=>h.1) 4 0 0 0 ud (fun w2 hf=>qq (aE.o.quiet hf) a6 (by omega) 4 0 0 0 ud (by omega) (by omega) (by decide))).mono ?_;rintro e w2 ⟨rfl,wx,P,_,lh,L2,N2,ag,ah,ai,aj,aa,ac,ak,ka,_,ay⟩;have O:=ab (aD.o.past (P.dV.trans lh));have F:=ab aa;have iD:=ay aQ.o;go_wp2_with fail
 go_loopw [6,7] (fun ov iv wr=>∃(i:Nat) (L:List RP) (N:List BP) (rv qv bv cv:Value),i<=n/\ov=.bool true/\iv=.int .i64 i/\L.length<=i+2/\0<L.length/\N.length<=i+2/\0<N.length/\Hi (WW wr w.heap.size w.heap.size L N (i+2) rv qv bv cv)/\Hi (Fr Zero w wr)) (fun _ iv _=>n-(intOf iv).toNat)
 case atStart=>exact⟨0,L2,N2,ag,ah,ai,aj,by omega,rfl,rfl,by omega,ak,by omega,iD,F,O⟩
 case round =>
  obtain⟨i,L,N,rv,qv,bv,cv,hi,rfl,rfl,bh,IB,bi,aJ,v,D⟩:=hrel
  by_cases aR:i<n
  ·have hI:(i:Int)<(n:Int):=by omega
   obtain⟨b,ae,k,a,b',c',g,s,rfl,c0,c1,c2,c3,c4,c5,dq,aK⟩:=HS.o i aR;have kV:=World.block_lt_of_cell? _ _ c0;replace c0:=(D.o.cell (a:=⟨b,ae+i*6,none⟩) kV (fun h=>h)).trans c0;replace c1:=(D.o.cell (a:=⟨b,ae+i*6+1,none⟩) kV (fun h=>h)).trans c1;replace c2:=(D.o.cell (a:=⟨b,ae+i*6+2,none⟩) kV (fun h=>h)).trans c2;replace c3:=(D.o.cell (a:=⟨b,ae+i*6+3,none⟩) kV (fun h=>h)).trans c3;replace c4:=(D.o.cell (a:=⟨b,ae+i*6+4,none⟩) kV (fun h=>h)).trans c4;replace c5:=(D.o.cell (a:=⟨b,ae+i*6+5,none⟩) kV (fun h=>h)).trans c5;have V:=ab dq
   by_cases hk:k<11
   ·go_wp2_with fail;refine(ja v.o IB (by omega) aJ (by omega) (by omega) k a b' c' g s V.o aK).mono ?_;rintro e w2 ⟨rfl,lh,L2,N2,ag,ah,ai,aj,aa,ac,ak,ka,aw⟩;have O:=ab (D.o.past lh);have F:=ab aa;go_wp2_with fail;exact⟨⟨i+1,L2,N2,ag,ah,ai,aj,by omega,rfl,by go_num,by omega,ak,by omega,by omega,F,O⟩,by simp[intOf];omega⟩
   ·have BT:decide (k<11)=false:=decide_eq_false hk;go_wp2_with fail;refine(ja v.o IB (by omega) aJ (by omega) (by omega) k a b' c' g s V.o aK).mono ?_;rintro e w2 ⟨rfl,lh,L2,N2,ag,ah,ai,aj,aa,ac,ak,ka,aw⟩;have O:=ab (D.o.past lh);have F:=ab aa;go_wp2_with fail;exact⟨⟨i+1,L2,N2,ag,ah,ai,aj,by omega,rfl,by go_num,by omega,ak,by omega,by omega,F,O⟩,by simp[intOf];omega⟩
  ·have aS:i=n:=by omega
   subst aS;have hI:¬(i:Int)<(i:Int):=by omega
   go_wp2_with fail
   go_loopw [6,8] (fun ov iv wr=>∃(k:Nat) (L2:List RP),k<=L.length/\ov=.bool true/\iv=.int .i64 k/\L2.length=L.length/\Hi (WW wr w.heap.size w.heap.size L2 N (i+2) rv qv bv cv)/\Hi (Fr Zero w wr)) (fun _ iv _=>L.length-(intOf iv).toNat)
   case atStart=>exact⟨0,L,by omega,rfl,rfl,rfl,v,D⟩
   case round =>
    obtain⟨k,L2,hk,rfl,rfl,ac,v,D⟩:=hrel;have a0:=v.o.dM;have a1:=v.o.cE;have a2:=v.o.fM;obtain⟨ra,rc,aM⟩:=v.o.rs.len;rw[ac] at aM;subst aM
    by_cases a8:k<L.length
    ·have aT:(k:Int)<(L.length:Int):=by omega
     go_wp2_with fail;refine(sj v.o (by omega) (by omega) k (by omega)).mono ?_;rintro e w2 ⟨rfl,ao⟩;have O:=ab (D.o.trans ao);have F:=ab (v.o.quiet ao);obtain⟨p,hp⟩:∃ p,L2[k]?=some p:=⟨_,List.getElem?_eq_getElem (by omega)⟩;have jq:=F.o.lens k p hp;obtain⟨t,A,fc,y,E,gc,e1,rfl,d,l⟩:=F.o.rows hp;obtain⟨rfl,rfl⟩:ra=some ⟨t,A,none⟩/\rc=fc:=by simp at e1;exact⟨e1.1,e1.2.2⟩
     obtain⟨fq,hq⟩:=(F.o.each k p hp).rq;have k1:=hq.cE;obtain⟨qa,qc,rfl⟩:=hq.f.len;have J:=F.o.cE;rw[ac] at J;go_wp2_with fail
     go_loopw [6,10] (fun ov jv wr=>∃(j:Nat) (L3:List RP),j<=p.Q.fs.length+1/\ov=.bool true/\jv=.int .i64 j/\L3.length=L.length/\Hi (WW wr w.heap.size w.heap.size L3 N (i+2) (.slice (some ⟨t,A,none⟩) L.length rc) (.slice (some ⟨y,E,none⟩) L2.length gc) bv cv)/\Hi (Fr Zero w wr)) (fun _ jv _=>p.Q.fs.length+1-(intOf jv).toNat)
     case atStart=>exact⟨0,L2,by omega,rfl,rfl,ac,F,O⟩
     case round =>
      obtain⟨j,L3,hj,rfl,rfl,aN,v,D⟩:=hrel
      by_cases aU:j<p.Q.fs.length+1
      ·have aV:(j:Int)<(p.Q.fs.length:Int)+1:=by omega
       obtain⟨u,z⟩:∃ u,L3[k]?=some u:=⟨_,List.getElem?_eq_getElem (by omega)⟩;have m:=ab (v.o.quiet (Fr.drew Zero wr));obtain⟨am,an,ap,aq,ar,au,e3,e4,d,l⟩:=m.o.rows z;obtain⟨⟨rfl,rfl⟩,_,rfl⟩:(t=am/\A=an)/\True/\rc=ap:=by simp at e3;exact⟨e3.1,trivial,e3.2.2⟩
       obtain⟨⟨rfl,rfl⟩,_,rfl⟩:(y=aq/\E=ar)/\True/\gc=au:=by simp at e4;exact⟨e4.1,trivial,e4.2.2⟩
       have U:=m.o.dM;have J:=m.o.cE;rw[ac] at J;have HI:=ab z;have I:=m.o.each k u z;have ad:=ab I;have ax:=m.o.lens k u z;have jt:=World.block_lt_of_cell? _ _ d;have X:=World.block_lt_of_cell? _ _ l;have H:=m.o.lt
       have P:Hi (¬PX wr.drew u t):=by
        obtain⟨cu,ce⟩:=m.o.rs.typed (g:=t) (by simp[al]);exact I.eh ce (by decide) (by decide) (by decide) (by decide) (by decide)
       have az:Hi (¬PX wr.drew u y):=by
        obtain⟨cu,ce⟩:=m.o.qs.typed (g:=y) (by simp[al]);exact I.eh ce (by decide) (by decide) (by decide) (by decide) (by decide)
       have af:Hi (¬PX wr.drew u w.heap.size):=I.eh m.o.blk (by decide) (by decide) (by decide) (by decide) (by decide);have V:Hi (iH 3 0 0 0 0 ⟨#[]⟩):=⟨by omega,by omega,by omega,by omega,by omega,by omega,by omega,by omega,by omega,by omega,by show(0:Nat)<=_;omega⟩;have R:=ab (D.o.trans (Fr.drew Zero wr));go_wp2_with fail;refine wp_region_held_drew (S:=fun W=>W.cell? ⟨w.heap.size,0,none⟩=some (.slice (some ⟨t,A,none⟩) L.length rc)/\W.cell? ⟨w.heap.size,1,none⟩=some (.slice (some ⟨y,E,none⟩) L.length gc)/\W.cell? ⟨t,A+k,none⟩=some (.pointer (some ⟨u.sb,0,none⟩))/\W.cell? ⟨y,E+k,none⟩=some (.pointer (some ⟨u.qb,0,none⟩))) (by kernel_rfl) ⟨U,J,d,l⟩ (fun hT=>?_);generalize wr.drew=w3 at *;refine wt 0 ⟨U,J,d,l⟩ ?_
       refine wt 1 ⟨U,J,d,l⟩ ?_
       refine wt 2 ⟨U,J,d,l⟩ ?_
       refine wt 3 ⟨U,J,d,l⟩ ?_
       refine wt 4 ⟨U,J,d,l⟩ ?_
       refine wt 5 ⟨U,J,d,l⟩ ?_
       refine wt 6 ⟨U,J,d,l⟩ ?_
       refine wt 7 ⟨U,J,d,l⟩ ?_
       refine wt 8 ⟨U,J,d,l⟩ ?_
       refine wt 9 ⟨U,J,d,l⟩ ?_
       refine wt 10 ⟨U,J,d,l⟩ ?_
       refine wt 11 ⟨U,J,d,l⟩ ?_
       refine wt 12 ⟨U,J,d,l⟩ ?_
       refine wt 13 ⟨U,J,d,l⟩ ?_
       refine wt 14 ⟨U,J,d,l⟩ ?_
       refine wpAnyH_ready (rs:=[15]) (by kernel_rfl) (by simp) ?_;refine wc 15 (fun K hK=>?_) AllReadyH.nil
       go_simp
       refine(yu ad.o (by omega) 0 0 0 0 ⟨#[]⟩ V.o).mono ?_;rintro e T ⟨rfl,p',av,G,aO⟩;have HN:=ab (m.o.step (M':=i+2) HI.o av G (Nat.le_refl _) (by omega));have y0:T.cell? ⟨w.heap.size,0,none⟩=some (.slice (some ⟨t,A,none⟩) L.length rc):=(G.fr.cell (a:=⟨w.heap.size,0,none⟩) H af.o).trans U;have y1:T.cell? ⟨w.heap.size,1,none⟩=some (.slice (some ⟨y,E,none⟩) L.length gc):=(G.fr.cell (a:=⟨w.heap.size,1,none⟩) H af.o).trans J;have y2:T.cell? ⟨t,A+k,none⟩=some (.pointer (some ⟨u.sb,0,none⟩)):=(G.fr.cell (a:=⟨t,A+k,none⟩) jt P.o).trans d;have y3:T.cell? ⟨y,E+k,none⟩=some (.pointer (some ⟨u.qb,0,none⟩)):=(G.fr.cell (a:=⟨y,E+k,none⟩) X az.o).trans l;go_wp2_with fail;refine hK.out _ _ ⟨y0,y1,y2,y3⟩ (fun _=>?_)
       refine wt 16 ⟨y0,y1,y2,y3⟩ ?_
       refine wpAnyH_done (by kernel_rfl) ?_ _;have Y:=ab (R.o.past HN.o.2);have Z:=ab HN.o.1;go_wp2_with fail;exact⟨⟨j+1,L3.set k p',by omega,rfl,by go_num,by rw[List.length_set];exact aN,Z,Y⟩,by simp[intOf];omega⟩
      ·have aW:j=p.Q.fs.length+1:=by omega
       subst aW;have aV:¬((p.Q.fs.length:Int)+1)<(p.Q.fs.length:Int)+1:=by omega
       have aF:¬(((p.Q.fs.length+1:Nat):Int))<(p.Q.fs.length:Int)+1:=by omega
       go_wp2_with fail;refine(sj v.o (by omega) (by omega) k (by omega)).mono ?_;rintro e w5 ⟨rfl,aC⟩;have aX:=ab (D.o.trans aC);have aY:=ab (v.o.quiet aC);go_wp2_with fail;exact⟨⟨k+1,L3,by omega,rfl,by go_num,aN,aY,aX⟩,by simp[intOf];omega⟩
    ·have aA:k=L.length:=by omega
     subst aA;have aT:¬(L.length:Int)<(L.length:Int):=by omega
     go_wp2_with fail
     go_loopw [6,11] (fun ov iv wr=>∃(k:Nat) (N2:List BP),k<=N.length/\ov=.bool true/\iv=.int .i64 k/\N2.length=N.length/\Hi (WW wr w.heap.size w.heap.size L2 N2 (i+2) (.slice ra L.length rc) qv bv cv)/\Hi (Fr Zero w wr)) (fun _ iv _=>N.length-(intOf iv).toNat)
     case atStart=>exact⟨0,N,by omega,rfl,rfl,rfl,v,D⟩
     case round =>
      obtain⟨k,N2,hk,rfl,rfl,ka,v,D⟩:=hrel;have a2:=v.o.fM;have a3:=v.o.dw;obtain⟨ba,bc,aP⟩:=v.o.bs.len;rw[ka] at aP;subst aP
      by_cases a9:k<N.length
      ·have aF:(k:Int)<(N.length:Int):=by omega
       obtain⟨p,hp⟩:∃ p,N2[k]?=some p:=⟨_,List.getElem?_eq_getElem (by omega)⟩;have HI:=ab hp;obtain⟨t,A,fc,y,E,gc,e1,rfl,d,l⟩:=v.o.EY hp;obtain⟨rfl,rfl⟩:ba=some ⟨t,A,none⟩/\bc=fc:=by simp at e1;exact⟨e1.1,e1.2.2⟩
       have aB:=v.o.x6 k p hp;have jq:=v.o.Av k p hp;obtain⟨fq,hq⟩:=aB.rq;have g1:wr.cell? ⟨p.cb,1,none⟩=some (.pointer (some ⟨p.qb,0,none⟩)):=by rw[cell_of_heap aB.c];rfl
       have k1:=hq.cE;obtain⟨qa,qc,rfl⟩:=hq.f.len;rw[ka] at a3;have m:=ab (v.o.quiet (Fr.drew Zero wr));have R:=ab (D.o.trans (Fr.drew Zero wr));have r:wr.drew.cell? ⟨w.heap.size,2,none⟩=some (.slice (some ⟨t,A,none⟩) N.length bc):=a2;have q:wr.drew.cell? ⟨w.heap.size,3,none⟩=some (.slice (some ⟨y,E,none⟩) N.length gc):=a3;have aG:=ab (m.o.x6 k p hp);have jt:t<wr.drew.heap.size:=World.block_lt_of_cell? _ _ d;have X:y<wr.drew.heap.size:=World.block_lt_of_cell? _ _ l;have H:w.heap.size<wr.drew.heap.size:=m.o.lt;have V:Hi (∀ j:Nat,j<=100000000->iH 18 0 0 0 0 ⟨#[]⟩/\iH 14 0 0 0 0 ⟨#[]⟩/\iH 15 (j:Int) 0 0 0 ⟨#[]⟩):=fun j hj=>⟨⟨by omega,by omega,by omega,by omega,by omega,by omega,by omega,by omega,by omega,by omega,by show(0:Nat)<=_;omega⟩,⟨by omega,by omega,by omega,by omega,by omega,by omega,by omega,by omega,by omega,by omega,by show(0:Nat)<=_;omega⟩,⟨by omega,by omega,by omega,by omega,by omega,by omega,by omega,by omega,by omega,by omega,by show(0:Nat)<=_;omega⟩⟩
       go_wp2_with fail;replace d:wr.drew.cell? ⟨t,A+k,none⟩=some (.pointer (some ⟨p.bb,0,none⟩)):=d;replace l:wr.drew.cell? ⟨y,E+k,none⟩=some (.pointer (some ⟨p.cb,0,none⟩)):=l;refine wp_region_held_drew (S:=fun W=>W.cell? ⟨w.heap.size,2,none⟩=some (.slice (some ⟨t,A,none⟩) N.length bc)/\W.cell? ⟨w.heap.size,3,none⟩=some (.slice (some ⟨y,E,none⟩) N.length gc)/\W.cell? ⟨t,A+k,none⟩=some (.pointer (some ⟨p.bb,0,none⟩))/\W.cell? ⟨y,E+k,none⟩=some (.pointer (some ⟨p.cb,0,none⟩))) (by kernel_rfl) ⟨r,q,d,l⟩ (fun hT=>?_);generalize wr.drew=w3 at *;refine wt 0 ⟨r,q,d,l⟩ ?_
       refine wt 1 ⟨r,q,d,l⟩ ?_
       refine wt 2 ⟨r,q,d,l⟩ ?_
       refine wt 3 ⟨r,q,d,l⟩ ?_
       refine wt 4 ⟨r,q,d,l⟩ ?_
       refine wt 5 ⟨r,q,d,l⟩ ?_
       refine wt 6 ⟨r,q,d,l⟩ ?_
       refine wt 7 ⟨r,q,d,l⟩ ?_
       refine wt 8 ⟨r,q,d,l⟩ ?_
       refine wt 9 ⟨r,q,d,l⟩ ?_
       refine wt 10 ⟨r,q,d,l⟩ ?_
       refine wt 11 ⟨r,q,d,l⟩ ?_
       refine wt 12 ⟨r,q,d,l⟩ ?_
       refine wt 13 ⟨r,q,d,l⟩ ?_
       refine wt 14 ⟨r,q,d,l⟩ ?_
       refine wpAnyH_ready (rs:=[15]) (by kernel_rfl) (by simp) ?_;refine wc 15 (fun K hK=>?_) AllReadyH.nil
       go_simp
       refine(xK aG.o m.o.pow (by omega) 0 0 0 0 ⟨#[]⟩ (V.o 0 (by omega)).1 (by decide)).mono ?_;rintro e T ⟨rfl,C⟩;have Z:=ab (m.o.quiet C);have Y:=ab (R.o.trans C);have y2:T.cell? ⟨w.heap.size,2,none⟩=some (.slice (some ⟨t,A,none⟩) N.length bc):=(C.cell (a:=⟨w.heap.size,2,none⟩) H (fun h=>h)).trans r;have y3:T.cell? ⟨w.heap.size,3,none⟩=some (.slice (some ⟨y,E,none⟩) N.length gc):=(C.cell (a:=⟨w.heap.size,3,none⟩) H (fun h=>h)).trans q;have y4:T.cell? ⟨t,A+k,none⟩=some (.pointer (some ⟨p.bb,0,none⟩)):=(C.cell (a:=⟨t,A+k,none⟩) jt (fun h=>h)).trans d;have y5:T.cell? ⟨y,E+k,none⟩=some (.pointer (some ⟨p.cb,0,none⟩)):=(C.cell (a:=⟨y,E+k,none⟩) X (fun h=>h)).trans l;go_wp2_with fail;refine hK.out _ _ ⟨y2,y3,y4,y5⟩ (fun _=>?_)
       refine wt 16 ⟨y2,y3,y4,y5⟩ ?_
       refine wpAnyH_done (by kernel_rfl) ?_ _;go_wp2_with fail
       go_loopw [6,13] (fun ov jv wr=>∃(j:Nat) (N3:List BP),j<=p.Q.fs.length+1/\ov=.bool true/\jv=.int .i64 j/\N3.length=N.length/\Hi (WW wr w.heap.size w.heap.size L2 N3 (i+2) (.slice ra L.length rc) qv (.slice (some ⟨t,A,none⟩) N.length bc) (.slice (some ⟨y,E,none⟩) N2.length gc))/\Hi (Fr Zero w wr)) (fun _ jv _=>p.Q.fs.length+1-(intOf jv).toNat)
       case atStart=>exact⟨0,N2,by omega,rfl,rfl,ka,Z,Y⟩
       case round =>
        obtain⟨j,N3,hj,rfl,rfl,aw,v,D⟩:=hrel
        by_cases aU:j<=p.Q.fs.length
        ·have aH:(j:Int)<=(p.Q.fs.length:Int):=by omega
         obtain⟨u,z⟩:∃ u,N3[k]?=some u:=⟨_,List.getElem?_eq_getElem (by omega)⟩;have aZ:=ab z;have m:=ab (v.o.quiet (Fr.drew Zero wr));have R:=ab (D.o.trans (Fr.drew Zero wr));obtain⟨am,an,ap,aq,ar,au,e3,e4,d,l⟩:=m.o.EY z;obtain⟨⟨rfl,rfl⟩,_,rfl⟩:(t=am/\A=an)/\True/\bc=ap:=by simp at e3;exact⟨e3.1,trivial,e3.2.2⟩
         obtain⟨⟨rfl,rfl⟩,_,rfl⟩:(y=aq/\E=ar)/\True/\gc=au:=by simp at e4;exact⟨e4.1,trivial,e4.2.2⟩
         have r:=m.o.fM;have q:=m.o.dw;rw[ka] at q;have I:=m.o.x6 k u z;have ad:=ab I;have ax:=m.o.Av k u z;have jt:=World.block_lt_of_cell? _ _ d;have X:=World.block_lt_of_cell? _ _ l;have H:=m.o.lt
         have P:Hi (¬BX wr.drew u t):=by
          obtain⟨cu,ce⟩:=m.o.bs.typed (g:=t) (by simp[al]);exact TM.eh (x:=.b u) I ce (by decide)
         have az:Hi (¬BX wr.drew u y):=by
          obtain⟨cu,ce⟩:=m.o.cs.typed (g:=y) (by simp[al]);exact TM.eh (x:=.b u) I ce (by decide)
         have af:Hi (¬BX wr.drew u w.heap.size):=TM.eh (x:=.b u) I m.o.blk (by decide);go_wp2_with fail;refine wp_region_held_drew (S:=fun W=>W.cell? ⟨w.heap.size,2,none⟩=some (.slice (some ⟨t,A,none⟩) N.length bc)/\W.cell? ⟨w.heap.size,3,none⟩=some (.slice (some ⟨y,E,none⟩) N.length gc)/\W.cell? ⟨t,A+k,none⟩=some (.pointer (some ⟨u.bb,0,none⟩))/\W.cell? ⟨y,E+k,none⟩=some (.pointer (some ⟨u.cb,0,none⟩))) (by kernel_rfl) ⟨r,q,d,l⟩ (fun hT=>?_);generalize wr.drew=w3 at *;refine wt 0 ⟨r,q,d,l⟩ ?_
         refine wt 1 ⟨r,q,d,l⟩ ?_
         refine wt 2 ⟨r,q,d,l⟩ ?_
         refine wt 3 ⟨r,q,d,l⟩ ?_
         refine wt 4 ⟨r,q,d,l⟩ ?_
         refine wt 5 ⟨r,q,d,l⟩ ?_
         refine wt 6 ⟨r,q,d,l⟩ ?_
         refine wt 7 ⟨r,q,d,l⟩ ?_
         refine wt 8 ⟨r,q,d,l⟩ ?_
         refine wt 9 ⟨r,q,d,l⟩ ?_
         refine wt 10 ⟨r,q,d,l⟩ ?_
         refine wt 11 ⟨r,q,d,l⟩ ?_
         refine wt 12 ⟨r,q,d,l⟩ ?_
         refine wt 13 ⟨r,q,d,l⟩ ?_
         refine wt 14 ⟨r,q,d,l⟩ ?_
         refine wpAnyH_ready (rs:=[15]) (by kernel_rfl) (by simp) ?_;refine wc 15 (fun K hK=>?_) AllReadyH.nil
         go_simp
         refine(o9 ad.o m.o.pow (by omega) 0 0 0 0 ⟨#[]⟩ (V.o 0 (by omega)).2.1 (by decide)).mono ?_;rintro e T ⟨rfl,p',av,G,aO⟩;have HN:=ab (m.o.GP (M':=i+2) aZ.o av G (Nat.le_refl _) (by omega));have y2:T.cell? ⟨w.heap.size,2,none⟩=some (.slice (some ⟨t,A,none⟩) N.length bc):=(G.fr.cell (a:=⟨w.heap.size,2,none⟩) H af.o).trans r;have y3:T.cell? ⟨w.heap.size,3,none⟩=some (.slice (some ⟨y,E,none⟩) N.length gc):=(G.fr.cell (a:=⟨w.heap.size,3,none⟩) H af.o).trans q;have y4:T.cell? ⟨t,A+k,none⟩=some (.pointer (some ⟨u.bb,0,none⟩)):=(G.fr.cell (a:=⟨t,A+k,none⟩) jt P.o).trans d;have y5:T.cell? ⟨y,E+k,none⟩=some (.pointer (some ⟨u.cb,0,none⟩)):=(G.fr.cell (a:=⟨y,E+k,none⟩) X az.o).trans l;go_wp2_with fail;refine hK.out _ _ ⟨y2,y3,y4,y5⟩ (fun _=>?_)
         refine wt 16 ⟨y2,y3,y4,y5⟩ ?_
         refine wpAnyH_done (by kernel_rfl) ?_ _;have Y:=ab (R.o.past HN.o.2);have Z:=ab HN.o.1;go_wp2_with fail;exact⟨⟨j+1,N3.set k p',by omega,rfl,by go_num,by rw[List.length_set];exact aw,Z,Y⟩,by simp[intOf];omega⟩
        ·have aH:¬(j:Int)<=(p.Q.fs.length:Int):=by omega
         go_wp2_with fail
         go_loopw [6,14] (fun ov jv wr=>∃(j:Nat),j<=p.Q.fs.length+1/\ov=.bool true/\jv=.int .i64 j/\Hi (WW wr w.heap.size w.heap.size L2 N3 (i+2) (.slice ra L.length rc) qv (.slice (some ⟨t,A,none⟩) N.length bc) (.slice (some ⟨y,E,none⟩) N2.length gc))/\Hi (Fr Zero w wr)) (fun _ jv _=>p.Q.fs.length+1-(intOf jv).toNat)
         case atStart=>exact⟨0,by omega,rfl,rfl,v,D⟩
         case round =>
          obtain⟨j2,bj,rfl,rfl,v,D⟩:=hrel
          by_cases a7:j2<=p.Q.fs.length
          ·have a4:(j2:Int)<=(p.Q.fs.length:Int):=by omega
           obtain⟨u,z⟩:∃ u,N3[k]?=some u:=⟨_,List.getElem?_eq_getElem (by omega)⟩;have m:=ab (v.o.quiet (Fr.drew Zero wr));have R:=ab (D.o.trans (Fr.drew Zero wr));obtain⟨am,an,ap,aq,ar,au,e3,e4,d,l⟩:=m.o.EY z;obtain⟨⟨rfl,rfl⟩,_,rfl⟩:(t=am/\A=an)/\True/\bc=ap:=by simp at e3;exact⟨e3.1,trivial,e3.2.2⟩
           obtain⟨⟨rfl,rfl⟩,_,rfl⟩:(y=aq/\E=ar)/\True/\gc=au:=by simp at e4;exact⟨e4.1,trivial,e4.2.2⟩
           have r:=m.o.fM;have q:=m.o.dw;rw[ka] at q;have ad:=ab (m.o.x6 k u z);have ax:=m.o.Av k u z;have jt:=World.block_lt_of_cell? _ _ d;have X:=World.block_lt_of_cell? _ _ l;have H:=m.o.lt;go_wp2_with fail;refine wp_region_held_drew (S:=fun W=>W.cell? ⟨w.heap.size,2,none⟩=some (.slice (some ⟨t,A,none⟩) N.length bc)/\W.cell? ⟨w.heap.size,3,none⟩=some (.slice (some ⟨y,E,none⟩) N.length gc)/\W.cell? ⟨t,A+k,none⟩=some (.pointer (some ⟨u.bb,0,none⟩))/\W.cell? ⟨y,E+k,none⟩=some (.pointer (some ⟨u.cb,0,none⟩))) (by kernel_rfl) ⟨r,q,d,l⟩ (fun hT=>?_);generalize wr.drew=w3 at *;refine wt 0 ⟨r,q,d,l⟩ ?_
           refine wt 1 ⟨r,q,d,l⟩ ?_
           refine wt 2 ⟨r,q,d,l⟩ ?_
           refine wt 3 ⟨r,q,d,l⟩ ?_
           refine wt 4 ⟨r,q,d,l⟩ ?_
           refine wt 5 ⟨r,q,d,l⟩ ?_
           refine wt 6 ⟨r,q,d,l⟩ ?_
           refine wt 7 ⟨r,q,d,l⟩ ?_
           refine wt 8 ⟨r,q,d,l⟩ ?_
           refine wt 9 ⟨r,q,d,l⟩ ?_
           refine wt 10 ⟨r,q,d,l⟩ ?_
           refine wt 11 ⟨r,q,d,l⟩ ?_
           refine wt 12 ⟨r,q,d,l⟩ ?_
           refine wt 13 ⟨r,q,d,l⟩ ?_
           refine wt 14 ⟨r,q,d,l⟩ ?_
           refine wt 15 ⟨r,q,d,l⟩ ?_
           refine wpAnyH_ready (rs:=[16]) (by kernel_rfl) (by simp) ?_;refine wc 16 (fun K hK=>?_) AllReadyH.nil
           go_simp
           refine(tE ad.o m.o.pow (by omega) (j2:Int) 0 0 0 ⟨#[]⟩ (V.o j2 (by omega)).2.2 (by decide)).mono ?_;rintro e T ⟨rfl,C⟩;have Z:=ab (m.o.quiet C);have Y:=ab (R.o.trans C);have y2:T.cell? ⟨w.heap.size,2,none⟩=some (.slice (some ⟨t,A,none⟩) N.length bc):=(C.cell (a:=⟨w.heap.size,2,none⟩) H (fun h=>h)).trans r;have y3:T.cell? ⟨w.heap.size,3,none⟩=some (.slice (some ⟨y,E,none⟩) N.length gc):=(C.cell (a:=⟨w.heap.size,3,none⟩) H (fun h=>h)).trans q;have y4:T.cell? ⟨t,A+k,none⟩=some (.pointer (some ⟨u.bb,0,none⟩)):=(C.cell (a:=⟨t,A+k,none⟩) jt (fun h=>h)).trans d;have y5:T.cell? ⟨y,E+k,none⟩=some (.pointer (some ⟨u.cb,0,none⟩)):=(C.cell (a:=⟨y,E+k,none⟩) X (fun h=>h)).trans l;go_wp2_with fail;refine hK.out _ _ ⟨y2,y3,y4,y5⟩ (fun _=>?_)
           refine wt 17 ⟨y2,y3,y4,y5⟩ ?_
           refine wpAnyH_done (by kernel_rfl) ?_ _;go_wp2_with fail;exact⟨⟨j2+1,by omega,rfl,by go_num,Z,Y⟩,by simp[intOf];omega⟩
          ·have a4:¬(j2:Int)<=(p.Q.fs.length:Int):=by omega
           go_wp2_with fail;exact⟨⟨k+1,N3,by omega,rfl,by go_num,aw,v,D⟩,by simp[intOf];omega⟩
      ·have aA:k=N.length:=by omega
       subst aA;have aF:¬(N.length:Int)<(N.length:Int):=by omega
       go_wp2_with fail;go_ret;exact⟨rfl,D⟩
theorem tD(w:World)(hW:Words w)(hE:m8 w)(hP:ey w)(o:Option Addr)(n c:Nat)(hS:nW w o n)(hn:n<=2000000):
  Calls Tryz.prog 3 #[.slice o n c] w fun e w'=>e=.returned (.bool true)/\Fr Zero w w':=by
 have g:=ab hS;have a:=ab hW;have b:=ab hE;have d:=ab hP;go_enter Tryz.func3,Tryz.ntmps3;go_wp2_with fail;refine(Bj w a.o b.o d.o o n c g.o hn).mono ?_;rintro e h ⟨rfl,(f:Hi _)⟩;go_wp2_with fail;go_ret;exact⟨rfl,f⟩
end Go.Proofs.YtpffifpbpmlhdaaGreatDoor.Q
namespace Go.Proofs.YtpffifpbpmlhdaaGreatDoor
open Go.ChangeShapes Go.WideShapes Go.ChangeAt Go.WideMaps Go.WideElems Go.RowKit
open Q (iH nW tD)
variable {spare:Nat->Bool}
theorem Ew{H:Type}(d:DataW H):1<=Rows.uptoBulk d:=by
 cases d with
 | lit l=>cases l<;>simp[Rows.uptoBulk]
 | _=>simp[Rows.uptoBulk]
theorem Ex{H:Type}{d:DataW H}:∀ {l:List (DataW H)},d∈l->Rows.uptoBulk d<=Rows.uptoBulkAll l:=by
 intro l
 induction l with
 | nil=>intro h;simp at h
 | cons x l ih =>
  intro h;simp only[Rows.uptoBulkAll];rcases List.mem_cons.1 h with rfl|h
  ·omega
  ·have:=ih h;omega
theorem Ey{H:Type}(l:List (DataW H)):l.length<=Rows.uptoBulkAll l:=by
 induction l with
 | nil=>simp
 | cons x l ih=>simp only[Rows.uptoBulkAll,List.length_cons];have:=Ew x;omega
theorem wg:Tryz.prog.cellsOf 34=6:=by kernel_rfl
theorem Bg:Tryz.prog.cellsOf 3=1:=by kernel_rfl
theorem Bf:Tryz.prog.cellsOf 9=1:=by kernel_rfl
theorem Dj:laidOutB Tryz.prog=true:=wG
theorem lG{H:Type}{vi:TypeId×Value->H}{P:Program}{w:World}{base:Nat}{held:Bool}{n:Nat}{t:TypeId}{v:Value}{x:DataW H×List MemPlace}(ht:P.underlying t=some (.int .i64))(h:DataW.trod vi P w base spare held n t [v]=some x):∃ z,v=.int .i64 z/\-9223372036854775808<=z/\z<=9223372036854775807:=by
 obtain⟨z,b,_,a⟩:=DataW.trod_int ht h;simp at b;subst b;have c:IntKind.i64.min=-9223372036854775808:=rfl;have d:IntKind.i64.max=9223372036854775807:=rfl;simp[Lit.wf,c,d] at a;exact⟨z,rfl,a.1,a.2⟩
theorem Eu{H:Type}{vi:TypeId×Value->H}{P:Program}{w:World}{base:Nat}{held:Bool}{n:Nat}{t:TypeId}{v:Value}{x:DataW H×List MemPlace}(ht:P.underlying t=some .string)(h:DataW.trod vi P w base spare held n t [v]=some x):∃ s,v=.string s/\x.1=.lit (.string s.data.toList):=by
 obtain⟨s,a,b,_⟩:=DataW.trod_string ht h;simp at a;subst a;exact⟨s,rfl,by rw[b]⟩
theorem DO{α:Type}{l:List α}(h:l.length=6):∃ a b c d e f,l=[a,b,c,d,e,f]:=by
 rcases l with _|⟨a,_|⟨b,_|⟨c,_|⟨d,_|⟨e,_|⟨f,_|⟨g,l⟩⟩⟩⟩⟩⟩⟩
 all_goals first|exact⟨_,_,_,_,_,_,rfl⟩|(simp at h)
theorem A4{H:Type}{vi:TypeId×Value->H}{W:World}{uA:Nat}{o:Option Addr}{len au:Nat}{d:DataW H}{ps:List MemPlace}(h:DataW.trod vi Tryz.prog W 0 spare true uA 22 [.slice o len au]=some (d,ps))(hd:Rows.uptoBulk d<=1048576):nW W o len/\len<=1048576:=by
 rcases Go.Deep.open_slice Tryz.underlying22 h with⟨e,_⟩|⟨a,L,M,m,n,D,Pl,e,_,hl,hm,u,N,O⟩
 ·simp at e;obtain⟨_,rfl,_⟩:=e;exact⟨fun i hi=>by omega,by omega⟩
 ·simp at e;obtain⟨rfl,rfl,rfl⟩:=e;simp only[Prod.mk.injEq] at N;obtain⟨rfl,_⟩:=N;simp only[Rows.uptoBulk] at hd;have aX:=Ey ((List.range len).map D);rw[List.length_map,List.length_range] at aX;have Q:len<=m:=by rw[u];split<;>omega
  refine⟨fun i hi=>?_,by omega⟩;have l:Rows.uptoBulk (D i)<=Rows.uptoBulkAll ((List.range len).map D):=Ex (List.mem_map.2 ⟨i,List.mem_range.2 hi,rfl⟩);obtain⟨S,P,T⟩:=O i (by omega);rw[wg] at P;obtain⟨_,pC,c⟩:=World.cells?_some P;obtain⟨U,k,hk,od,_,v,j⟩:=DataW.trod_struct Tryz.underlying34 T;obtain⟨V,X,Y,Z,y4,y5,rfl⟩:=DO (show U.length=6 from v);obtain⟨v0,v1,v2,v3,v4,v5,rfl⟩:=DO pC;have x:=j 0 _ rfl;have y:=j 1 _ rfl;have z:=j 2 _ rfl;have A:=j 3 _ rfl;have B:=j 4 _ rfl;have C:=j 5 _ rfl;simp[Bg,Bf] at x y z A B C;obtain⟨z0,rfl,a0,b0⟩:=lG Tryz.underlying3 x;obtain⟨z1,rfl,a1,b1⟩:=lG Tryz.underlying3 y;obtain⟨z2,rfl,a2,b2⟩:=lG Tryz.underlying3 z;obtain⟨z3,rfl,a3,b3⟩:=lG Tryz.underlying3 A;obtain⟨z4,rfl,a4,b4⟩:=lG Tryz.underlying3 B;obtain⟨s,rfl,hs⟩:=Eu Tryz.underlying9 C;simp only[Prod.mk.injEq] at od;have R:D i=.agg [V.1,X.1,Y.1,Z.1,y4.1,.lit (.string s.data.toList)]:=by rw[od.1];simp[hs]
  have dJ:s.data.toList.length+1<=1048576:=by
   rw[R] at l;simp only[Rows.uptoBulk,Rows.uptoBulkAll] at l;omega
  rw[Array.length_toList] at dJ;have t:s.size<=1048576:=by show s.data.size<=_;omega
  obtain⟨b,w,p⟩:=a
  have g:p=none:=by
   obtain⟨aa,q,_⟩:=O 0 (by omega);rw[wg] at q;obtain⟨_,r,f⟩:=World.cells?_some q;obtain⟨x0,x1,x2,x3,x4,x5,rfl⟩:=DO r
   have:=World.cell?_spot ((f 0 (by omega)).trans rfl)
   simpa[Addr.add] using this
  subst g;have E:=c 0 (by omega);have F:=c 1 (by omega);have G:=c 2 (by omega);have I:=c 3 (by omega);have J:=c 4 (by omega);have K:=c 5 (by omega);rw[add_plain,add_plain] at E F G I J K;exact⟨b,w,z0,z1,z2,z3,z4,s,rfl,E,F,G,I,J,K,⟨a0,b0,a1,b1,a2,b2,a3,b3,a4,b4,by omega⟩,t⟩
theorem Cg(os:Os){H:Type}(vi:TypeId×Value->H):∃ places,DataW.whole vi Tryz.prog ((witW os).forCall (fun _ _=>0) ⟨#[],#[.slice none 0 0],[]⟩).memory Tryz.f3.params.toList Rows.busesSpec.vars false #[.slice none 0 0].toList 8=some ([.nil],[],places) :=
 ⟨[],by kernel_rfl⟩
theorem uS(os:Os)(tS:os.Started)(H:Type)(vi:TypeId×Value->H)(F:Stop.Interp):
  ReturnsInHanded {} Tryz.checked os 3 .any ((Rows.OpenSpec.upto Rows.busesSpec).preRow vi Tryz.prog Tryz.f3 [] false oX) (((Rows.OpenSpec.upto Rows.busesSpec).at F).post vi Tryz.prog Tryz.f3 false true false false):=by
 obtain⟨u,D⟩:=Cg os vi;have dq:Input.okWideB Tryz.prog ((witW os).forCall (fun _ _=>0) ⟨#[],#[.slice none 0 0],[]⟩) 3 ⟨#[],#[.slice none 0 0],[]⟩=true:=by kernel_rfl
 refine returnsInHanded_of_row (C:=Tryz.checked) (s:=Rows.OpenSpec.upto Rows.busesSpec) IJ tS (by kernel_rfl) Tryz.func3
  ⟨witW os,fun _ _=>0,⟨#[],#[.slice none 0 0],[]⟩,World.layVars_os _ _ _,World.shaped_of_ZipB (by kernel_rfl) (by kernel_rfl),(Input.okWide_of_okWideB (base:=0) dq).1,(Input.okWide_of_okWideB dq).2,
   OpenSpec.preRow_of_cond 8 D (by kernel_rfl) (fun k z=>by cases z;kernel_rfl) (by kernel_rfl) (E3 os _),⟨by simp,by simp,fun _=>Modest.zero,by simp,by simp⟩⟩ ?_
 intro W base args K T w c G _ l _ L _ _;have f:∀(j:Nat) t v,Tryz.f3.params[j]?=some t->args[j]?=some v->Value.okWide Tryz.prog W .any base t v:=c;have g:=G;obtain⟨p,q,r,M,rfl,FU,oZ⟩:=G;have E:DataW.TrodAll vi Tryz.prog W 0 (fun _=>true) true Tryz.f3.params.toList args.toList K p:=r;rw[Tryz.params3] at E f;obtain⟨N,n,rfl,rfl,I⟩:=trodAll_one E;obtain⟨rfl,rfl⟩:=trodVars_none M;obtain⟨o,m,au,rfl⟩:=okWide_slice Tryz.underlying22 (f 0 22 N rfl rfl);have y:=I;obtain⟨uA,O⟩:=I;have z:=of_decide_eq_true (l _ rfl);simp only[List.append_nil,Rows.uptoBulkAll] at z;simp only[List.append_nil] at g;have A:∀ x∈p,x.block<W.heap.size:=fun x D=>by simpa using g.lt x D
 have i:∀(W':World),Below W.heap.size W W'->DataW.Trod vi Tryz.prog W' 0 (fun b=>decide (b<W.heap.size)) true 22 (.slice o m au) n p :=
  fun W' J=>Below.trod Dj (by kernel_rfl) (of_decide_eq_true (by kernel_rfl)) y J A
 have d:DataW.trod vi Tryz.prog W 0 (fun _=>true) true uA 22 [.slice o m au]=some (n,p):=O;obtain⟨P,J⟩:=A4 d (by omega);obtain⟨Q,R,S⟩:=DV L;refine(tD W Q R S o m au P (by omega)).mono fun e W' ⟨he,hw⟩=>?_
 subst he;have a:Below W.heap.size W W':=hw.below (Nat.le_refl _) (fun _ h=>h.elim);have B:Rows.busesSpec.fn H ([n]++[])={ results:=[.lit (.bool true)],args:=[n] }:=rfl;refine⟨_,rfl,_,_,_,[],p,[],g,?_,?_,?_,a.frame _,fun h=>by cases h⟩
 ·show DataW.TrodAll vi Tryz.prog _ _ _ _ _ _ (Rows.busesSpec.fn H ([n]++[])).results _;rw[B];exact trodAll_mk1 (shut_bool Tryz.underlying4 true)
 ·show DataW.TrodAll vi Tryz.prog _ _ _ _ _ _ (Rows.busesSpec.fn H ([n]++[])).args _;rw[B];exact trodAll_mk1 (i _ a)
 ·first|rfl|(show _=_;rw[B];rfl)
theorem xJ:joinedFacts Tryz.checked.prog 3 Tryz.f3 (Rows.OpenSpec.upto Rows.busesSpec).bare Rows.busesUptoRow=true:=by
 unfold joinedFacts
 iterate 31 (refine Il ?_ (by first|with_reducible exact wG|with_reducible exact yO|with_reducible exact wA|with_reducible exact Bp|as_aux_lemma=>kernel_rfl))
 as_aux_lemma=>kernel_rfl
theorem Cf:Rows.BusesUptoSaid :=
 OpenClaim.holds_of_cond 3 Tryz.f3 rfl rfl rfl rfl rfl rfl rfl ⟨rfl,rfl,rfl,rfl,rfl⟩ rfl rfl rfl rfl rfl (by kernel_rfl) Tryz.func3 xJ
  (of_decide_eq_true (by kernel_rfl)) (by unfold Func.isWrapper;rw[if_neg (of_decide_eq_false (by kernel_rfl))];exact⟨rfl,rfl⟩)
  (fun os tS H vi _ F=>by rw[OpenClaim.pre_eq_preRow];exact uS os tS H vi F)
open Go
theorem buses_holds:Rows.BusesUptoCardSaid :=
 Claim7.holds_tied_plain_at .later [] [.data,.data,.data,.data,.handle,.data,.pinned] true (true, "3b56349751b0c4082cf8e0f6331ffb391fe252dbc7c42af535ddea52ec8b2d0a") true
  Cf (fun _ h=>by cases h) (by kernel_rfl) (fun _ h=>by cases h) busesUpto_row_tie rfl ⟨rfl,rfl⟩ (by kernel_rfl) rfl
  (fun f fn hf Ii=>by
   obtain rfl:f=3:=Option.some.inj ((show Tryz.prog.funcNamed Rows.busesUptoRow.func=some 3 by kernel_rfl).symm.trans hf) |>.symm
   obtain rfl:fn=Tryz.f3:=(Option.some.inj (Tryz.func3.symm.trans Ii)).symm
   exact⟨by kernel_rfl,fun j t ht=>by
    rw[Tryz.params3] at ht
    have h9:t=22:=by
     rcases j with _|j
     ·simpa using ht.symm
     ·simp at ht
    subst h9
    exact(show Tryz.prog.wantsStandIn 22=false by kernel_rfl)⟩)
  (by kernel_rfl)
end Go.Proofs.YtpffifpbpmlhdaaGreatDoor
