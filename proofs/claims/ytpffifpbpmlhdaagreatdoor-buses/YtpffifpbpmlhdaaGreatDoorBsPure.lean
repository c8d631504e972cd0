import Derived.Test.YtpffifpbpmlhdaaGreatDoorBsVWf
import Derived.Test.YtpffifpbpmlhdaaGreatDoorBsRTyp
set_option maxHeartbeats 32000000
set_option maxRecDepth 100000
namespace Go.Proofs.YtpffifpbpmlhdaaGreatDoor
open Go.RowKit
variable {w w' W wq:World}{B db n x g c i f lo:Nat}{lv av rv tv v':Value}{lines:List (ByteArray×PT)}{ats roots l:List Nat}{X:Nat->Prop}{s nm:ByteArray}{bad:Bool}{tab new a b tb:List RT}{ob:Obj}{xs:List Value}{t:RT}{vs:List (PT×Option Nat)}{deep:Option Nat}
structure RD where
 n:Nat
 bad:Bool
 tab:List RT
 lines:List ByteArray
 ats:List Nat
 roots:List Nat
def jd(s:ByteArray)(d:RD):RS×Nat:=bW s (s.size+2) (cU s 61 ⟨bg s d.n false,bG s d.n false,d.tab⟩)
def cm(s:ByteArray)(d:RD):RD:=⟨(jd s d).1.n,(jd s d).1.bad,(jd s d).1.tab,d.lines++[cM s d.n false],d.ats++[d.n],d.roots++[(jd s d).2]⟩
def vY(d:RD):RD:=⟨d.n,true,d.tab,d.lines,d.ats,d.roots⟩
def gy(s:ByteArray)(d:RD):RD:=⟨dQ s d.n d.bad 10,fl s d.n d.bad 10,d.tab,d.lines,d.ats,d.roots⟩
def fL(s:ByteArray):Nat->RD->RD
 | 0,d=>d
 | k+1,d =>
  if(cm s d).bad=true\/(cm s d).n=s.size then cm s d else
  if(cm s d).lines.length=10 then vY (cm s d) else
  if(gy s (cm s d)).bad=true then gy s (cm s d) else fL s k (gy s (cm s d))
structure LD(w:World)(B:Nat)(lv av rv:Value)(lines:List ByteArray)(ats roots:List Nat):Prop where
 sl:w.ownsRow 0 9 1 lv lines.length (texts lines)
 sa:w.ownsRow 0 3 1 av ats.length (ints ats)
 sr:w.ownsRow 0 3 1 rv roots.length (ints roots)
 ne:∀ g,av.ownBlock=some g->rv.ownBlock≠some g
 base:∀ g,(lv.ownBlock=some g\/av.ownBlock=some g\/rv.ownBlock=some g)->B<=g
def XL(db:Nat)(lv av rv:Value):Nat->Prop:=fun k=>k=db\/lv.ownBlock=some k\/av.ownBlock=some k\/rv.ownBlock=some k
theorem LD.lt{lines:List ByteArray}(h:LD w B lv av rv lines ats roots):∀ g,(lv.ownBlock=some g\/av.ownBlock=some g\/rv.ownBlock=some g)->g<w.heap.size:=by
 rintro g (a|a|a)
 ·exact(h.sl.lt g a).2
 ·exact(h.sa.lt g a).2
 ·exact(h.sr.lt g a).2
theorem LD.ae{Y:Nat->Prop}{lines:List ByteArray}(h:LD w B lv av rv lines ats roots)(hf:Fr Y w w')(hy:∀ g,(lv.ownBlock=some g\/av.ownBlock=some g\/rv.ownBlock=some g)->¬Y g):LD w' B lv av rv lines ats roots :=
 ⟨ag h.sl hf (fun g hg=>hy g (.inl hg)),ag h.sa hf (fun g hg=>hy g (.inr (.inl hg))),ag h.sr hf (fun g hg=>hy g (.inr (.inr hg))),h.ne,h.base⟩
theorem DS.field{IG I8 pd:Value}(h:DS w X db s n bad tv lv av rv tab)(hX:X db)(hf:Fr (One db) w w')(IX:DB w' db s n bad tv IG I8 pd):DS w' X db s n bad tv IG I8 pd tab:=by
 obtain⟨c,a,b,d⟩:=h;exact⟨IX,a,ag b hf (fun g hg e=>aO c b (by decide) g hg e),d.ae (hf.mono (fun k _ hk=>by have e:k=db:=hk;rw[e];exact .inl hX))⟩
theorem IH{lines:List ByteArray}(he:W.heap=(wq.alloc ob).heap)(xp:W.os=wq.os)(xm:W.tape=wq.tape)(xn:W.output=wq.output)
  (hLq:LD wq B lv av rv lines ats roots) (hSq:DS wq (XL db lv av rv) db s n bad tv lv av rv tab) (hdb:B<=db)
  (iE:w'.ownsRow 0 3 1 v' (ats.length+1) (ints ats++[.int .i64 x])) (hg:W.grownBy w' av.ownBlock) (hv:∃ g au,v'=.slice (some ⟨g,0,none⟩) (ats.length+1) au/\(av.ownBlock=some g\/W.heap.size<=g)) (hB:B<=wq.heap.size) :
  LD (w'.setCell ⟨db,4,none⟩ v') B lv v' rv lines (ats++[x]) roots/\DS (w'.setCell ⟨db,4,none⟩ v') (XL db lv v' rv) db s n bad tv lv v' rv tab/\Fr (fun k=>B<=k) wq (w'.setCell ⟨db,4,none⟩ v'):=by
 have m:=ti he xp xm xn;have c:=hLq.ae m (fun _ _ h=>h);have j:=hSq.cX m;have o:Fr (fun k=>av.ownBlock=some k) W w':=Fr.grown hg (fun k e _=>e);have l:∀ g,av.ownBlock=some g->g≠db:=aO j.1 c.sa (by decide);have p:=j.ij c.sa (by decide);have q:=c.lt;have d:Fr (One db) w' (w'.setCell ⟨db,4,none⟩ v'):=Fr.setCell _ _ _ _ rfl;obtain⟨g,au,rfl,i⟩:=hv
 have r:g≠db:=by
  rcases i with h|h
  ·exact l g h
  ·have:=lt_of_heap j.1;omega
 have t:B<=g:=by
  rcases i with h|h
  ·exact c.base g (.inr (.inl h))
  ·have:=m.size;omega
 have u:=ag (ag c.sl o (fun f a e=>by obtain⟨C,z⟩:=bH c.sl a;obtain⟨D,y⟩:=bH c.sa e;rw[z] at y;simp at y)) d (fun f a e=>aO j.1 c.sl (by decide) f a e);have v:=ag (ag c.sr o (fun f a e=>c.ne f e a)) d (fun f a e=>aO j.1 c.sr (by decide) f a e);have w:=ag iE d (fun f a e=>by simp[Value.ownBlock] at a;subst a;exact r e);refine⟨⟨u,(by rw[l8,List.length_append];exact w),v,?_,?_⟩,?_,?_⟩
 ·intro f a e;simp[Value.ownBlock] at a;subst a;rcases i with h|h
  ·exact c.ne _ h e
  ·have:=q g (.inr (.inr e));omega
 ·intro f a;rcases a with h|h|h
  ·exact c.base f (.inl h)
  ·simp[Value.ownBlock] at h;subst h;exact t
  ·exact c.base f (.inr (.inr h))
 ·refine DS.field (DS.grow j hg (fun k e=>⟨(.inr (.inr (.inl e))),l k e,p k e⟩) (fun b hb=>?_)) (.inl rfl) d ?_
  ·rcases hb with h|h|h|h
   ·exact .inl (.inl h)
   ·exact .inl (.inr (.inl h))
   ·simp[Value.ownBlock] at h;subst h;rcases i with h|h
    ·exact .inl (.inr (.inr (.inl h)))
    ·exact .inr h
   ·exact .inl (.inr (.inr (.inr h)))
  ·exact DB.set4 (o.ae j.1 (fun e=>l db e rfl)) _
 ·exact(m.dV (X:=fun k=>B<=k)).trans ((o.mono (fun k _ e=>c.base k (.inr (.inl e)))).trans (d.mono (fun k _ e=>by have A:k=db:=e;omega)))
theorem FP{lines:List ByteArray}{x:ByteArray}(he:W.heap=(wq.alloc ob).heap)(xp:W.os=wq.os)(xm:W.tape=wq.tape)(xn:W.output=wq.output)
  (hLq:LD wq B lv av rv lines ats roots) (hSq:DS wq (XL db lv av rv) db s n bad tv lv av rv tab) (hdb:B<=db)
  (iE:w'.ownsRow 0 9 1 v' (lines.length+1) (texts lines++[.string x])) (hg:W.grownBy w' lv.ownBlock) (hv:∃ g au,v'=.slice (some ⟨g,0,none⟩) (lines.length+1) au/\(lv.ownBlock=some g\/W.heap.size<=g)) (hB:B<=wq.heap.size) :
  LD (w'.setCell ⟨db,3,none⟩ v') B v' av rv (lines++[x]) ats roots/\DS (w'.setCell ⟨db,3,none⟩ v') (XL db v' av rv) db s n bad tv v' av rv tab/\Fr (fun k=>B<=k) wq (w'.setCell ⟨db,3,none⟩ v'):=by
 have o:=ti he xp xm xn;have c:=hLq.ae o (fun _ _ h=>h);have i:=hSq.cX o;have p:Fr (fun k=>lv.ownBlock=some k) W w':=Fr.grown hg (fun k e _=>e);have j:∀ g,lv.ownBlock=some g->g≠db:=aO i.1 c.sl (by decide);have q:=i.ij c.sl (by decide);have d:Fr (One db) w' (w'.setCell ⟨db,3,none⟩ v'):=Fr.setCell _ _ _ _ rfl;obtain⟨g,au,rfl,l⟩:=hv
 have r:g≠db:=by
  rcases l with h|h
  ·exact j g h
  ·have:=lt_of_heap i.1;omega
 have t:B<=g:=by
  rcases l with h|h
  ·exact c.base g (.inl h)
  ·have:=o.size;omega
 have u:=ag (ag c.sa p (fun f a e=>by obtain⟨z,y⟩:=bH c.sa a;obtain⟨A,m⟩:=bH c.sl e;rw[y] at m;simp at m)) d (fun f a e=>aO i.1 c.sa (by decide) f a e);have v:=ag (ag c.sr p (fun f a e=>by obtain⟨z,y⟩:=bH c.sr a;obtain⟨A,m⟩:=bH c.sl e;rw[y] at m;simp at m)) d (fun f a e=>aO i.1 c.sr (by decide) f a e);have w:=ag iE d (fun f a e=>by simp[Value.ownBlock] at a;subst a;exact r e);refine⟨⟨(by rw[pM,List.length_append];exact w),u,v,?_,?_⟩,?_,?_⟩
 ·exact c.ne
 ·intro f a;rcases a with h|h|h
  ·simp[Value.ownBlock] at h;subst h;exact t
  ·exact c.base f (.inr (.inl h))
  ·exact c.base f (.inr (.inr h))
 ·refine DS.field (DS.grow i hg (fun k e=>⟨(.inr (.inl e)),j k e,q k e⟩) (fun b hb=>?_)) (.inl rfl) d ?_
  ·rcases hb with h|h|h|h
   ·exact .inl (.inl h)
   ·simp[Value.ownBlock] at h;subst h;rcases l with h|h
    ·exact .inl (.inr (.inl h))
    ·exact .inr h
   ·exact .inl (.inr (.inr (.inl h)))
   ·exact .inl (.inr (.inr (.inr h)))
  ·exact DB.Hw (p.ae i.1 (fun e=>j db e rfl)) _
 ·exact(o.dV (X:=fun k=>B<=k)).trans ((p.mono (fun k _ e=>c.base k (.inl e))).trans (d.mono (fun k _ e=>by have C:k=db:=e;omega)))
theorem FO{lines:List ByteArray}(he:W.heap=(wq.alloc ob).heap)(xp:W.os=wq.os)(xm:W.tape=wq.tape)(xn:W.output=wq.output)
  (hLq:LD wq B lv av rv lines ats roots) (hSq:DS wq (XL db lv av rv) db s n bad tv lv av rv tab) (hdb:B<=db)
  (iE:w'.ownsRow 0 3 1 v' (roots.length+1) (ints roots++[.int .i64 x])) (hg:W.grownBy w' rv.ownBlock) (hv:∃ g au,v'=.slice (some ⟨g,0,none⟩) (roots.length+1) au/\(rv.ownBlock=some g\/W.heap.size<=g)) (hB:B<=wq.heap.size) :
  LD (w'.setCell ⟨db,5,none⟩ v') B lv av v' lines ats (roots++[x])/\DS (w'.setCell ⟨db,5,none⟩ v') (XL db lv av v') db s n bad tv lv av v' tab/\Fr (fun k=>B<=k) wq (w'.setCell ⟨db,5,none⟩ v'):=by
 have m:=ti he xp xm xn;have c:=hLq.ae m (fun _ _ h=>h);have j:=hSq.cX m;have o:Fr (fun k=>rv.ownBlock=some k) W w':=Fr.grown hg (fun k e _=>e);have l:∀ g,rv.ownBlock=some g->g≠db:=aO j.1 c.sr (by decide);have p:=j.ij c.sr (by decide);have q:=c.lt;have d:Fr (One db) w' (w'.setCell ⟨db,5,none⟩ v'):=Fr.setCell _ _ _ _ rfl;obtain⟨g,au,rfl,i⟩:=hv
 have r:g≠db:=by
  rcases i with h|h
  ·exact l g h
  ·have:=lt_of_heap j.1;omega
 have t:B<=g:=by
  rcases i with h|h
  ·exact c.base g (.inr (.inr h))
  ·have:=m.size;omega
 have u:=ag (ag c.sl o (fun f a e=>by obtain⟨C,z⟩:=bH c.sl a;obtain⟨D,y⟩:=bH c.sr e;rw[z] at y;simp at y)) d (fun f a e=>aO j.1 c.sl (by decide) f a e);have v:=ag (ag c.sa o (fun f a e=>c.ne f a e)) d (fun f a e=>aO j.1 c.sa (by decide) f a e);have w:=ag iE d (fun f a e=>by simp[Value.ownBlock] at a;subst a;exact r e);refine⟨⟨u,v,(by rw[l8,List.length_append];exact w),?_,?_⟩,?_,?_⟩
 ·intro f a e;simp[Value.ownBlock] at e;subst e;rcases i with h|h
  ·exact c.ne _ a h
  ·have:=q g (.inr (.inl a));omega
 ·intro f a;rcases a with h|h|h
  ·exact c.base f (.inl h)
  ·exact c.base f (.inr (.inl h))
  ·simp[Value.ownBlock] at h;subst h;exact t
 ·refine DS.field (DS.grow j hg (fun k e=>⟨(.inr (.inr (.inr e))),l k e,p k e⟩) (fun b hb=>?_)) (.inl rfl) d ?_
  ·rcases hb with h|h|h|h
   ·exact .inl (.inl h)
   ·exact .inl (.inr (.inl h))
   ·exact .inl (.inr (.inr (.inl h)))
   ·simp[Value.ownBlock] at h;subst h;rcases i with h|h
    ·exact .inl (.inr (.inr (.inr h)))
    ·exact .inr h
  ·exact DB.I2 (o.ae j.1 (fun e=>l db e rfl)) _
 ·exact(m.dV (X:=fun k=>B<=k)).trans ((o.mono (fun k _ e=>c.base k (.inr (.inr e)))).trans (d.mono (fun k _ e=>by have A:k=db:=e;omega)))
def ix(db:Nat)(w:World):Nat:=match w.cell? ⟨db,3,none⟩ with
 | some (.slice _ n _)=>n
 | _=>0
theorem LD.linesLen{lines:List ByteArray}(h:LD w B lv av rv lines ats roots)(hD:DB w db s n bad tv lv av rv):ix db w=lines.length:=by
 unfold Proofs.YtpffifpbpmlhdaaGreatDoor.ix;rw[hD.dw];rcases h.sl.2 with⟨rfl,e⟩|⟨g,au,a,rfl,_⟩
 ·exact e.symm
 ·rfl
def Ht(w:World)(s:ByteArray)(d:RD)(w':World):Prop :=
 Fr Zero w w'/\d.n<=s.size/\∃ tv lv av rv,DS w' (XL w.heap.size lv av rv) w.heap.size s d.n d.bad tv lv av rv d.tab/\LD w' w.heap.size lv av rv d.lines d.ats d.roots/\(∀ g,tv.ownBlock=some g->w.heap.size<=g)/\d.lines.length<=10/\d.ats.length=d.lines.length/\d.roots.length=d.lines.length/\d.tab.length<=1000
theorem yt(s:ByteArray)(w:World)(hs:s.size<=400):
  Calls Tryz.prog 77 #[.string s] w fun e w'=>e=.returned (.pointer (some ⟨w.heap.size,0,none⟩))/\Ht w s (fL s 10 ⟨0,false,[],[],[],[]⟩) w':=by
 have aN:s.size<=maxLen:=by unfold maxLen;omega
 go_enter Tryz.func77,Tryz.ntmps77;go_wp2
 go_loopw [2] (fun v wr=>v=.pointer none/\∃(d:RD) (tv lv av U:Value),d.n<=s.size/\Hi (d.bad=false->∃ k,k+1+d.lines.length=10/\fL s 10 ⟨0,false,[],[],[],[]⟩=fL s (k+1) d)/\Hi (d.bad=true->fL s 10 ⟨0,false,[],[],[],[]⟩=d) /\
   Hi (d.tab.length+(s.size-d.n)<=401+d.lines.length)/\d.lines.length<=10/\Hi (d.ats.length=d.lines.length/\d.roots.length=d.lines.length) /\
   Hi (DS wr (XL w.heap.size lv av U) w.heap.size s d.n d.bad tv lv av U d.tab)/\Hi (LD wr w.heap.size lv av U d.lines d.ats d.roots)/\Hi (∀ g,tv.ownBlock=some g->w.heap.size<=g)/\Hi (Fr Zero w wr)) (fun _ wr=>11-ix w.heap.size wr)
 case atStart =>
  refine⟨rfl,⟨0,false,[],[],[],[]⟩,.slice none 0 0,.slice none 0 0,.slice none 0 0,.slice none 0 0,Nat.zero_le _,(fun _=>⟨9,rfl,rfl⟩),(fun h=>by cases h),(by show _<=_;simp;omega),by simp,⟨rfl,rfl⟩,⟨af rfl _,[],World.ownsRow_nil _ _ _ _,rfl,fun j r t hr=>by simp at hr⟩,⟨World.ownsRow_nil _ _ _ _,World.ownsRow_nil _ _ _ _,World.ownsRow_nil _ _ _ _,(fun g hg=>by simp[Value.ownBlock] at hg),(fun g hg=>by simp[Value.ownBlock] at hg)⟩,(fun g hg=>by simp[Value.ownBlock] at hg),Fr.alloc _ _ _⟩
 case round =>
  obtain⟨rfl,d,tv,lv,av,U,a8,HY,aU,aD,k9,V,HS,HL,aE,HF⟩:=hrel;have D:=HS.o.1;rcases hb:d.bad with _|_
  ·obtain⟨k,hk,iW⟩:=HY.o hb;have ah:=ab iW;rw[hb] at D HS;have c1:=D.cE;have c4:=D.gS;have c6:=D.zR;have aY:=ab (HL.o.linesLen D);have be:=(D.alloc (.cells #[.int .i64 (d.n:Int)] 3)).gS;have aZ:Hi (w.heap.size<=wr.heap.size):=HF.o.size;have aP:=ab D;clear HY aU hb iW D;have a0:Hi (∀ g,av.ownBlock=some g->g≠w.heap.size):=aO aP.o HL.o.sa (by decide);have m1:Hi (d.ats.length+1<=maxLen):=by show _<=_;have:=V.o;unfold maxLen;omega
   have m2:Hi ((d.ats.length+1)*8<=140737488355328):=by show _<=_;have:=V.o;omega
   have m3:Hi (∀ u∈[Value.int .i64 (d.n:Int)],u.oneCell'=true):=by intro u hu;simp at hu;subst hu;rfl
   obtain⟨i0,hi,O,P,Q⟩:=info_parts Tryz.xZ;go_wp2
   go_region_law (refine eG rfl (.tmp 18) (.tmp 23) 160 rfl 0 3 i0 (.int .i64 0) 1 8 Tryz.underlying160 hi O P Q rfl (by decide) av d.ats.length (ints d.ats) (by simp[Act.eval]) (by exact bT (o:=.cells #[.int .i64 (d.n:Int)] 3) HL.o.sa (by rfl)) ⟨wr.heap.size,0,none⟩ 1 1 (by omega) [.int .i64 (d.n:Int)] (by simp[Act.eval]) rfl (by exact dp (w:=wr) (t:=3) (x:=.int .i64 (d.n:Int)) rfl (by rfl)) m3.o m1.o m2.o (Nat.zero_le _) ?_;intro v' w' iE aV bk;obtain⟨gn,aq,rfl,a9⟩:=bk;have l:=jS (o:=.cells #[.int .i64 (d.n:Int)] 3) (by rfl) aP.o aV a0.o;have q4:=l.gS;have qf:=l.free 4;have HE:=ab (IH (x:=d.n) (ob:=.cells #[.int .i64 (d.n:Int)] 3) (by rfl) (by rfl) (by rfl) (by rfl) HL.o HS.o (Nat.le_refl _) iE aV ⟨gn,aq,rfl,a9⟩ aZ.o);clear iE aV a9 l)
   all_goals
    obtain⟨rW,ba,ao⟩:=HE.o;have am:=ab rW;have ai:=ab ba;have a1:=ab (HF.o.past ao);clear HE rW ba ao q4 qf;generalize w'.setCell ⟨w.heap.size,4,none⟩ (.slice (some ⟨gn,0,none⟩) (d.ats.length+1) aq)=w2 at *;generalize (Value.slice (some ⟨gn,0,none⟩) (d.ats.length+1) aq)=a2 at *;clear aP HS HL HF aZ a0 m1 m2 m3 hi O P Q c1 c4 c6 be;go_wp2_with fail;refine(wU ai.o.1 aN a8).mono ?_;rintro e w3 ⟨rfl,aF,bb,bl⟩
    have an:=ab (am.o.ae aF (fun g hg e=>by
     rcases hg with h|h|h
     ·exact aO ai.o.1 am.o.sl (by decide) g h e
     ·exact aO ai.o.1 am.o.sa (by decide) g h e
     ·exact aO ai.o.1 am.o.sr (by decide) g h e))
    have aj:=ab (ai.o.self (.inl rfl) aF bb);have a3:=ab (a1.o.past (aF.mono (fun k _ e=>by have e':k=w.heap.size:=e;omega)));clear aF bb am ai a1;go_wp2_with fail;refine(lu aj.o.1 aN bl 61 61 rfl (by omega)).mono ?_;rintro e w4 ⟨rfl,aG,bc,bm⟩
    have I:=ab (an.o.ae aG (fun g hg e=>by
     rcases hg with h|h|h
     ·exact aO aj.o.1 an.o.sl (by decide) g h e
     ·exact aO aj.o.1 an.o.sa (by decide) g h e
     ·exact aO aj.o.1 an.o.sr (by decide) g h e))
    have J:=ab (aj.o.self (.inl rfl) aG bc);have aQ:=ab (a3.o.past (aG.mono (fun k _ e=>by have e':k=w.heap.size:=e;omega)));clear aG bc an aj a3;have bo:=Nat.le_trans (m9 s d.n false) (j7 s (bg s d.n false) (bG s d.n false) 61);go_wp2_with fail;refine(Dc hs (s.size+1) w4 (XL w.heap.size lv a2 U) w.heap.size _ _ tv lv a2 U d.tab J (.inl rfl) (fun b hb=>?_) bm (.inr (by omega)) (by have:=aD.o;omega)).mono ?_
    ·rcases hb with h|h
     ·have:=lt_of_heap J.o.1;omega
     ·exact I.o.lt b h
    have mV:=kG s (s.size+2) ⟨dQ s (bg s d.n false) (bG s d.n false) 61,fl s (bg s d.n false) (bG s d.n false) 61,d.tab⟩;simp only at mV;have a4:Hi (jd s d=bW s (s.size+2) ⟨dQ s (bg s d.n false) (bG s d.n false) 61,fl s (bg s d.n false) (bG s d.n false) 61,d.tab⟩):=rfl;generalize bW s (s.size+2) ⟨dQ s (bg s d.n false) (bG s d.n false) 61,fl s (bg s d.n false) (bG s d.n false) 61,d.tab⟩=r at *;rintro e w5 ⟨rfl,aW,aH,ar,aX,aL⟩
    have H:=ab (I.o.ae aW (fun g hg e=>by
     rcases e with e|e
     ·rcases hg with h|h|h
      ·exact aO J.o.1 I.o.sl (by decide) g h e
      ·exact aO J.o.1 I.o.sa (by decide) g h e
      ·exact aO J.o.1 I.o.sr (by decide) g h e
     ·rcases hg with h|h|h
      ·exact J.o.ij I.o.sl (by decide) g h e
      ·exact J.o.ij I.o.sa (by decide) g h e
      ·exact J.o.ij I.o.sr (by decide) g h e))
    have aa:Hi (∀ g,ar.ownBlock=some g->w.heap.size<=g):=fun g hg=>by
     rcases aL g hg with h|h
     ·exact aE.o g h
     ·have:=aQ.o.size;omega
    have ak:=ab (aQ.o.past (aW.mono (fun k _ e=>by
     rcases e with e|e
     ·omega
     ·exact aE.o k e)))
    have S:=ab aX;have hD:=aX.1;have c3:=hD.dw;have E:=ab hD;have K:Hi (w.heap.size<=w5.heap.size):=ak.o.size;have ap:Hi (∀ g,lv.ownBlock=some g->g≠w.heap.size):=aO hD H.o.sl (by decide);have m1:Hi (d.lines.length+1<=maxLen):=by show _<=_;unfold maxLen;omega
    have m2:Hi ((d.lines.length+1)*16<=140737488355328):=by show _<=_;omega
    generalize a5:cM s d.n false=nm at *;have bf:=ab a5;have m3:Hi (∀ u∈[Value.string nm],u.oneCell'=true):=by intro u hu;simp at hu;subst hu;rfl
    obtain⟨i9,hi,O,P,Q⟩:=info_parts Tryz.Aw;clear aW aX aL hD a5 I J aQ aE;have p1:Hi (d.roots.length+1<=maxLen):=by show _<=_;have:=V.o;unfold maxLen;omega
    have p2:Hi ((d.roots.length+1)*8<=140737488355328):=by show _<=_;have:=V.o;omega
    have p3:Hi (∀ u∈[Value.int .i64 (r.2:Int)],u.oneCell'=true):=by intro u hu;simp at hu;subst hu;rfl
    obtain⟨i3,gi,au,aw,ax⟩:=info_parts Tryz.xZ
    have bh:Hi (cm s d=⟨r.1.n,r.1.bad,r.1.tab,d.lines++[nm],d.ats++[d.n],d.roots++[r.2]⟩):=by
     show _=_;unfold cm;rw[a4.o,bf.o]
    have T:Hi (fL s (k+1) d=if(cm s d).bad=true\/(cm s d).n=s.size then cm s d else
      if(cm s d).lines.length=10 then vY (cm s d) else
      if(gy s (cm s d)).bad=true then gy s (cm s d) else fL s k (gy s (cm s d))):=rfl
    rw[bh.o] at T
    have m:Hi ((d.ats++[d.n]).length=(d.lines++[nm]).length/\(d.roots++[r.2]).length=(d.lines++[nm]).length/\(d.lines++[nm]).length<=10):=by
     have:=V.o
     show _/\_/\_;simp only[List.length_append,List.length_cons,List.length_nil];omega
    have aR:Hi (r.1.tab.length<=1000):=by show _<=_;have:=aD.o;omega
    have a6:Hi (r.1.tab.length+(s.size-r.1.n)<=401+(d.lines++[nm]).length):=by
     have:=aD.o
     show _<=_;simp only[List.length_append,List.length_cons,List.length_nil];omega
    clear a4;rcases hbb:r.1.bad with _|_
    ·rw[hbb] at S E
     by_cases ac:r.1.n=s.size
     ·have hq:((r.1.n:Int)==(s.size:Int))=true:=beq_iff_eq.2 (by omega);have HT:Hi (fL s 10 ⟨0,false,[],[],[],[]⟩=⟨r.1.n,r.1.bad,r.1.tab,d.lines++[nm],d.ats++[d.n],d.roots++[r.2]⟩):=ah.o.trans (T.o.trans (by rw[if_pos (.inr ac)]));have al:=ab hbb;clear ac hbb T ah
      go_wp2_with (first|(at_builtin;refine az _ rfl (.tmp 37) (.tmp 39) 159 rfl 0 9 i9 (.string ⟨#[]⟩) 1 16 Tryz.underlying159 hi O P Q rfl (by decide) lv d.lines.length (texts d.lines) rfl (by exact bT (o:=.cells #[.string nm] 9) H.o.sl (by rfl)) ⟨w5.heap.size,0,none⟩ 1 1 (by omega) [.string nm] rfl rfl (by exact dp (w:=w5) (t:=9) (x:=.string nm) rfl (by rfl)) m3.o m1.o m2.o (Nat.zero_le _) ?_;intro v6 W F z X;obtain⟨Y,i,rfl,p⟩:=X;have l:=jS (o:=.cells #[.string nm] 9) (by rfl) E.o z ap.o;have q3:=l.dw;have qf:=l.free 3;have a:=ab (FP (x:=nm) (ob:=.cells #[.string nm] 9) (by rfl) (by rfl) (by rfl) (by rfl) H.o S.o (Nat.le_refl _) F z ⟨Y,i,rfl,by simpa using p⟩ K.o);have q5:=a.o.2.1.1.n9;have ay:=a.o.2.1.1.free 5;have L:Hi (w.heap.size<=(W.setCell ⟨w.heap.size,3,none⟩ (.slice (some ⟨Y,0,none⟩) (d.lines.length+1) i)).heap.size):=Nat.le_trans K.o a.o.2.2.size;have M:Hi (∀ g,U.ownBlock=some g->g≠w.heap.size):=aO a.o.2.1.1 a.o.1.sr (by decide);clear F z p l)|(at_builtin;refine az _ rfl (.tmp 47) (.tmp 49) 160 rfl 0 3 i3 (.int .i64 0) 1 8 Tryz.underlying160 gi au aw ax rfl (by decide) U d.roots.length (ints d.roots) rfl (by exact bT (o:=.cells #[.int .i64 (r.2:Int)] 3) a.o.1.sr (by rfl)) ⟨W.heap.size,0,none⟩ 1 1 (by omega) [.int .i64 (r.2:Int)] rfl rfl (by exact dp (w:=(W.setCell ⟨w.heap.size,3,none⟩ (.slice (some ⟨Y,0,none⟩) (d.lines.length+1) i))) (t:=3) (x:=.int .i64 (r.2:Int)) (by simp[World.setCell]) (by rfl)) p3.o p1.o p2.o (Nat.zero_le _) ?_;intro v8 w8 G A Z;obtain⟨g8,B,rfl,q⟩:=Z;have f:=jS (o:=.cells #[.int .i64 (r.2:Int)] 3) (by rfl) a.o.2.1.1 A M.o;have r5:=f.n9;have aA:=f.free 5;have c:=ab (FO (x:=r.2) (ob:=.cells #[.int .i64 (r.2:Int)] 3) (by rfl) (by rfl) (by rfl) (by rfl) a.o.1 a.o.2.1 (Nat.le_refl _) G A ⟨g8,B,rfl,by simpa using q⟩ L.o);have r6:=c.o.2.1.1.zR;have r1:=c.o.2.1.1.cE;have r3:=c.o.2.1.1.dw;have aB:=c.o.2.1.1.free 6;clear G A q f))
      go_ret;obtain⟨C,y,R⟩:=c.o;have N:=ab ((ak.o.past a.o.2.2).past R);rw[HT.o,al.o];exact⟨rfl,N,aH,ar,_,a2,_,y,C,aa,m.o.2.2,m.o.1,m.o.2.1,aR⟩
     ·have hq:((r.1.n:Int)==(s.size:Int))=false:=beq_eq_false_iff_ne.2 (by omega)
      have ad:Hi (fL s 10 ⟨0,false,[],[],[],[]⟩=if(⟨r.1.n,r.1.bad,r.1.tab,d.lines++[nm],d.ats++[d.n],d.roots++[r.2]⟩:RD).lines.length=10 then vY ⟨r.1.n,r.1.bad,r.1.tab,d.lines++[nm],d.ats++[d.n],d.roots++[r.2]⟩ else
        if(gy s ⟨r.1.n,r.1.bad,r.1.tab,d.lines++[nm],d.ats++[d.n],d.roots++[r.2]⟩).bad=true then gy s ⟨r.1.n,r.1.bad,r.1.tab,d.lines++[nm],d.ats++[d.n],d.roots++[r.2]⟩ else fL s k (gy s ⟨r.1.n,r.1.bad,r.1.tab,d.lines++[nm],d.ats++[d.n],d.roots++[r.2]⟩)):=ah.o.trans (T.o.trans (by rw[if_neg (by rw[hbb];simp;exact ac)]))
      have al:=ab hbb;clear ac hbb T ah
      by_cases aS:d.lines.length+1=10
      ·have iD:((d.lines.length:Int)+1==10)=true:=beq_iff_eq.2 (by omega);have HT:Hi (fL s 10 ⟨0,false,[],[],[],[]⟩=vY ⟨r.1.n,r.1.bad,r.1.tab,d.lines++[nm],d.ats++[d.n],d.roots++[r.2]⟩):=ad.o.trans (by rw[if_pos (by simp only[List.length_append,List.length_cons,List.length_nil];omega)]);clear aS ad
       go_wp2_with (first|(at_builtin;refine az _ rfl (.tmp 37) (.tmp 39) 159 rfl 0 9 i9 (.string ⟨#[]⟩) 1 16 Tryz.underlying159 hi O P Q rfl (by decide) lv d.lines.length (texts d.lines) rfl (by exact bT (o:=.cells #[.string nm] 9) H.o.sl (by rfl)) ⟨w5.heap.size,0,none⟩ 1 1 (by omega) [.string nm] rfl rfl (by exact dp (w:=w5) (t:=9) (x:=.string nm) rfl (by rfl)) m3.o m1.o m2.o (Nat.zero_le _) ?_;intro v6 W F z X;obtain⟨Y,i,rfl,p⟩:=X;have l:=jS (o:=.cells #[.string nm] 9) (by rfl) E.o z ap.o;have q3:=l.dw;have qf:=l.free 3;have a:=ab (FP (x:=nm) (ob:=.cells #[.string nm] 9) (by rfl) (by rfl) (by rfl) (by rfl) H.o S.o (Nat.le_refl _) F z ⟨Y,i,rfl,by simpa using p⟩ K.o);have q5:=a.o.2.1.1.n9;have ay:=a.o.2.1.1.free 5;have L:Hi (w.heap.size<=(W.setCell ⟨w.heap.size,3,none⟩ (.slice (some ⟨Y,0,none⟩) (d.lines.length+1) i)).heap.size):=Nat.le_trans K.o a.o.2.2.size;have M:Hi (∀ g,U.ownBlock=some g->g≠w.heap.size):=aO a.o.2.1.1 a.o.1.sr (by decide);clear F z p l)|(at_builtin;refine az _ rfl (.tmp 47) (.tmp 49) 160 rfl 0 3 i3 (.int .i64 0) 1 8 Tryz.underlying160 gi au aw ax rfl (by decide) U d.roots.length (ints d.roots) rfl (by exact bT (o:=.cells #[.int .i64 (r.2:Int)] 3) a.o.1.sr (by rfl)) ⟨W.heap.size,0,none⟩ 1 1 (by omega) [.int .i64 (r.2:Int)] rfl rfl (by exact dp (w:=(W.setCell ⟨w.heap.size,3,none⟩ (.slice (some ⟨Y,0,none⟩) (d.lines.length+1) i))) (t:=3) (x:=.int .i64 (r.2:Int)) (by simp[World.setCell]) (by rfl)) p3.o p1.o p2.o (Nat.zero_le _) ?_;intro v8 w8 G A Z;obtain⟨g8,B,rfl,q⟩:=Z;have f:=jS (o:=.cells #[.int .i64 (r.2:Int)] 3) (by rfl) a.o.2.1.1 A M.o;have r5:=f.n9;have aA:=f.free 5;have c:=ab (FO (x:=r.2) (ob:=.cells #[.int .i64 (r.2:Int)] 3) (by rfl) (by rfl) (by rfl) (by rfl) a.o.1 a.o.2.1 (Nat.le_refl _) G A ⟨g8,B,rfl,by simpa using q⟩ L.o);have r6:=c.o.2.1.1.zR;have r1:=c.o.2.1.1.cE;have r3:=c.o.2.1.1.dw;have aB:=c.o.2.1.1.free 6;clear G A q f))
       go_ret;obtain⟨C,y,R⟩:=c.o;have N:=ab ((ak.o.past a.o.2.2).past R);have aT:Fr (One w.heap.size) (w8.setCell ⟨w.heap.size,5,none⟩ (.slice (some ⟨g8,0,none⟩) (d.roots.length+1) B)) ((w8.setCell ⟨w.heap.size,5,none⟩ (.slice (some ⟨g8,0,none⟩) (d.roots.length+1) B)).setCell ⟨w.heap.size,6,none⟩ (.bool true)):=Fr.setCell _ _ _ _ rfl;rw[HT.o];refine⟨rfl,N.o.past (aT.mono (fun k _ e=>by have e':k=w.heap.size:=e;omega)),aH,ar,_,a2,_,y.self (.inl rfl) aT (y.1.py true),C.ae aT (fun g hg e=>?_),aa,m.o.2.2,m.o.1,m.o.2.1,aR⟩;rcases hg with h|h|h
       ·exact aO y.1 C.sl (by decide) g h e
       ·exact aO y.1 C.sa (by decide) g h e
       ·exact aO y.1 C.sr (by decide) g h e
      ·have iD:((d.lines.length:Int)+1==10)=false:=beq_eq_false_iff_ne.2 (by omega);have aI:Hi (fL s 10 ⟨0,false,[],[],[],[]⟩=if(gy s ⟨r.1.n,r.1.bad,r.1.tab,d.lines++[nm],d.ats++[d.n],d.roots++[r.2]⟩).bad=true then gy s ⟨r.1.n,r.1.bad,r.1.tab,d.lines++[nm],d.ats++[d.n],d.roots++[r.2]⟩ else fL s k (gy s ⟨r.1.n,r.1.bad,r.1.tab,d.lines++[nm],d.ats++[d.n],d.roots++[r.2]⟩)):=ad.o.trans (by rw[if_neg (by simp only[List.length_append,List.length_cons,List.length_nil];omega)]);have bi:=ab aS;clear aS ad
       go_wp2_with (first|(at_builtin;refine az _ rfl (.tmp 37) (.tmp 39) 159 rfl 0 9 i9 (.string ⟨#[]⟩) 1 16 Tryz.underlying159 hi O P Q rfl (by decide) lv d.lines.length (texts d.lines) rfl (by exact bT (o:=.cells #[.string nm] 9) H.o.sl (by rfl)) ⟨w5.heap.size,0,none⟩ 1 1 (by omega) [.string nm] rfl rfl (by exact dp (w:=w5) (t:=9) (x:=.string nm) rfl (by rfl)) m3.o m1.o m2.o (Nat.zero_le _) ?_;intro v6 W F z X;obtain⟨Y,i,rfl,p⟩:=X;have l:=jS (o:=.cells #[.string nm] 9) (by rfl) E.o z ap.o;have q3:=l.dw;have qf:=l.free 3;have a:=ab (FP (x:=nm) (ob:=.cells #[.string nm] 9) (by rfl) (by rfl) (by rfl) (by rfl) H.o S.o (Nat.le_refl _) F z ⟨Y,i,rfl,by simpa using p⟩ K.o);have q5:=a.o.2.1.1.n9;have ay:=a.o.2.1.1.free 5;have L:Hi (w.heap.size<=(W.setCell ⟨w.heap.size,3,none⟩ (.slice (some ⟨Y,0,none⟩) (d.lines.length+1) i)).heap.size):=Nat.le_trans K.o a.o.2.2.size;have M:Hi (∀ g,U.ownBlock=some g->g≠w.heap.size):=aO a.o.2.1.1 a.o.1.sr (by decide);clear F z p l)|(at_builtin;refine az _ rfl (.tmp 47) (.tmp 49) 160 rfl 0 3 i3 (.int .i64 0) 1 8 Tryz.underlying160 gi au aw ax rfl (by decide) U d.roots.length (ints d.roots) rfl (by exact bT (o:=.cells #[.int .i64 (r.2:Int)] 3) a.o.1.sr (by rfl)) ⟨W.heap.size,0,none⟩ 1 1 (by omega) [.int .i64 (r.2:Int)] rfl rfl (by exact dp (w:=(W.setCell ⟨w.heap.size,3,none⟩ (.slice (some ⟨Y,0,none⟩) (d.lines.length+1) i))) (t:=3) (x:=.int .i64 (r.2:Int)) (by simp[World.setCell]) (by rfl)) p3.o p1.o p2.o (Nat.zero_le _) ?_;intro v8 w8 G A Z;obtain⟨g8,B,rfl,q⟩:=Z;have f:=jS (o:=.cells #[.int .i64 (r.2:Int)] 3) (by rfl) a.o.2.1.1 A M.o;have r5:=f.n9;have aA:=f.free 5;have c:=ab (FO (x:=r.2) (ob:=.cells #[.int .i64 (r.2:Int)] 3) (by rfl) (by rfl) (by rfl) (by rfl) a.o.1 a.o.2.1 (Nat.le_refl _) G A ⟨g8,B,rfl,by simpa using q⟩ L.o);have r6:=c.o.2.1.1.zR;have r1:=c.o.2.1.1.cE;have r3:=c.o.2.1.1.dw;have aB:=c.o.2.1.1.free 6;clear G A q f))
       obtain⟨C,y,R⟩:=c.o;have N:=ab ((ak.o.past a.o.2.2).past R);refine(lu y.1 aN aH 10 10 rfl (by omega)).mono ?_;rintro e bn ⟨rfl,ag,aM,bd⟩
       have aJ:=ab (C.ae ag (fun g hg e=>by
        rcases hg with h|h|h
        ·exact aO y.1 C.sl (by decide) g h e
        ·exact aO y.1 C.sa (by decide) g h e
        ·exact aO y.1 C.sr (by decide) g h e))
       have aK:=ab (y.self (.inl rfl) ag aM);have a7:=ab (N.o.past (ag.mono (fun k _ e=>by have e':k=w.heap.size:=e;omega)));clear C y R ag aM c a N H S ak E q3 qf q5 ay r5 aA r6 r1 r3 aB K L ap M m1 m2 m3 p1 p2 p3 hi O P Q gi au aw ax c3;go_wp2
       go_roundw
       case rel =>
        have bp:=j7 s r.1.n r.1.bad 10
        have:=bi.o
        have aC:gy s ⟨r.1.n,r.1.bad,r.1.tab,d.lines++[nm],d.ats++[d.n],d.roots++[r.2]⟩=⟨dQ s r.1.n r.1.bad 10,fl s r.1.n r.1.bad 10,r.1.tab,d.lines++[nm],d.ats++[d.n],d.roots++[r.2]⟩:=rfl;refine⟨rfl,gy s ⟨r.1.n,r.1.bad,r.1.tab,d.lines++[nm],d.ats++[d.n],d.roots++[r.2]⟩,ar,_,a2,_,(by rw[aC,al.o];exact bd),(fun hf=>⟨k-1,(by rw[aC];simp only[List.length_append,List.length_cons,List.length_nil];omega),?_⟩),(fun hf=>aI.o.trans (by rw[if_pos hf])),?_,m.o.2.2,⟨m.o.1,m.o.2.1⟩,(by rw[aC,al.o];exact aK),aJ,aa,a7⟩
        ·rw[show k-1+1=k by omega];exact aI.o.trans (by rw[if_neg (by rw[hf];simp)])
        ·show _<=_
         have:=a6.o
         rw[aC];show r.1.tab.length+(s.size-dQ s r.1.n r.1.bad 10)<=401+(d.lines++[nm]).length;omega
       case measure =>
        show 11-ix w.heap.size bn<11-ix w.heap.size wr;rw[aY.o,aJ.o.linesLen aK.o.1];simp only[List.length_append,List.length_cons,List.length_nil];omega
    ·rw[hbb] at S E;have HT:Hi (fL s 10 ⟨0,false,[],[],[],[]⟩=⟨r.1.n,r.1.bad,r.1.tab,d.lines++[nm],d.ats++[d.n],d.roots++[r.2]⟩):=ah.o.trans (T.o.trans (by rw[if_pos (.inl hbb)]));have al:=ab hbb;clear hbb T ah
     go_wp2_with (first|(at_builtin;refine az _ rfl (.tmp 37) (.tmp 39) 159 rfl 0 9 i9 (.string ⟨#[]⟩) 1 16 Tryz.underlying159 hi O P Q rfl (by decide) lv d.lines.length (texts d.lines) rfl (by exact bT (o:=.cells #[.string nm] 9) H.o.sl (by rfl)) ⟨w5.heap.size,0,none⟩ 1 1 (by omega) [.string nm] rfl rfl (by exact dp (w:=w5) (t:=9) (x:=.string nm) rfl (by rfl)) m3.o m1.o m2.o (Nat.zero_le _) ?_;intro v6 W F z X;obtain⟨Y,i,rfl,p⟩:=X;have l:=jS (o:=.cells #[.string nm] 9) (by rfl) E.o z ap.o;have q3:=l.dw;have qf:=l.free 3;have a:=ab (FP (x:=nm) (ob:=.cells #[.string nm] 9) (by rfl) (by rfl) (by rfl) (by rfl) H.o S.o (Nat.le_refl _) F z ⟨Y,i,rfl,by simpa using p⟩ K.o);have q5:=a.o.2.1.1.n9;have ay:=a.o.2.1.1.free 5;have L:Hi (w.heap.size<=(W.setCell ⟨w.heap.size,3,none⟩ (.slice (some ⟨Y,0,none⟩) (d.lines.length+1) i)).heap.size):=Nat.le_trans K.o a.o.2.2.size;have M:Hi (∀ g,U.ownBlock=some g->g≠w.heap.size):=aO a.o.2.1.1 a.o.1.sr (by decide);clear F z p l)|(at_builtin;refine az _ rfl (.tmp 47) (.tmp 49) 160 rfl 0 3 i3 (.int .i64 0) 1 8 Tryz.underlying160 gi au aw ax rfl (by decide) U d.roots.length (ints d.roots) rfl (by exact bT (o:=.cells #[.int .i64 (r.2:Int)] 3) a.o.1.sr (by rfl)) ⟨W.heap.size,0,none⟩ 1 1 (by omega) [.int .i64 (r.2:Int)] rfl rfl (by exact dp (w:=(W.setCell ⟨w.heap.size,3,none⟩ (.slice (some ⟨Y,0,none⟩) (d.lines.length+1) i))) (t:=3) (x:=.int .i64 (r.2:Int)) (by simp[World.setCell]) (by rfl)) p3.o p1.o p2.o (Nat.zero_le _) ?_;intro v8 w8 G A Z;obtain⟨g8,B,rfl,q⟩:=Z;have f:=jS (o:=.cells #[.int .i64 (r.2:Int)] 3) (by rfl) a.o.2.1.1 A M.o;have r5:=f.n9;have aA:=f.free 5;have c:=ab (FO (x:=r.2) (ob:=.cells #[.int .i64 (r.2:Int)] 3) (by rfl) (by rfl) (by rfl) (by rfl) a.o.1 a.o.2.1 (Nat.le_refl _) G A ⟨g8,B,rfl,by simpa using q⟩ L.o);have r6:=c.o.2.1.1.zR;have r1:=c.o.2.1.1.cE;have r3:=c.o.2.1.1.dw;have aB:=c.o.2.1.1.free 6;clear G A q f))
     go_ret;obtain⟨C,y,R⟩:=c.o;have N:=ab ((ak.o.past a.o.2.2).past R);rw[HT.o,al.o];exact⟨rfl,N,aH,ar,_,a2,_,y,C,aa,m.o.2.2,m.o.1,m.o.2.1,aR⟩
  ·have HR:=ab (aU.o hb);rw[hb] at D HS;have c6:=D.zR;have bj:=ab hb;clear HY aU hb D;go_wp2;go_ret;rw[HR.o];exact⟨rfl,HF,a8,tv,lv,av,U,(by rw[bj.o];exact HS),HL,aE,k9,V.o.1,V.o.2,by have:=aD.o;omega⟩
def p7(nm:ByteArray):List (ByteArray×Nat)->Option Nat
 | []=>none
 | p::r=>if p.1=nm then some p.2 else p7 nm r
def fN(lines:List ByteArray)(roots:List Nat)(nm:ByteArray)(i:Nat):Option Nat:=p7 nm ((lines.zip roots).take i)
def jG(o:Option Nat):Int:=match o with
 | some x=>(x:Int)
 | none=>-1
theorem yD{l:List (ByteArray×Nat)}:(∀(j:Nat) (q:ByteArray×Nat),l[j]?=some q->q.1≠nm)->p7 nm l=none:=by
 induction l with
 | nil=>intro _;rfl
 | cons p r ih =>
  intro h;rw[p7,if_neg (h 0 p rfl)];exact ih (fun j q hq=>h (j+1) q (by simpa using hq))
theorem yC{l:List (ByteArray×Nat)}:∀(k:Nat) (p:ByteArray×Nat),l[k]?=some p->p.1=nm->(∀(j:Nat) (q:ByteArray×Nat),j<k->l[j]?=some q->q.1≠nm)->p7 nm l=some p.2:=by
 induction l with
 | nil=>intro k p h;simp at h
 | cons q r ih =>
  intro k p h a b;cases k with
  | zero=>simp at h;subst h;rw[p7,if_pos a]
  | succ k =>
   rw[p7,if_neg (b 0 q (by omega) rfl)];exact ih k p (by simpa using h) a (fun j q' hj hq=>b (j+1) q' (by omega) (by simpa using hq))
theorem fK{e:TypeId}{au k:Nat}{base:Nat}(h:w.ownsRow base e 1 (.slice (some ⟨g,0,none⟩) n au) n xs)(hk:k<n):w.cell? ⟨g,k,none⟩=xs[k]?:=h.cellAt k (by omega)
theorem sY{lines:List ByteArray}(hD:DB w db s n bad tv lv av rv)(hL:LD w B lv av rv lines ats roots)(hr:roots.length=lines.length)(hl:lines.length<=1000)(nm:ByteArray)(i:Nat)(hi:i<=lines.length):
  Calls Tryz.prog 78 #[.pointer (some ⟨db,0,none⟩),.string nm,.int .i64 i] w fun e w'=>e=.returned (.int .i64 (jG (fN lines roots nm i)))/\w'=w:=by
 have O:=hD.dw;have P:=hD.n9;have f:=ab hL
 by_cases r:lines=[]
 ·have g:i=0:=by rw[r] at hi;simpa using hi
  have F:Hi (fN lines roots nm i=none):=ab (by rw[r,g];rfl);subst g;go_enter Tryz.func78,Tryz.ntmps78;go_wp2;refine wp_loop_rounds 1 ?_;rw[rounds_succ];go_wp2;go_ret;rw[F.o];exact⟨rfl,rfl⟩
 ·have mi:0<lines.length:=List.length_pos_iff.2 r;rcases f.o.sl.2 with⟨_,e⟩|⟨K,Q,D,L,_⟩
  ·omega
  rcases f.o.sr.2 with⟨_,e⟩|⟨M,R,E,N,_⟩
  ·have:=hr;omega
  have h:=f.o.sl;have l:=f.o.sr;subst L N;go_enter Tryz.func78,Tryz.ntmps78;go_wp2
  go_loop [7] (fun kv=>∃ k:Nat,k<=i/\kv=.int .i64 k/\Hi (∀(j:Nat) (q:ByteArray×Nat),j<k->(lines.zip roots)[j]?=some q->q.1≠nm)) (fun kv=>i-(intOf kv).toNat)
  case atStart=>exact⟨0,by omega,rfl,fun j q d=>by omega⟩
  case round =>
   obtain⟨k,S,rfl,z⟩:=hrel
   by_cases v:k<i
   ·have m:k<lines.length:=by omega
    have p:k<roots.length:=by have:=hr;omega
    have pC:w.cell? ⟨K,k,none⟩=some (.string lines[k]):=by rw[fK h m];simp[texts,m]
    have G:w.cell? ⟨M,k,none⟩=some (.int .i64 (roots[k]:Nat)):=by rw[fK l p];simp[ints,p]
    have H:((k:Nat):Int)<((roots.length:Nat):Int):=by omega
    have I:((k:Nat):Int)<((lines.length:Nat):Int):=by omega
    have C:Hi ((lines.zip roots)[k]?=some (lines[k],roots[k])):=ab (by rw[List.getElem?_eq_getElem (by simp;omega)];simp)
    by_cases c:lines[k]=nm
    ·have J:(lines[k].toList==nm.toList)=true:=by rw[fJ];simp[c]
     generalize lines[k]=a at *;generalize roots[k]=b at *;go_wp2;go_ret
     have e:fN lines roots nm i=some b:=by
      unfold fN;refine yC k (a,b) ?_ c (fun j q d c=>?_)
      ·rw[List.getElem?_take_of_lt v];exact C.o
      ·rw[List.getElem?_take_of_lt (by omega)] at c;exact z.o j q d c
     rw[e];exact⟨rfl,rfl⟩
    ·have J:(lines[k].toList==nm.toList)=false:=by rw[fJ];simp[c]
     generalize lines[k]=a at *;generalize roots[k]=b at *;go_wp2
     go_round
     case rel =>
      refine⟨k+1,by omega,by go_num,fun j q d c=>?_⟩
      by_cases e:j<k
      ·exact z.o j q e c
      ·have:j=k:=by omega
       subst this;rw[C.o] at c;cases c;exact c
     case measure=>simp[intOf];omega
   ·have y:k=i:=by omega
    subst y
    have e:Hi (fN lines roots nm k=none):=by
     show _=_;unfold fN;refine yD (fun j q c=>?_)
     by_cases d:j<k
     ·rw[List.getElem?_take_of_lt d] at c;exact z.o j q d c
     ·rw[List.getElem?_eq_none (by rw[List.length_take];omega)] at c;cases c
    go_wp2;go_ret;rw[e.o];exact⟨rfl,rfl⟩
def rowAt(tab:List RT)(x:Nat):RT:=(tab[x]?).getD ⟨0,[],[],[]⟩
def bF(l:List ByteArray)(k:Nat):ByteArray:=(l[k]?).getD ⟨#[]⟩
def aj(l:List Nat)(k:Nat):Nat:=(l[k]?).getD 0
def gE(l:List ByteArray)(k:Nat):Nat->Nat->Bool
 | 0,_=>false
 | m+1,j=>decide (bF l j=bF l k)||gE l k m (j+1)
def dup(l:List ByteArray)(k:Nat):Bool:=!l.isEmpty&&gE l k k 0
def dC(rd:List RT->Nat->Option Nat×List RT)(t:RT):Nat->Nat->List RT->Option Nat×List RT
 | 0,_,tab=>(none,tab)
 | m+1,k,tab =>
  if dup t.names k=true then(some (aj t.ats k),tab) else
  match (rd tab (aj t.of k)).1 with
  | some a=>(some a,(rd tab (aj t.of k)).2)
  | none=>dC rd t m (k+1) (rd tab (aj t.of k)).2
def aV(lines:List ByteArray)(roots:List Nat)(i:Nat):Nat->List RT->Nat->Option Nat×List RT
 | 0=>fun tab _=>(none,tab)
 | f+1=>fun tab x =>
  if(rowAt tab x).kind=11 then
   match fN lines roots (bF (rowAt tab x).names 0) i with
   | none=>(some (aj (rowAt tab x).ats 0),tab)
   | some to=>(none,tab.set x ⟨11,[to],(rowAt tab x).names,(rowAt tab x).ats⟩)
  else dC (aV lines roots i f) (rowAt tab x) (rowAt tab x).of.length 0 tab
def W1(tab:List RT):Prop:=∀(x:Nat) (t:RT),tab[x]?=some t->(t.kind≠11->(∀ y∈t.of,y<x)/\((t.names=[]/\t.kind<=8)\/(t.names.length=t.of.length/\t.ats.length=t.of.length)))/\(t.kind=11->t.names.length=1/\t.ats.length=1)
theorem W1.set(h:W1 tab){to:Nat}(hx:tab[x]?=some t)(hk:t.kind=11):W1 (tab.set x ⟨11,[to],t.names,t.ats⟩):=by
 intro y u a
 by_cases e:y=x
 ·subst e;have b:y<tab.length:=(List.getElem?_eq_some_iff.1 hx).1;rw[List.getElem?_set_self b] at a;cases a;exact⟨fun h=>absurd rfl h,fun _=>(h y t hx).2 hk⟩
 ·rw[List.getElem?_set_ne (fun e'=>e e'.symm)] at a;exact h y u a
theorem iO(lines:List ByteArray)(roots:List Nat)(i:Nat):∀(f:Nat) (tab:List RT) (x:Nat),W1 tab->x<tab.length->W1 (aV lines roots i f tab x).2/\(aV lines roots i f tab x).2.length=tab.length:=by
 intro f
 induction f with
 | zero=>intro tab x h _;exact⟨h,rfl⟩
 | succ f ih =>
  intro tab x h p;have n:tab[x]?=some (rowAt tab x):=by unfold rowAt;simp[p]
  simp only[aV]
  split
  ·rename_i l
   split
   ·exact⟨h,rfl⟩
   ·exact⟨h.set n l,by simp⟩
  ·rename_i l;have e:=((h x _ n).1 l).1
   have g:∀(m k:Nat) (a:List RT),W1 a->a.length=tab.length->k+m=(rowAt tab x).of.length->W1 (dC (aV lines roots i f) (rowAt tab x) m k a).2/\(dC (aV lines roots i f) (rowAt tab x) m k a).2.length=tab.length:=by
    intro m
    induction m with
    | zero=>intro k a d b _;exact⟨d,b⟩
    | succ m ihm =>
     intro k a d b q;have j:k<(rowAt tab x).of.length:=by omega
     have o:aj (rowAt tab x).of k<a.length:=by
      have:aj (rowAt tab x).of k∈(rowAt tab x).of:=by unfold aj;simp[j]
      have:=e _ this
      omega
     have c:=ih a (aj (rowAt tab x).of k) d o;simp only[dC]
     split
     ·exact⟨d,b⟩
     ·split
      ·exact⟨c.1,c.2.trans b⟩
      ·exact ihm (k+1) _ c.1 (c.2.trans b) (by omega)
   exact g _ 0 tab h rfl (by simp)
theorem vM(l:List RV):∀(x:Nat) (r:RV) (o:Value),l[x]?=some r->dZ (l.set x ⟨r.k,o,r.n,r.a⟩)=(dZ l).set (x*4+1) o:=by
 induction l with
 | nil=>intro x r o h;simp at h
 | cons q l ih =>
  intro x r o h;have e:∀(z:RV) (m:List RV),dZ (z::m)=.int .i64 z.k::z.o::z.n::z.a::dZ m:=fun z m=>rfl
  cases x with
  | zero=>simp at h;subst h;rfl
  | succ x =>
   rw[List.set_cons_succ,e,e,ih x r o (by simpa using h),show(x+1)*4+1=(x*4+1)+1+1+1+1 by omega];rfl
theorem mm.set{rows:List RV}(h:mm w X rows tab)(x:Nat){r:RV}(hr:qW w X r t):mm w X (rows.set x r) (tab.set x t):=by
 refine⟨by simp[h.1],fun j p q hp hq=>?_⟩
 by_cases e:j=x
 ·subst e
  have a:j<rows.length:=by
   have:=(List.getElem?_eq_some_iff.1 hp).1
   simpa using this
  rw[List.getElem?_set_self a] at hp;rw[List.getElem?_set_self (by rw[<-h.1];exact a)] at hq;cases hp;cases hq;exact hr
 ·rw[List.getElem?_set_ne (fun e'=>e e'.symm)] at hp hq;exact h.2 j p q hp hq
theorem DS.row(h:DS w X db s n bad tv lv av rv tab)(hx:x<tab.length):
  ∃(g au:Nat) (o nv a:Value),tv=.slice (some ⟨g,0,none⟩) tab.length au/\w.cell? ⟨g,x*4,none⟩=some (.int .i64 (rowAt tab x).kind)/\w.cell? ⟨g,x*4+1,none⟩=some o/\w.cell? ⟨g,x*4+2,none⟩=some nv/\w.cell? ⟨g,x*4+3,none⟩=some a /\
   qW w (XO X tv) ⟨(rowAt tab x).kind,o,nv,a⟩ (rowAt tab x)/\(∀ i,w.frozen? ⟨g,i,none⟩=false) /\
   (∀(w':World) (o':Value) (t':RT),Fr Zero w w'->qW w' (XO X tv) ⟨(rowAt tab x).kind,o',nv,a⟩ t'->DS (w'.setCell ⟨g,x*4+1,none⟩ o') X db s n bad tv lv av rv (tab.set x t')):=by
 obtain⟨B,b,c,f⟩:=h;have l:x<b.length:=by rw[f.1];exact hx
 obtain⟨r,t⟩:∃ r,b[x]?=some r:=⟨b[x],by simp[l]⟩;have m:tab[x]?=some (rowAt tab x):=by unfold rowAt;simp[hx]
 have HJ:=f.2 x r _ t m;obtain⟨F,C,u,v⟩:=r;have p:F=(rowAt tab x).kind:=HJ.1;subst p;obtain⟨G,H,I,J⟩:=vN b x _ t;have cF:=aO B c (by decide);rcases c.2 with⟨_,e⟩|⟨g,au,K,rU,L,D,y⟩
 ·omega
 ·subst rU;have aX:∀ j,j<4->x*4+j<b.length*4:=fun j hj=>by omega
  refine⟨g,au,C,u,v,by rw[f.1],?_,?_,?_,?_,HJ,fun i=>c.frozenAt i,?_⟩
  ·rw[c.cellAt (x*4) (aX 0 (by omega))];exact G
  ·rw[c.cellAt _ (aX 1 (by omega))];exact H
  ·rw[c.cellAt _ (aX 2 (by omega))];exact I
  ·rw[c.cellAt _ (aX 3 (by omega))];exact J
  ·intro w' o' t' z A;have q:=ag c z (fun _ _ h=>h);have d:Fr (One g) w' (w'.setCell ⟨g,x*4+1,none⟩ o'):=Fr.setCell _ _ _ _ rfl;refine⟨d.ae (z.ae B (fun h=>h)) (fun e=>cF g rfl e.symm),b.set x ⟨(rowAt tab x).kind,o',u,v⟩,?_,?_⟩
   ·rw[vM b x ⟨(rowAt tab x).kind,C,u,v⟩ o' t,List.length_set];exact(q.stored (x*4+1) o').1
   ·exact((f.ae z.dV).set x A).ae (d.mono (fun k _ e=>.inr (by have E:k=g:=e;rw[E];rfl)))
def Im(w:World)(X:Nat->Prop)(_B db:Nat)(s:ByteArray)(n:Nat)(bad:Bool)(tv lv av rv:Value)(r:Option Nat×List RT)(e:Ending)(w':World):Prop :=
 e=.returned (.int .i64 (jG r.1))/\Fr (fun k=>tv.ownBlock=some k) w w'/\DS w' X db s n bad tv lv av rv r.2
def zK(lines:List ByteArray)(ats roots:List Nat)(i f:Nat):Prop :=
 ∀(w:World) (X:Nat->Prop) (B db:Nat) (s:ByteArray) (n:Nat) (bad:Bool) (tv lv av rv:Value) (tab:List RT) (x:Nat),DS w X db s n bad tv lv av rv tab->X db->(∀ b,X b->b<w.heap.size)->LD w B lv av rv lines ats roots->W1 tab->x<tab.length->x<f->tab.length<=1000 ->
  Calls Tryz.prog 79 #[.pointer (some ⟨db,0,none⟩),.int .i64 x,.int .i64 i] w fun e w'=>Im w X B db s n bad tv lv av rv (aV lines roots i f tab x) e w'
theorem j6(l:List Nat)(k:Nat)(hk:k<l.length):(ints l)[k]?=some (.int .i64 (aj l k:Nat)):=by simp[ints,aj,hk]
theorem tR(l:List ByteArray)(k:Nat)(hk:k<l.length):(texts l)[k]?=some (.string (bF l k)):=by simp[texts,bF,hk]
theorem SL.open{e:TypeId}{v:Value}(h:SL w X e v xs)(hp:0<xs.length):∃ g au,v=.slice (some ⟨g,0,none⟩) xs.length au/\¬X g/\g<w.heap.size/\∀ k,k<xs.length->w.cell? ⟨g,k,none⟩=xs[k]?:=by
 rcases h.1.2 with⟨_,e⟩|⟨g,au,a,rfl,_⟩
 ·omega
 ·exact⟨g,au,rfl,h.2 g rfl,(h.1.lt g rfl).2,fun k hk=>h.1.cellAt k (by omega)⟩
theorem SL.len{e:TypeId}{a:Option Addr}(h:SL w X e (.slice a n c) xs):n=xs.length:=by
 rcases h.1.2 with⟨q,e⟩|⟨g,au,b,q,_⟩
 ·cases q;omega
 ·cases q;rfl
theorem SL.le{e:TypeId}{v:Value}(h:SL w X e v xs):xs.length<=maxLen:=by
 rcases h.1.2 with⟨q,e⟩|⟨g,au,a,q,_,_,b,c,_⟩
 ·omega
 ·omega
theorem x9{lines:List ByteArray}(hT:zK lines ats roots i f)(hr:roots.length=lines.length)(hl:lines.length<=1000)(hi:i<=lines.length):zK lines ats roots i (f+1):=by
 intro w X B db s n ak N lv av rv c x h hX aH hL hW hx bq br;have HT:=ab hT;have HX:=ab aH;have O:=ab hL;have HW:=ab hW;have P:=ab h;have hD:=h.1;have c2:=hD.fM;have bi:=lt_of_heap hD;have hg:c[x]?=some (rowAt c x):=by unfold rowAt;simp[hx]
 have aD:=ab (hW x _ hg);have bj:((x:Nat):Int)<((c.length:Nat):Int):=by omega
 obtain⟨gt,aO,o,nv,a,rU,t0,t1,t2,t3,hR,FU,ar⟩:=h.row hx;have aT:gt<w.heap.size:=World.block_lt_of_cell? w _ t0;have HR:=ab hR;have aE:=ab ar;have aU:=ab rU;have HD:=ab hD;have bk:w.cell? ⟨db,2,none⟩=some (.slice (some ⟨gt,0,none⟩) c.length aO):=by rw[<-rU];exact c2
 obtain⟨oa,on,oc,ho⟩:=hR.shape o (.inl rfl);obtain⟨na,nn,nc,hn⟩:=hR.shape nv (.inr (.inl rfl));obtain⟨aa,an,ac,ha⟩:=hR.shape a (.inr (.inr rfl));subst ho hn ha;have aW:=ab hr;have xq:=FU (x*4+1);clear hT aH hL hW h hR ar FU rU hD hg c2 hr
 by_cases hk:(rowAt c x).kind=11
 ·have aX:(((rowAt c x).kind:Int)==11)=true:=beq_iff_eq.2 (by omega);have ay:=aD.o.2 hk;obtain⟨M,cn,en,R,au,Z⟩:=HR.o.2.2.1.open (by rw[dY];omega);obtain⟨T,ca,ea,al,aw,ad⟩:=HR.o.2.2.2.open (by rw[bL];omega);simp only at en ea;have aY:=(Z 0 (by rw[dY];omega)).trans (tR _ 0 (by omega));have bl:=(ad 0 (by rw[bL];omega)).trans (j6 _ 0 (by omega));rw[dY,ay.1] at en;rw[bL,ay.2] at ea;cases en;cases ea
  have Q:Hi (aV lines roots i (f+1) c x=match fN lines roots (bF (rowAt c x).names 0) i with
    | none=>(some (aj (rowAt c x).ats 0),c)
    | some to=>(none,c.set x ⟨11,[to],(rowAt c x).names,(rowAt c x).ats⟩)):=by
   show _=_;simp only[aV];rw[if_pos hk]<;>rfl
  have HK:=ab hk;generalize bF (rowAt c x).names 0=nm0 at *;generalize aj (rowAt c x).ats 0=at0 at *;clear Z ad R al ay;generalize BT:(rowAt c x).kind=kd at *;clear BT hk;go_enter Tryz.func79,Tryz.ntmps79;go_wp2_with fail;have U:Fr Zero w (w.alloc (.cells #[.int .i64 (kd:Int),.slice oa on oc,.slice (some ⟨M,0,none⟩) 1 nc,.slice (some ⟨T,0,none⟩) 1 ac] 183)):=Fr.alloc _ _ _;refine(sY (U.ae HD.o (fun h=>h)) (O.o.ae U (fun _ _ h=>h)) aW.o hl nm0 i hi).mono ?_;rintro e w1 ⟨rfl,e1⟩;obtain rfl:=e1.symm;rcases oZ:fN lines roots nm0 i with _|to
  ·have az:Hi (aV lines roots i (f+1) c x=(some at0,c)):=Q.o.trans (by rw[oZ]);clear oZ Q;simp only[jG];go_wp2;go_ret;rw[az.o];exact⟨rfl,U.dV,P.o.cX U⟩
  ·have az:Hi (aV lines roots i (f+1) c x=(none,c.set x ⟨11,[to],(rowAt c x).names,(rowAt c x).ats⟩)):=Q.o.trans (by rw[oZ]);clear oZ Q;simp only[jG];go_wp2;go_ret;rw[az.o];have aA:Fr Zero w ((w.alloc (.cells #[.int .i64 (kd:Int),.slice oa on oc,.slice (some ⟨M,0,none⟩) 1 nc,.slice (some ⟨T,0,none⟩) 1 ac] 183)).alloc (.cells #[.int .i64 (to:Int)] 3)):=U.trans (Fr.alloc _ _ _)
   have R:¬XO X N (w.heap.size+1):=fun hx'=>by
    rcases hx' with A|A
    ·have:=HX.o _ A;omega
    ·have:=P.o.lt _ A;omega
   have aF:kd=11:=HK.o
   have eW:((w.alloc (.cells #[.int .i64 (kd:Int),.slice oa on oc,.slice (some ⟨M,0,none⟩) 1 nc,.slice (some ⟨T,0,none⟩) 1 ac] 183)).alloc (.cells #[.int .i64 (to:Int)] 3)).setCell ⟨gt,x*4+1,none⟩ (.slice (some ⟨w.heap.size+1,0,none⟩) 1 1)=((w.setCell ⟨gt,x*4+1,none⟩ (.slice (some ⟨w.heap.size+1,0,none⟩) 1 1)).alloc (.cells #[.int .i64 (kd:Int),.slice oa on oc,.slice (some ⟨M,0,none⟩) 1 nc,.slice (some ⟨T,0,none⟩) 1 ac] 183)).alloc (.cells #[.int .i64 (to:Int)] 3):=by
    rw[World.setCell_alloc_past _ _ _ _ (by simp;omega),World.setCell_alloc_past _ _ _ _ aT]
   rw[<-eW];refine⟨rfl,aA.dV.trans (Fr.setCell _ _ _ _ (show N.ownBlock=some gt by rw[aU.o];rfl)),?_⟩;have aG:=HR.o.ae (aA.dV (X:=XO X N));exact aE.o _ _ _ aA ⟨aF,SL.GR (w:=w.alloc (.cells #[.int .i64 (kd:Int),.slice oa on oc,.slice (some ⟨M,0,none⟩) 1 nc,.slice (some ⟨T,0,none⟩) 1 ac] 183)) (by simp) _ _ R,aG.2.2.1,aG.2.2.2⟩
 ·have aX:(((rowAt c x).kind:Int)==11)=false:=beq_eq_false_iff_ne.2 (by omega);obtain⟨aP,ag⟩:=aD.o.1 hk
  have Q:Hi (aV lines roots i (f+1) c x=dC (aV lines roots i f) (rowAt c x) (rowAt c x).of.length 0 c):=by
   show _=_;simp only[aV];rw[if_neg hk]
  have aZ:on=(rowAt c x).of.length:=HR.o.2.1.len.trans (bL _);have IQ:nn=(rowAt c x).names.length:=HR.o.2.2.1.len.trans (dY _);have aI:=ab HR.o.2.1;have a0:=ab HR.o.2.2.1;have a1:=ab HR.o.2.2.2;have a2:=ab aP;have aB:=ab ag;generalize am:(rowAt c x).of=of' at *;generalize ao:(rowAt c x).names=nms at *;generalize ap:(rowAt c x).ats=ats' at *;have S:=ab am;have K:=ab ao;have a3:=ab ap;subst aZ IQ;generalize (rowAt c x).kind=kd at *;have be:of'.length<=9223372036854775807:=by have:=aI.o.le;rw[bL] at this;unfold maxLen at this;omega
  clear aP ag am ao ap hk;go_enter Tryz.func79,Tryz.ntmps79;go_wp2_with fail
  go_loopw [9] (fun kv wr=>∃(k:Nat) (d:List RT),k<=of'.length/\kv=.int .i64 k/\Hi (aV lines roots i (f+1) c x=dC (aV lines roots i f) (rowAt c x) (of'.length-k) k d)/\Hi (DS wr X db s n ak N lv av rv d)/\Hi (W1 d/\d.length=c.length)/\Hi (Fr (fun b=>N.ownBlock=some b) (w.alloc (.cells #[.int .i64 (kd:Int),.slice oa of'.length oc,.slice na nms.length nc,.slice aa an ac] 183)) wr)) (fun kv _=>of'.length-(intOf kv).toNat)
  case atStart=>exact⟨0,c,by omega,rfl,Q,P.o.cX (Fr.alloc _ _ _),⟨HW.o,rfl⟩,Fr.refl _ _⟩
  case round =>
   obtain⟨k,d,bs,rfl,u,ah,l,HF⟩:=hrel;obtain⟨C,rfl⟩:∃ z,z=wr:=⟨wr,rfl⟩;have ai:C.heap[w.heap.size]?=some (.cells #[.int .i64 (kd:Int),.slice oa of'.length oc,.slice na nms.length nc,.slice aa an ac] 183 (0,0)):=HF.o.ae (af rfl _) (fun e=>by have:=P.o.lt _ e;omega);have b1:C.cell? ⟨w.heap.size,1,none⟩=some (.slice oa of'.length oc):=by rw[cell_of_heap ai];rfl
   have b2:C.cell? ⟨w.heap.size,2,none⟩=some (.slice na nms.length nc):=by rw[cell_of_heap ai];rfl
   have b3:C.cell? ⟨w.heap.size,3,none⟩=some (.slice aa an ac):=by rw[cell_of_heap ai];rfl
   clear ai
   by_cases aJ:k<of'.length
   ·obtain⟨go,co,eo,aQ,aR,aS⟩:=aI.o.open (by rw[bL];omega);have dq:=(aS k (by rw[bL];omega)).trans (j6 _ k aJ);rw[bL] at eo;cases eo;have V:C.cell? ⟨go,k,none⟩=some (.int .i64 (aj of' k:Nat)):=(HF.o.cell (a:=⟨go,k,none⟩) (by simp;omega) (fun e=>aQ (.inr e))).trans ((World.cell?_alloc_lt _ _ ⟨go,k,none⟩ aR).trans dq);have Iw:aj of' k<x:=a2.o _ (by unfold aj;simp[aJ]);clear aS aQ dq;rcases aB.o with⟨cF,_⟩|⟨bc,bd⟩
    ·have v:Hi (dup nms k=false):=ab (by rw[cF];rfl);have aY:¬(0:Int)<((nms.length:Nat):Int):=by rw[cF];simp
     clear cF;go_wp2_with fail;refine wp_loop_rounds 1 ?_;rw[rounds_succ];have q:Fr Zero C C:=Fr.refl _ _
     by_cases aK:k=0
     ·have GA:¬((0:Int)<(k:Int)):=by omega
      clear aK;go_wp2_with fail;have y:=HF.o.trans (q.dV (X:=fun b=>N.ownBlock=some b));have m:Fr (fun b=>N.ownBlock=some b) w C:=(Fr.alloc _ _ _).trans y
      refine(HT.o C X B db s n ak N lv av rv d (aj of' k) (ah.o.cX q) hX (fun b hb=>Nat.lt_of_lt_of_le (HX b hb) m.size) (O.o.ae m (fun g hg e=>by
       rcases hg with A|A|A
       ·exact P.o.ij O.o.sl (by decide) g A e
       ·exact P.o.ij O.o.sa (by decide) g A e
       ·exact P.o.ij O.o.sr (by decide) g A e)) l.o.1 (by have:=l.o.2;omega) (by omega) (by have:=l.o.2;omega)).mono ?_
      have p:=iO lines roots i f d (aj of' k) l.o.1 (by have:=l.o.2;omega);have D:=ab p;generalize E:aV lines roots i f d (aj of' k)=r at *;have F:=ab E;clear E p;rintro e w5 ⟨rfl,I,J⟩;have G:=ab (y.trans I);have H:=ab J;clear I J y m;rcases hr1:r.1 with _|pl
      ·have t:Hi (aV lines roots i (f+1) c x=dC (aV lines roots i f) (rowAt c x) (of'.length-(k+1)) (k+1) r.2):=u.o.trans (by
        rw[show of'.length-k=(of'.length-(k+1))+1 by omega];simp only[dC]
        rw[K.o,S.o,if_neg (by rw[v.o];simp),F.o,hr1])
       clear hr1;simp only[jG];go_wp2_with fail
       go_roundw
       case rel=>exact⟨k+1,r.2,by omega,by go_num,t,H,⟨D.o.1,D.o.2.trans l.o.2⟩,G⟩
       case measure=>simp[intOf];omega
      ·have t:Hi (aV lines roots i (f+1) c x=r):=u.o.trans (by
        rw[show of'.length-k=(of'.length-(k+1))+1 by omega];simp only[dC];rw[K.o,S.o,if_neg (by rw[v.o];simp),F.o,hr1]
        show(some pl,r.2)=r
        rw[<-hr1])
       have jq:(0:Int)<=(pl:Int):=by omega
       have W:=ab hr1;clear hr1;simp only[jG];go_wp2;go_ret;rw[t.o];exact⟨by rw[W.o];rfl,(Fr.alloc _ _ _).trans G.o,H⟩
     ·have GA:(0:Int)<(k:Int):=by omega
      clear aK;go_wp2_with fail;have y:=HF.o.trans (q.dV (X:=fun b=>N.ownBlock=some b));have m:Fr (fun b=>N.ownBlock=some b) w C:=(Fr.alloc _ _ _).trans y
      refine(HT.o C X B db s n ak N lv av rv d (aj of' k) (ah.o.cX q) hX (fun b hb=>Nat.lt_of_lt_of_le (HX b hb) m.size) (O.o.ae m (fun g hg e=>by
       rcases hg with A|A|A
       ·exact P.o.ij O.o.sl (by decide) g A e
       ·exact P.o.ij O.o.sa (by decide) g A e
       ·exact P.o.ij O.o.sr (by decide) g A e)) l.o.1 (by have:=l.o.2;omega) (by omega) (by have:=l.o.2;omega)).mono ?_
      have p:=iO lines roots i f d (aj of' k) l.o.1 (by have:=l.o.2;omega);have D:=ab p;generalize E:aV lines roots i f d (aj of' k)=r at *;have F:=ab E;clear E p;rintro e w5 ⟨rfl,I,J⟩;have G:=ab (y.trans I);have H:=ab J;clear I J y m;rcases hr1:r.1 with _|pl
      ·have t:Hi (aV lines roots i (f+1) c x=dC (aV lines roots i f) (rowAt c x) (of'.length-(k+1)) (k+1) r.2):=u.o.trans (by
        rw[show of'.length-k=(of'.length-(k+1))+1 by omega];simp only[dC]
        rw[K.o,S.o,if_neg (by rw[v.o];simp),F.o,hr1])
       clear hr1;simp only[jG];go_wp2_with fail
       go_roundw
       case rel=>exact⟨k+1,r.2,by omega,by go_num,t,H,⟨D.o.1,D.o.2.trans l.o.2⟩,G⟩
       case measure=>simp[intOf];omega
      ·have t:Hi (aV lines roots i (f+1) c x=r):=u.o.trans (by
        rw[show of'.length-k=(of'.length-(k+1))+1 by omega];simp only[dC];rw[K.o,S.o,if_neg (by rw[v.o];simp),F.o,hr1]
        show(some pl,r.2)=r
        rw[<-hr1])
       have jq:(0:Int)<=(pl:Int):=by omega
       have W:=ab hr1;clear hr1;simp only[jG];go_wp2;go_ret;rw[t.o];exact⟨by rw[W.o];rfl,(Fr.alloc _ _ _).trans G.o,H⟩
    ·obtain⟨M,cn,en,R,au,Z⟩:=a0.o.open (by rw[dY];omega);obtain⟨T,ca,ea,al,aw,ad⟩:=a1.o.open (by rw[bL];omega);rw[dY] at en;rw[bL] at ea;cases en;cases ea;have aL:Hi (∀ j,j<nms.length->C.cell? ⟨M,j,none⟩=some (.string (bF nms j))):=fun j hj=>(HF.o.cell (a:=⟨M,j,none⟩) (by simp;omega) (fun e=>R (.inr e))).trans ((World.cell?_alloc_lt _ _ ⟨M,j,none⟩ au).trans ((Z j (by rw[dY];omega)).trans (tR _ j hj)))
     have a4:Hi (C.cell? ⟨T,k,none⟩=some (.int .i64 (aj ats' k:Nat))):=(HF.o.cell (a:=⟨T,k,none⟩) (by simp;omega) (fun e=>al (.inr e))).trans ((World.cell?_alloc_lt _ _ ⟨T,k,none⟩ aw).trans ((ad k (by rw[bL];omega)).trans (j6 _ k (by omega))));have aq:(0:Int)<((nms.length:Nat):Int):=by omega
     have bf:((k:Nat):Int)<((nms.length:Nat):Int):=by omega
     have bg:((k:Nat):Int)<((ats'.length:Nat):Int):=by omega
     have aM:Hi (nms.isEmpty=false):=by
      show _=_;cases hh:nms with
      | nil=>rw[hh] at aq;simp at aq
      | cons _ _=>rfl
     have a5:=ab b1;have a6:=ab b2;have a7:=ab b3;have a8:=ab V
     have L:Hi (M<C.heap.size/\T<C.heap.size/\go<C.heap.size/\w.heap.size<C.heap.size):=by
      have:=HF.o.size
      simp at this;show _/\_;omega
     clear Z ad R al bc bd V;go_wp2_with fail;clear b1 b2 b3
     go_loopw [10] (fun jv wj=>∃ j:Nat,j<=k/\jv=.int .i64 j/\Hi (gE nms k k 0=gE nms k (k-j) j)/\Hi (Fr Zero C wj)) (fun jv _=>k-(intOf jv).toNat)
     case atStart=>exact⟨0,by omega,rfl,rfl,Fr.refl _ _⟩
     case round =>
      obtain⟨j,bt,rfl,aC,ax⟩:=hrel;have q:=ax.o;have b1:wr.cell? ⟨w.heap.size,1,none⟩=some (.slice (some ⟨go,0,none⟩) of'.length oc):=(q.cell (a:=⟨w.heap.size,1,none⟩) L.o.2.2.2 (fun h=>h)).trans a5.o;have b2:wr.cell? ⟨w.heap.size,2,none⟩=some (.slice (some ⟨M,0,none⟩) nms.length nc):=(q.cell (a:=⟨w.heap.size,2,none⟩) L.o.2.2.2 (fun h=>h)).trans a6.o;have b3:wr.cell? ⟨w.heap.size,3,none⟩=some (.slice (some ⟨T,0,none⟩) ats'.length ac):=(q.cell (a:=⟨w.heap.size,3,none⟩) L.o.2.2.2 (fun h=>h)).trans a7.o;have bm:wr.cell? ⟨M,k,none⟩=some (.string (bF nms k)):=(q.cell (a:=⟨M,k,none⟩) L.o.1 (fun h=>h)).trans (aL.o k (by omega));have bn:wr.cell? ⟨T,k,none⟩=some (.int .i64 (aj ats' k:Nat)):=(q.cell (a:=⟨T,k,none⟩) L.o.2.1 (fun h=>h)).trans a4.o;have V:wr.cell? ⟨go,k,none⟩=some (.int .i64 (aj of' k:Nat)):=(q.cell (a:=⟨go,k,none⟩) L.o.2.2.1 (fun h=>h)).trans a8.o;have Y:=ab q;clear q ax
      by_cases hj:j<k
      ·have bo:wr.cell? ⟨M,j,none⟩=some (.string (bF nms j)):=(Y.o.cell (a:=⟨M,j,none⟩) L.o.1 (fun h=>h)).trans (aL.o j (by omega));have bp:((j:Nat):Int)<((k:Nat):Int):=by omega
       have bh:((j:Nat):Int)<((nms.length:Nat):Int):=by omega
       by_cases hq:bF nms j=bF nms k
       ·have hb:((bF nms j).toList==(bF nms k).toList)=true:=by rw[fJ];simp[hq]
        have t:Hi (aV lines roots i (f+1) c x=(some (aj ats' k),d)):=u.o.trans (by
         rw[show of'.length-k=(of'.length-(k+1))+1 by omega];simp only[dC]
         have a9:dup nms k=true:=by
          unfold dup;rw[aM.o,aC.o,show k-j=(k-j-1)+1 by omega];simp[gE,hq]
         rw[K.o,a3.o,if_pos a9])
        clear hq;generalize bF nms j=q1 at *;generalize bF nms k=q2 at *;go_wp2_with fail
        go_quiet (fail)
        go_wp2;go_ret;rw[t.o];exact⟨rfl,((Fr.alloc _ _ _).trans (HF.o.trans Y.o.dV)).trans (Fr.drewN _ _ _),(ah.o.cX Y).cX (Fr.drewN _ _ _)⟩
       ·have hb:((bF nms j).toList==(bF nms k).toList)=false:=by rw[fJ];simp[hq]
        have ba:Hi (gE nms k (k-j) j=gE nms k (k-(j+1)) (j+1)):=by
         show _=_;rw[show k-j=(k-(j+1))+1 by omega];simp[gE,hq]
        clear hq;generalize bF nms j=q1 at *;generalize bF nms k=q2 at *;go_wp2_with fail
        go_quiet (fail)
        go_wp2_with fail
        go_roundw
        case rel=>exact⟨j+1,by omega,by go_num,aC.o.trans ba.o,Y.o.trans (Fr.drewN _ _ _)⟩
        case measure=>simp[intOf];omega
      ·have aN:j=k:=by omega
       subst aN
       have v:Hi (dup nms j=false):=by
        show _=_;unfold dup;rw[aC.o,Nat.sub_self];simp[gE]
       have q:=Y.o;go_wp2_with fail;have y:=HF.o.trans (q.dV (X:=fun b=>N.ownBlock=some b));have m:Fr (fun b=>N.ownBlock=some b) w wr:=(Fr.alloc _ _ _).trans y
       refine(HT.o wr X B db s n ak N lv av rv d (aj of' j) (ah.o.cX q) hX (fun b hb=>Nat.lt_of_lt_of_le (HX b hb) m.size) (O.o.ae m (fun g hg e=>by
        rcases hg with A|A|A
        ·exact P.o.ij O.o.sl (by decide) g A e
        ·exact P.o.ij O.o.sa (by decide) g A e
        ·exact P.o.ij O.o.sr (by decide) g A e)) l.o.1 (by have:=l.o.2;omega) (by omega) (by have:=l.o.2;omega)).mono ?_
       have p:=iO lines roots i f d (aj of' j) l.o.1 (by have:=l.o.2;omega);have D:=ab p;generalize E:aV lines roots i f d (aj of' j)=r at *;have F:=ab E;clear E p;rintro e w5 ⟨rfl,I,J⟩;have G:=ab (y.trans I);have H:=ab J;clear I J y m;rcases hr1:r.1 with _|pl
       ·have t:Hi (aV lines roots i (f+1) c x=dC (aV lines roots i f) (rowAt c x) (of'.length-(j+1)) (j+1) r.2):=u.o.trans (by
         rw[show of'.length-j=(of'.length-(j+1))+1 by omega];simp only[dC]
         rw[K.o,S.o,if_neg (by rw[v.o];simp),F.o,hr1])
        clear hr1;simp only[jG];go_wp2_with fail
        go_roundw
        case rel=>exact⟨j+1,r.2,by omega,by go_num,t,H,⟨D.o.1,D.o.2.trans l.o.2⟩,G⟩
        case measure=>simp[intOf];omega
       ·have t:Hi (aV lines roots i (f+1) c x=r):=u.o.trans (by
         rw[show of'.length-j=(of'.length-(j+1))+1 by omega];simp only[dC];rw[K.o,S.o,if_neg (by rw[v.o];simp),F.o,hr1]
         show(some pl,r.2)=r
         rw[<-hr1])
        have jq:(0:Int)<=(pl:Int):=by omega
        have W:=ab hr1;clear hr1;simp only[jG];go_wp2;go_ret;rw[t.o];exact⟨by rw[W.o];rfl,(Fr.alloc _ _ _).trans G.o,H⟩
   ·have bb:k=of'.length:=by omega
    subst bb;have t:Hi (aV lines roots i (f+1) c x=(none,d)):=u.o.trans (by rw[Nat.sub_self];rfl);go_wp2;go_ret;rw[t.o];exact⟨rfl,(Fr.alloc _ _ _).trans HF.o,ah⟩
theorem AA{lines:List ByteArray}(hr:roots.length=lines.length)(hl:lines.length<=1000)(hi:i<=lines.length):∀ f,zK lines ats roots i f:=by
 intro f
 induction f with
 | zero=>intro w X B e s n a g j k l b x h m aH o p q c d;omega
 | succ f ih=>exact x9 ih hr hl hi
def maxOf(ds:List Nat)(l:List Nat)(c:Nat):Nat:=l.foldl (fun c y=>max c (aj ds y)) c
def jJ(ds:List Nat)(t:RT):Nat:=maxOf ds t.of 0+(if t.kind=11 then 0 else 1)
def ch(tab:List RT):Nat->List Nat
 | 0=>[]
 | k+1=>ch tab k++[jJ (ch tab k) (rowAt tab k)]
theorem eJ(tab:List RT)(k:Nat):(ch tab k).length=k:=by
 induction k with
 | zero=>rfl
 | succ k ih=>simp[ch,ih]
theorem wY(ds l:List Nat)(D:Nat)(h:∀ y,aj ds y<=D):∀ c,c<=D->maxOf ds l c<=D:=by
 induction l with
 | nil=>intro c a;exact a
 | cons y l ih=>intro c a;exact ih (max c (aj ds y)) (by have:=h y;omega)
theorem yE(tab:List RT):∀ k y,aj (ch tab k) y<=k:=by
 intro k
 induction k with
 | zero=>intro y;simp[ch,aj]
 | succ k ih =>
  intro y;have a:=eJ tab k;simp only[ch,aj]
  by_cases b:y<k
  ·rw[List.getElem?_append_left (by omega)]
   have:=ih y
   unfold aj at this;omega
  ·by_cases e:y=k
   ·subst e;rw[List.getElem?_append_right (by omega),a,Nat.sub_self];simp;unfold jJ
    have:=wY (ch tab y) (rowAt tab y).of y ih 0 (by omega)
    split<;>omega
   ·rw[List.getElem?_eq_none (by simp;omega)];simp
theorem y7(ds l:List Nat)(k:Nat)(hk:k<l.length):maxOf ds (l.take (k+1)) 0=max (maxOf ds (l.take k) 0) (aj ds (aj l k)):=by
 rw[List.take_succ_eq_append_getElem hk];unfold maxOf;rw[List.foldl_append];simp[aj,hk]
def j5(ds:List Nat)(c m:Nat):List Nat:=ds++c::List.replicate m 0
theorem Dy(ds:List Nat)(c m y:Nat)(hy:y<ds.length):(ints (j5 ds c m))[y]?=some (.int .i64 (aj ds y:Nat)):=by
 rw[j6 _ _ (by simp[j5];omega)];simp[j5,aj,List.getElem?_append_left hy]
theorem FF(ds:List Nat)(c m:Nat):(ints (j5 ds c m))[ds.length]?=some (.int .i64 (c:Nat)):=by
 rw[j6 _ _ (by simp[j5])];simp[j5,aj]
theorem wM(ds:List Nat)(c m d:Nat):(ints (j5 ds c m)).set ds.length (.int .i64 (d:Int))=ints (j5 ds d m):=by
 simp[ints,j5]
theorem sT(ds:List Nat)(c m:Nat):j5 ds c (m+1)=j5 (ds++[c]) 0 m:=by
 simp[j5,List.replicate_succ]
def W2(tab:List RT):Prop:=∀(x:Nat),x<tab.length->∀ y∈(rowAt tab x).of,y<x
theorem zx(h:DS w X db s n bad tv lv av rv tab)(hW:W2 tab)(hl:tab.length<=1000)(hp:0<tab.length):
  Calls Tryz.prog 80 #[.pointer (some ⟨db,0,none⟩)] w fun e w'=>Fr Zero w w'/\∃ g,e=.returned (.slice (some ⟨g,0,none⟩) tab.length tab.length)/\∀ y,y<tab.length->w'.cell? ⟨g,y,none⟩=some (.int .i64 (aj (ch tab tab.length) y:Nat)):=by
 have hD:=h.1;have c2:=hD.fM;have ar:=lt_of_heap hD;obtain⟨I,B,o0,aV,a0,rU,_⟩:=h.row hp;have au:w.cell? ⟨db,2,none⟩=some (.slice (some ⟨I,0,none⟩) tab.length B):=by rw[<-rU];exact c2
 obtain⟨i3,hi,ai,ak,al⟩:=info_parts Tryz.xZ;have m1:Hi (i3.bytes*tab.length<=281474976710656):=by show _<=_;rw[al];omega
 have m2:Hi (tab.length<=maxLen):=by show _<=_;unfold maxLen;omega
 go_enter Tryz.func80,Tryz.ntmps80
 go_wp2_with (at_make;refine wpList_make_full _ rfl _ _ 160 rfl 0 3 i3 (.int .i64 0) 1 Tryz.underlying160 hi ai ak .i64 .i64 _ _ tab.length rfl rfl rfl rfl m1.o m2.o (Nat.zero_le _) ?_;intro w1 am ao)
 have iE:w1.ownsRow 0 3 1 (.slice (some ⟨w.heap.size,0,none⟩) tab.length tab.length) tab.length (ints (j5 [] 0 (tab.length-1))):=by
  have e:(madeCells (Value.int .i64 0).cells (tab.length*1)).toList=ints (j5 [] 0 (tab.length-1)):=by
   rw[show(Value.int .i64 0).cells=#[.int .i64 0] from rfl,toList_madeCells_one];simp only[j5,ints,List.nil_append,List.map_cons,List.map_replicate,Nat.mul_one];rw[<-List.replicate_succ]
   congr 1
   omega
  rw[<-e];exact am
 have U:Fr Zero w w1:=Fr.grown ao (fun k e=>by cases e)
 go_loopw [4] (fun xv wr=>∃ x:Nat,x<=tab.length/\xv=.int .i64 x/\Hi (x<tab.length->wr.ownsRow 0 3 1 (.slice (some ⟨w.heap.size,0,none⟩) tab.length tab.length) tab.length (ints (j5 (ch tab x) 0 (tab.length-x-1))))/\Hi (x=tab.length->wr.ownsRow 0 3 1 (.slice (some ⟨w.heap.size,0,none⟩) tab.length tab.length) tab.length (ints (ch tab tab.length)))/\Hi (Fr Zero w wr)) (fun xv _=>tab.length-(intOf xv).toNat)
 case atStart=>exact⟨0,by omega,rfl,(fun _=>iE),(fun h=>by omega),U⟩
 case round =>
  obtain⟨x,aW,rfl,t,u,J⟩:=hrel;obtain⟨p,rfl⟩:∃ z,z=wr:=⟨wr,rfl⟩
  have aS:w.heap.size<p.heap.size:=by
   by_cases N:x<tab.length
   ·exact((t.o N).lt _ rfl).2
   ·exact((u.o (by omega)).lt _ rfl).2
  have d2:p.cell? ⟨db,2,none⟩=some (.slice (some ⟨I,0,none⟩) tab.length B):=(J.o.cell (a:=⟨db,2,none⟩) ar (fun h=>h)).trans au
  by_cases N:x<tab.length
  ·have aT:((x:Nat):Int)<((tab.length:Nat):Int):=by omega
   obtain⟨aX,aO,o,nv,a,C,t0,t1,t2,t3,K,_,_⟩:=h.row N;rw[rU] at C;cases C;have f:I<w.heap.size:=World.block_lt_of_cell? w _ t0;have s0:=(J.o.cell (a:=⟨I,x*4,none⟩) f (fun h=>h)).trans t0;have s1:=(J.o.cell (a:=⟨I,x*4+1,none⟩) f (fun h=>h)).trans t1;have s2:=(J.o.cell (a:=⟨I,x*4+2,none⟩) f (fun h=>h)).trans t2;have s3:=(J.o.cell (a:=⟨I,x*4+3,none⟩) f (fun h=>h)).trans t3;obtain⟨L,on,M,ho⟩:=K.shape o (.inl rfl);obtain⟨O,P,Q,hn⟩:=K.shape nv (.inr (.inl rfl));obtain⟨R,S,T,ha⟩:=K.shape a (.inr (.inr rfl));subst ho hn ha;have ay:=ab K.2.1;have az:on=(rowAt tab x).of.length:=K.2.1.len.trans (bL _);have aA:=ab (hW x N);have aB:=ab (t.o N);have q:Hi (ch tab (x+1)=ch tab x++[jJ (ch tab x) (rowAt tab x)]):=rfl;have m:Hi (jJ (ch tab x) (rowAt tab x)=maxOf (ch tab x) (rowAt tab x).of 0+(if(rowAt tab x).kind=11 then 0 else 1)):=rfl;have A:=eJ tab x;have aC:=ab (yE tab x);have aQ:(rowAt tab x).of.length<=9223372036854775807:=by have:=K.2.1.le;rw[bL] at this;unfold maxLen at this;omega
   generalize (rowAt tab x).of=of' at *;generalize (rowAt tab x).kind=kd at *;generalize ch tab x=ds at *;subst az;have aD:Hi (∀ k,maxOf ds (of'.take k) 0<=x):=fun k=>wY ds _ x aC.o 0 (by omega)
   go_wp2;have aE:Hi ((p.alloc (.cells #[.int .i64 (kd:Int),.slice L of'.length M,.slice O P Q,.slice R S T] 183)).heap[p.heap.size]?=some (.cells #[.int .i64 (kd:Int),.slice L of'.length M,.slice O P Q,.slice R S T] 183 (0,0))):=af rfl _;have aF:Hi (Fr Zero w (p.alloc (.cells #[.int .i64 (kd:Int),.slice L of'.length M,.slice O P Q,.slice R S T] 183))):=J.o.trans (Fr.alloc _ _ _);have aG:Hi ((p.alloc (.cells #[.int .i64 (kd:Int),.slice L of'.length M,.slice O P Q,.slice R S T] 183)).ownsRow 0 3 1 (.slice (some ⟨w.heap.size,0,none⟩) tab.length tab.length) tab.length (ints (j5 ds 0 (tab.length-x-1)))):=aB.o.alloc _;have aH:p.heap.size+1=(p.alloc (.cells #[.int .i64 (kd:Int),.slice L of'.length M,.slice O P Q,.slice R S T] 183)).heap.size:=by simp
   generalize p.alloc (.cells #[.int .i64 (kd:Int),.slice L of'.length M,.slice O P Q,.slice R S T] 183)=w4 at *
   go_loopw [6] (fun kv wr=>∃ k:Nat,k<=of'.length/\kv=.int .i64 k/\Hi (wr.ownsRow 0 3 1 (.slice (some ⟨w.heap.size,0,none⟩) tab.length tab.length) tab.length (ints (j5 ds (maxOf ds (of'.take k) 0) (tab.length-x-1))))/\Hi (Fr (One w.heap.size) w4 wr)) (fun kv _=>of'.length-(intOf kv).toNat)
   case atStart=>exact⟨0,by omega,rfl,aG,Fr.refl _ _⟩
   case round =>
    obtain⟨k,aY,rfl,j,v⟩:=hrel;have D:=v.o.ae aE.o (fun e=>by have e':p.heap.size=w.heap.size:=e;omega);have b0:wr.cell? ⟨p.heap.size,0,none⟩=some (.int .i64 (kd:Int)):=by rw[cell_of_heap D];rfl
    have b1:wr.cell? ⟨p.heap.size,1,none⟩=some (.slice L of'.length M):=by rw[cell_of_heap D];rfl
    have E:Hi (wr.cell? ⟨w.heap.size,x,none⟩=some (.int .i64 (maxOf ds (of'.take k) 0:Nat))):=by
     show _=_;rw[fK j.o N]
     have:=FF ds (maxOf ds (of'.take k) 0) (tab.length-x-1)
     rw[A] at this;exact this
    have dx:=E.o;have fx:wr.frozen? ⟨w.heap.size,x,none⟩=false:=j.o.frozenAt x;have aI:=aD.o k;have F:Hi (Fr Zero w wr):=aF.o.past (v.o.mono (fun b _ e=>by have e':b=w.heap.size:=e;omega))
    by_cases G:k<of'.length
    ·obtain⟨go,co,eo,aP,ap,aq⟩:=ay.o.open (by rw[bL];omega);have dq:=(aq k (by rw[bL];omega)).trans (j6 _ k G);rw[bL] at eo;cases eo;have Iw:aj of' k<x:=aA.o _ (by unfold aj;simp[G]);have aR:wr.cell? ⟨go,k,none⟩=some (.int .i64 (aj of' k:Nat)):=(F.o.cell (a:=⟨go,k,none⟩) ap (fun h=>h)).trans dq
     have dy:wr.cell? ⟨w.heap.size,aj of' k,none⟩=some (.int .i64 (aj ds (aj of' k):Nat)):=by
      rw[fK j.o (by omega)];exact Dy ds _ _ _ (by rw[A];exact Iw)
     have aU:((aj of' k:Nat):Int)<((tab.length:Nat):Int):=by omega
     have V:=ab (y7 ds of' k G);have W:=ab (fun(d:Nat)=>(j.o.stored x (.int .i64 (d:Int))).1);generalize aj of' k=y at *;generalize aj ds y=dy' at *;generalize maxOf ds (of'.take k) 0=c at *
     by_cases f:c<dy'
     ·have aJ:(c:Int)<(dy':Int):=by omega
      go_wp2
      go_quiet (fail)
      go_wp2
      go_roundw
      case rel =>
       refine⟨k+1,by omega,by go_num,?_,?_⟩
       ·rw[V.o,show max c dy'=dy' by have:=f;omega];have Y:=W.o dy';have Z:=wM ds c (tab.length-x-1) dy';rw[A] at Z;rw[Z] at Y;exact Y
       ·exact v.o.trans ((Fr.drewN _ _ _).trans (Fr.setCell _ _ _ _ (show One w.heap.size w.heap.size from rfl)))
      case measure=>simp[intOf];omega
     ·have aJ:¬(c:Int)<(dy':Int):=by omega
      go_wp2
      go_quiet (fail)
      go_wp2
      go_roundw
      case rel =>
       refine⟨k+1,by omega,by go_num,?_,?_⟩
       ·rw[V.o,show max c dy'=c by have:=f;omega];exact ag j.o (Fr.drewN Zero _ _) (fun _ _ h=>h)
       ·exact v.o.trans (Fr.drewN _ _ _)
      case measure=>simp[intOf];omega
    ·have aK:k=of'.length:=by omega
     subst aK;rw[List.take_length] at j dx E aI;generalize aL:maxOf ds of' 0=c at *
     by_cases l:kd=11
     ·have aM:((kd:Int) != 11)=false:=by simp;omega
      have i:Hi (wr.ownsRow 0 3 1 (.slice (some ⟨w.heap.size,0,none⟩) tab.length tab.length) tab.length (ints (j5 ds (c+0) (tab.length-x-1)))):=j.o;rw[if_pos l] at m;go_wp2
      go_roundw
      case rel =>
       refine⟨x+1,by omega,by go_num,(fun hx1=>?_),(fun hx1=>?_),F.o⟩
       ·rw[q.o,m.o,<-sT,show tab.length-(x+1)-1+1=tab.length-x-1 by omega];exact i.o
       ·rw[<-hx1,q.o,m.o]
        have:=i.o
        rw[show tab.length-x-1=0 by omega] at this;rw[<-hx1] at this;exact this
      case measure=>simp[intOf];omega
     ·have aM:((kd:Int) != 11)=true:=by simp;omega
      have i:Hi ((wr.setCell ⟨w.heap.size,x,none⟩ (.int .i64 ((c+1:Nat):Int))).ownsRow 0 3 1 (.slice (some ⟨w.heap.size,0,none⟩) tab.length tab.length) tab.length (ints (j5 ds (c+1) (tab.length-x-1)))):=by
       have Y:=(j.o.stored x (.int .i64 ((c+1:Nat):Int))).1;have Z:=wM ds c (tab.length-x-1) (c+1);rw[A] at Z;rw[Z] at Y;exact Y
      have ad:Hi (Fr Zero w (wr.setCell ⟨w.heap.size,x,none⟩ (.int .i64 ((c+1:Nat):Int)))):=F.o.past (Fr.setCell _ _ _ _ (Nat.le_refl _));rw[if_neg l] at m;go_wp2
      go_roundw
      case rel =>
       refine⟨x+1,by omega,by go_num,(fun hx1=>?_),(fun hx1=>?_),ad.o⟩
       ·rw[q.o,m.o,<-sT,show tab.length-(x+1)-1+1=tab.length-x-1 by omega];exact i.o
       ·rw[<-hx1,q.o,m.o]
        have:=i.o
        rw[show tab.length-x-1=0 by omega] at this;rw[<-hx1] at this;exact this
      case measure=>simp[intOf];omega
  ·have ah:x=tab.length:=by omega
   have aN:=ab (u.o ah);subst ah;go_wp2;go_ret;refine⟨J,w.heap.size,rfl,fun y hy=>?_⟩;rw[fK aN.o hy];exact j6 _ y (by rw[eJ];exact hy)
def gH(d:RD)(N:Nat):Nat->Nat->List RT->Option Nat×List RT
 | 0,_,tab=>(none,tab)
 | m+1,i,tab =>
  if(fN d.lines d.roots (bF d.lines i) i).isSome=true then(some (aj d.ats i),tab) else
  match (aV d.lines d.roots i N tab (aj d.roots i)).1 with
  | some a=>(some a,(aV d.lines d.roots i N tab (aj d.roots i)).2)
  | none=>gH d N m (i+1) (aV d.lines d.roots i N tab (aj d.roots i)).2
def kU(d:RD)(ds:List Nat):Nat->Nat->Option Nat
 | 0,_=>none
 | m+1,i=>if 12<aj ds (aj d.roots i) then some (aj d.ats i) else kU d ds m (i+1)
def eT(s:ByteArray):RD:=fL s 10 ⟨0,false,[],[],[],[]⟩
def bl(d:RD):Option Nat×List RT:=gH d d.tab.length d.lines.length 0 d.tab
def oF(d:RD):Nat×Nat :=
 if d.bad=true then(2,d.n) else
 match (bl d).1 with
 | some a=>(3,a)
 | none=>match kU d (ch (bl d).2 d.tab.length) d.lines.length 0 with
  | some a=>(4,a)
  | none=>(0,0)
def ee(s:ByteArray):Nat×Nat:=if 400<s.size then(1,0) else oF (eT s)
def ET(d:RD):Prop:=d.bad=false->W1 d.tab/\(∀ y∈d.roots,y<d.tab.length)/\0<d.lines.length/\((bl d).1=none->W2 (bl d).2)
def EM(w':World)(s:ByteArray)(a:Option Addr):Prop :=
 ∃(db:Nat) (X:Nat->Prop) (n:Nat) (tv lv av rv:Value) (lines:List ByteArray) (ats:List Nat) (B0:Nat),a=some ⟨db,0,none⟩/\DS w' X db s n false tv lv av rv (bl (eT s)).2/\LD w' B0 lv av rv lines ats (eT s).roots/\(bl (eT s)).2.length<=1000/\(eT s).roots.length<=1000
def lO(w:World)(s:ByteArray)(e:Ending)(w':World):Prop:=Fr Zero w w'/\∃ a:Option Addr,e=.returned (.tuple #[.pointer a,.int .i64 (ee s).1,.int .i64 (ee s).2])/\(ee s=(0,0)->EM w' s a)
theorem Bb(s:ByteArray)(w:World)(hl:400<s.size)(hs:s.size<=maxLen):
  Calls Tryz.prog 55 #[.string s] w fun e w'=>lO w s e w':=by
 unfold maxLen at hs;have a:Hi (ee s=(1,0)):=by show ee s=_;unfold ee;rw[if_pos hl]
 go_enter Tryz.func55,Tryz.ntmps55;go_wp2;go_ret3;unfold lO;rw[a.o];exact⟨Fr.refl _ _,none,rfl,fun h=>by simp at h⟩
theorem yx(s:ByteArray)(w:World)(hl:s.size<=400)(Ae:ET (eT s)):
  Calls Tryz.prog 55 #[.string s] w fun e w'=>lO w s e w':=by
 have aL:¬((400:Int)<(s.size:Int)):=by omega
 have HC:Hi (ee s=oF (eT s)):=by show ee s=_;unfold ee;rw[if_neg (by omega)]
 have HP:=ab (yt s w hl);go_enter Tryz.func55,Tryz.ntmps55;go_wp2_with fail;refine HP.o.mono ?_;rw[show fL s 10 ⟨0,false,[],[],[],[]⟩=eT s from rfl];generalize S:eT s=d at *;rintro e w1 ⟨rfl,(ac:Hi _),aQ,tv,lv,av,rv,L,ad,G,k9,af,BS,aR⟩;have I:=L.1;have c1:=I.cE;have c6:=I.zR;have A:=ab ad;rcases hb:d.bad with _|_
 ·obtain⟨ah,HJ,mi,t⟩:=Ae hb;rw[hb] at c6 L
  have p:Hi (ee s=match (bl d).1 with
    | some a=>(3,a)
    | none=>match kU d (ch (bl d).2 d.tab.length) d.lines.length 0 with
     | some a=>(4,a)
     | none=>(0,0)):=HC.o.trans (by unfold oF;rw[hb];rfl)
  rcases A.o.sl.2 with⟨_,e⟩|⟨R,cl,aH,el,_⟩
  ·omega
  rcases A.o.sr.2 with⟨_,e⟩|⟨M,cr,aI,er,_⟩
  ·omega
  rcases A.o.sa.2 with⟨_,e⟩|⟨N,ca,aJ,ea,_⟩
  ·omega
  subst el er ea;go_wp2_with fail
  go_loopw [6] (fun iv wr=>∃(i:Nat) (c:List RT),i<=d.lines.length/\iv=.int .i64 i/\Hi (bl d=gH d d.tab.length (d.lines.length-i) i c)/\Hi (DS wr (XL w.heap.size (.slice (some ⟨R,0,none⟩) d.lines.length cl) (.slice (some ⟨N,0,none⟩) d.ats.length ca) (.slice (some ⟨M,0,none⟩) d.roots.length cr)) w.heap.size s d.n false tv (.slice (some ⟨R,0,none⟩) d.lines.length cl) (.slice (some ⟨N,0,none⟩) d.ats.length ca) (.slice (some ⟨M,0,none⟩) d.roots.length cr) c)/\Hi (LD wr w.heap.size (.slice (some ⟨R,0,none⟩) d.lines.length cl) (.slice (some ⟨N,0,none⟩) d.ats.length ca) (.slice (some ⟨M,0,none⟩) d.roots.length cr) d.lines d.ats d.roots)/\Hi (W1 c/\c.length=d.tab.length)/\Hi (Fr Zero w wr)) (fun iv _=>d.lines.length-(intOf iv).toNat)
  case atStart=>exact⟨0,d.tab,by omega,rfl,rfl,L,A,⟨ah,rfl⟩,ac⟩
  case round =>
   obtain⟨i,c,ak,rfl,HN,y,v,x,HF⟩:=hrel;obtain⟨w3,rfl⟩:∃ z,z=wr:=⟨wr,rfl⟩;have Q:=y.o.1;have d3:=Q.dw;have d4:=Q.gS;have d5:=Q.n9
   by_cases T:i<d.lines.length
   ·have aM:w3.cell? ⟨R,i,none⟩=some (.string (bF d.lines i)):=(fK v.o.sl T).trans (tR _ i T);have au:w3.cell? ⟨M,i,none⟩=some (.int .i64 (aj d.roots i:Nat)):=(fK v.o.sr (by have:=BS;omega)).trans (j6 _ i (by have:=BS;omega));have aw:w3.cell? ⟨N,i,none⟩=some (.int .i64 (aj d.ats i:Nat)):=(fK v.o.sa (by have:=af;omega)).trans (j6 _ i (by have:=af;omega));have ax:((i:Nat):Int)<((d.lines.length:Nat):Int):=by omega
    have ay:((i:Nat):Int)<((d.roots.length:Nat):Int):=by have:=BS;omega
    have az:((i:Nat):Int)<((d.ats.length:Nat):Int):=by have:=af;omega
    have l:Hi (gH d d.tab.length (d.lines.length-i) i c=if(fN d.lines d.roots (bF d.lines i) i).isSome=true then(some (aj d.ats i),c) else
      match (aV d.lines d.roots i d.tab.length c (aj d.roots i)).1 with
      | some a=>(some a,(aV d.lines d.roots i d.tab.length c (aj d.roots i)).2)
      | none=>gH d d.tab.length (d.lines.length-(i+1)) (i+1) (aV d.lines d.roots i d.tab.length c (aj d.roots i)).2):=by
     show _=_;rw[show d.lines.length-i=(d.lines.length-(i+1))+1 by omega];rfl
    go_wp2_with fail;refine(sY y.o.1 v.o BS (by omega) (bF d.lines i) i ak).mono ?_;rintro e w4 ⟨rfl,e4⟩;obtain rfl:=e4.symm;rcases oZ:fN d.lines d.roots (bF d.lines i) i with _|to
    ·have m:Hi (bl d=match (aV d.lines d.roots i d.tab.length c (aj d.roots i)).1 with
       | some a=>(some a,(aV d.lines d.roots i d.tab.length c (aj d.roots i)).2)
       | none=>gH d d.tab.length (d.lines.length-(i+1)) (i+1) (aV d.lines d.roots i d.tab.length c (aj d.roots i)).2):=HN.o.trans (l.o.trans (by rw[oZ];rfl))
     simp only[jG]
     have dG:aj d.roots i<c.length:=by
      rw[x.o.2];exact HJ _ (by unfold aj;simp[show i<d.roots.length by have:=BS;omega])
     have U:=ab (iO d.lines d.roots i d.tab.length c (aj d.roots i) x.o.1 dG)
     have aA:Hi (∀ b,XL w.heap.size (.slice (some ⟨R,0,none⟩) d.lines.length cl) (.slice (some ⟨N,0,none⟩) d.ats.length ca) (.slice (some ⟨M,0,none⟩) d.roots.length cr) b->b<w3.heap.size):=fun b hb=>by
      rcases hb with h|h
      ·have:=lt_of_heap y.o.1;omega
      ·exact v.o.lt b h
     go_wp2_with fail;refine(AA BS (by omega) ak d.tab.length w3 _ w.heap.size w.heap.size s d.n false tv _ _ _ c (aj d.roots i) y (.inl rfl) aA v x.o.1 dG (by have:=x.o.2;omega) (by have:=x.o.2;omega)).mono ?_;generalize aV d.lines d.roots i d.tab.length c (aj d.roots i)=r at *;rintro e w5 ⟨rfl,O,al⟩
     have B:=ab (v.o.ae O (fun g hg e=>by
      rcases hg with h'|h'|h'
      ·exact y.o.ij v.o.sl (by decide) g h' e
      ·exact y.o.ij v.o.sa (by decide) g h' e
      ·exact y.o.ij v.o.sr (by decide) g h' e))
     have V:=ab (HF.o.past (O.mono (fun k _ e=>G k e)));rcases hr1:r.1 with _|pl
     ·have f:Hi (bl d=gH d d.tab.length (d.lines.length-(i+1)) (i+1) r.2):=m.o.trans (by rw[hr1]);simp only[jG];go_wp2_with fail
      go_roundw
      case rel=>exact⟨i+1,r.2,by omega,by go_num,f,al,B,⟨U.o.1,U.o.2.trans x.o.2⟩,V⟩
      case measure=>simp[intOf];omega
     ·have f:Hi (ee s=(3,pl)):=p.o.trans (by rw[m.o,hr1]);have jq:(0:Int)<=(pl:Int):=by omega
      simp only[jG];go_wp2;go_ret3;unfold lO;rw[f.o];exact⟨V,none,rfl,fun h=>by simp at h⟩
    ·have f:Hi (ee s=(3,aj d.ats i)):=p.o.trans (by rw[HN.o,l.o,oZ];rfl);have aN:(0:Int)<=(to:Int):=by omega
     simp only[jG];go_wp2_with fail
     go_quiet (fail)
     go_wp2;go_ret3;unfold lO;rw[f.o];exact⟨HF.o.trans (Fr.drewN _ _ _),none,rfl,fun h=>by simp at h⟩
   ·have aC:i=d.lines.length:=by omega
    subst aC;have C:Hi (bl d=(none,c)):=HN.o.trans (by rw[Nat.sub_self];rfl);have t:=t (by rw[C.o]);rw[C.o] at t
    have W:Hi (ee s=match kU d (ch c c.length) d.lines.length 0 with
      | some a=>(4,a)
      | none=>(0,0)):=p.o.trans (by rw[C.o,x.o.2])
    go_wp2_with fail;refine(zx y t (by have:=x.o.2;omega) ?_).mono ?_
    ·have h1:=HJ (aj d.roots 0) (by unfold aj;simp[show 0<d.roots.length by have:=BS;omega])
     have:=x.o.2
     omega
    rintro e w4 ⟨(F:Hi _),g4,rfl,am⟩;have X:=ab (HF.o.trans F);have aE:=ab (v.o.ae F (fun _ _ h=>h));have aF:=ab (F.o.ae y.o.1 (fun h=>h));generalize ch c c.length=ds at *;go_wp2_with fail
    go_loopw [10] (fun iv wr=>∃ i:Nat,i<=d.lines.length/\iv=.int .i64 i/\Hi (kU d ds d.lines.length 0=kU d ds (d.lines.length-i) i)/\Hi (Fr Zero w4 wr)) (fun iv _=>d.lines.length-(intOf iv).toNat)
    case atStart=>exact⟨0,by omega,rfl,rfl,Fr.refl _ _⟩
    case round =>
     obtain⟨i,aK,rfl,u,P⟩:=hrel;have D:DB wr w.heap.size s d.n false tv (.slice (some ⟨R,0,none⟩) d.lines.length cl) (.slice (some ⟨N,0,none⟩) d.ats.length ca) (.slice (some ⟨M,0,none⟩) d.roots.length cr):=P.o.ae aF.o (fun h=>h);have B:=ab (aE.o.ae P.o (fun _ _ h=>h));have d3:=D.dw;have d4:=D.gS;have d5:=D.n9
     by_cases aG:i<d.lines.length
     ·have au:wr.cell? ⟨M,i,none⟩=some (.int .i64 (aj d.roots i:Nat)):=(fK B.o.sr (by have:=BS;omega)).trans (j6 _ i (by have:=BS;omega));have aw:wr.cell? ⟨N,i,none⟩=some (.int .i64 (aj d.ats i:Nat)):=(fK B.o.sa (by have:=af;omega)).trans (j6 _ i (by have:=af;omega))
      have dG:aj d.roots i<c.length:=by
       rw[x.o.2];exact HJ _ (by unfold aj;simp[show i<d.roots.length by have:=BS;omega])
      have aO:wr.cell? ⟨g4,aj d.roots i,none⟩=some (.int .i64 (aj ds (aj d.roots i):Nat)):=(P.o.cell (a:=⟨g4,aj d.roots i,none⟩) (World.block_lt_of_cell? w4 _ (am _ dG)) (fun h=>h)).trans (am _ dG);have ax:((i:Nat):Int)<((d.lines.length:Nat):Int):=by omega
      have ay:((i:Nat):Int)<((d.roots.length:Nat):Int):=by have:=BS;omega
      have az:((i:Nat):Int)<((d.ats.length:Nat):Int):=by have:=af;omega
      have aP:((aj d.roots i:Nat):Int)<((c.length:Nat):Int):=by omega
      have l:Hi (kU d ds (d.lines.length-i) i=if 12<aj ds (aj d.roots i) then some (aj d.ats i) else kU d ds (d.lines.length-(i+1)) (i+1)):=by
       show _=_;rw[show d.lines.length-i=(d.lines.length-(i+1))+1 by omega];rfl
      generalize aj ds (aj d.roots i)=dd at *;generalize aj d.roots i=ri at *;generalize aj d.ats i=ai at *
      by_cases E:12<dd
      ·have Z:(12:Int)<(dd:Int):=by omega
       have f:Hi (ee s=(4,ai)):=W.o.trans (by rw[u.o,l.o,if_pos E]);go_wp2_with fail
       go_quiet (fail)
       go_wp2;go_ret3;unfold lO;rw[f.o];exact⟨X.o.trans (P.o.trans (Fr.drewN _ _ _)),none,rfl,fun h=>by simp at h⟩
      ·have Z:¬(12:Int)<(dd:Int):=by omega
       have f:Hi (kU d ds d.lines.length 0=kU d ds (d.lines.length-(i+1)) (i+1)):=u.o.trans (l.o.trans (by rw[if_neg E]));go_wp2_with fail
       go_roundw
       case rel=>exact⟨i+1,by omega,by go_num,f,P⟩
       case measure=>simp[intOf];omega
     ·have aa:i=d.lines.length:=by omega
      subst aa;have f:Hi (ee s=(0,0)):=W.o.trans (by rw[u.o,Nat.sub_self];rfl);go_wp2;go_ret3;unfold lO;rw[f.o];refine⟨X.o.trans P.o,_,rfl,fun _=>?_⟩;have hq:=F.o.trans P.o;obtain⟨Q,an,hO,hT⟩:=y.o;unfold EM;rw[S,C.o];exact⟨_,_,_,_,_,_,_,_,_,_,rfl,⟨hq.ae Q (fun h=>h),an,ag hO hq (fun _ _ h=>h),hT.ae hq.dV⟩,v.o.ae hq (fun _ _ h=>h),by have:=x.o.2;simp only;omega,by have:=BS;omega⟩
 ·rw[hb] at c6;have f:Hi (ee s=(2,d.n)):=HC.o.trans (by unfold oF;rw[hb];rfl);go_wp2_with fail
  go_quiet (fail)
  go_wp2;go_ret3;unfold lO;rw[f.o];exact⟨ac.o.trans (Fr.drewN _ _ _),none,rfl,fun h=>by simp at h⟩
theorem vX(s:ByteArray)(w:World)(hs:s.size<=maxLen)(Ae:s.size<=400->ET (eT s)):
  Calls Tryz.prog 55 #[.string s] w fun e w'=>lO w s e w':=by
 by_cases h:400<s.size
 ·exact Bb s w h hs
 ·exact yx s w (by omega) (Ae (by omega))
def EV:Prop:=∀ s:ByteArray,s.size<=400->ET (eT s)/\aL s=ee s
theorem EV.all(h:EV)(s:ByteArray):(s.size<=400->ET (eT s))/\aL s=ee s:=by
 refine⟨fun a=>(h s a).1,?_⟩
 by_cases a:400<s.size
 ·unfold aL ee;rw[if_pos a,if_pos a]
 ·exact(h s (by omega)).2
def i7(vs:List (PT×Option Nat))(y:Nat):PT×Option Nat:=(vs[y]?).getD (PT.dummy,none)
def i6(vs:List (PT×Option Nat))(t:RT):Nat->Nat->Option Nat
 | 0,_=>none
 | m+1,k=>if dup t.names k=true then some (aj t.ats k) else
  match (i7 vs (aj t.of k)).2 with
  | some a=>some a
  | none=>i6 vs t m (k+1)
def Cb(vs:List (PT×Option Nat))(l:List Nat):Nat:=l.foldl (fun c y=>max c (i7 vs y).1.depth) 0
def kL(t:RT):List ByteArray:=if t.names.isEmpty=true then t.of.map (fun _=>⟨#[]⟩) else t.names
def oO(vs:List (PT×Option Nat))(t:RT):PT:=⟨t.kind,Cb vs t.of+1,kL t,t.of.map (fun y=>(i7 vs y).1)⟩
def jY(lines:List (ByteArray×PT))(vs:List (PT×Option Nat))(t:RT):PT×Option Nat :=
 if t.kind=11 then
  match gJ (bF t.names 0) lines with
  | some q=>(q,none)
  | none=>(PT.dummy,some (aj t.ats 0))
 else(oO vs t,i6 vs t t.of.length 0)
def ei(lines:List (ByteArray×PT))(tab:List RT):Nat->List (PT×Option Nat)
 | 0=>[]
 | k+1=>ei lines tab k++[jY lines (ei lines tab k) (rowAt tab k)]
def mM(lines:List (ByteArray×PT))(tab:List RT)(x:Nat):PT×Option Nat:=jY lines (ei lines tab x) (rowAt tab x)
def ql(a b:Option Nat):Option Nat:=match a with
 | some x=>some x
 | none=>b
theorem j1(h:x<tab.length):rowAt (tab++new) x=rowAt tab x:=by
 unfold rowAt;rw[List.getElem?_append_left h]
theorem pV(tab:List RT)(t:RT):rowAt (tab++[t]) tab.length=t:=by
 unfold rowAt;simp
theorem ky(lines:List (ByteArray×PT))(tab:List RT)(k:Nat):(ei lines tab k).length=k:=by
 induction k with
 | zero=>rfl
 | succ k ih=>simp[ei,ih]
theorem sk(lines:List (ByteArray×PT))(tab new:List RT):∀ k,k<=tab.length->ei lines (tab++new) k=ei lines tab k:=by
 intro k
 induction k with
 | zero=>intro _;rfl
 | succ k ih=>intro h;simp only[ei];rw[ih (by omega),j1 (by omega)]
theorem gN(lines:List (ByteArray×PT))(tab:List RT)(y:Nat):∀ k,y<k->i7 (ei lines tab k) y=mM lines tab y:=by
 intro k
 induction k with
 | zero=>intro h;omega
 | succ k ih =>
  intro h;simp only[ei,i7]
  by_cases e:y<k
  ·rw[List.getElem?_append_left (by rw[ky];exact e)];exact ih e
  ·have:y=k:=by omega
   subst this;rw[List.getElem?_append_right (by rw[ky];exact Nat.le_refl _),ky,Nat.sub_self];rfl
theorem zT(lines:List (ByteArray×PT))(tab new:List RT)(y:Nat)(h:y<tab.length):mM lines (tab++new) y=mM lines tab y:=by
 unfold mM;rw[sk _ _ _ _ (by omega),j1 h]
def fW(lo:Nat)(tab:List RT):Prop:=∀ x,lo<=x->x<tab.length ->
 ((rowAt tab x).kind≠11->(∀ y∈(rowAt tab x).of,lo<=y/\y<x)/\(((rowAt tab x).names=[]/\(rowAt tab x).kind<=8)\/((rowAt tab x).names.length=(rowAt tab x).of.length/\(rowAt tab x).ats.length=(rowAt tab x).of.length))) /\
 ((rowAt tab x).kind=11->(rowAt tab x).names.length=1/\(rowAt tab x).ats.length=1/\(rowAt tab x).of=[])
theorem fW.snoc(h:fW lo tab)
  (h1:t.kind≠11->(∀ y∈t.of,lo<=y/\y<tab.length)/\((t.names=[]/\t.kind<=8)\/(t.names.length=t.of.length/\t.ats.length=t.of.length))) (h2:t.kind=11->t.names.length=1/\t.ats.length=1/\t.of=[]):fW lo (tab++[t]):=by
 intro x nJ a
 by_cases e:x<tab.length
 ·rw[j1 e];exact h x nJ e
 ·have:x=tab.length:=by simp at a;omega
  subst this;rw[pV];exact⟨h1,h2⟩
theorem fW.nil(tab:List RT):fW tab.length tab:=fun x h1 h2=>by omega
def Ar(lines:List (ByteArray×PT))(bX:List RT)(lo:Nat)(b0:Option Nat)(p:lN)(r:RS×Nat):Prop :=
 (∃ new,r.1.tab=bX++new)/\fW lo r.1.tab/\bX.length<=r.2/\r.2<r.1.tab.length/\p.t=(mM lines r.1.tab r.2).1/\p.bad=ql b0 (mM lines r.1.tab r.2).2
def J(s:ByteArray)(lines:List (ByteArray×PT))(bX:List RT)(lo:Nat)(b0:Option Nat)(p:lN)(r:RS×Nat):Prop :=
 p.n=r.1.n/\p.n<=s.size/\((p.ok=true/\r.1.bad=false/\Ar lines bX lo b0 p r)\/(r.1.bad=true/\(p.ok=false\/d7 s p.n=true)))
theorem p5(s:ByteArray)(g n:Nat)(tab:List RT):bW s g ⟨n,true,tab⟩=(⟨n,true,tab⟩,0):=by
 cases g<;>simp[bW]
theorem lV(s:ByteArray)(c n:Nat)(tab:List RT):cU s c ⟨n,true,tab⟩=⟨n,true,tab⟩:=by
 simp[cU,dQ,fl,iC]
theorem ox(tab:List RT)(h:aq s n=c):cU s c ⟨n,false,tab⟩=⟨n+1,false,tab⟩:=by
 simp[cU,dQ,fl,iC,h]
theorem p6(tab:List RT)(h:¬aq s n=c):cU s c ⟨n,false,tab⟩=⟨n,true,tab⟩:=by
 simp[cU,dQ,fl,iC,h]
theorem j9(h:d7 s n=true)(hc:c<97\/122<c):¬aq s n=c:=by
 unfold d7 at h;simp at h;omega
theorem ke{bX:List RT}(_hlo:lo<=bX.length){b0:Option Nat}{p:lN}(FV:∃ new,tab=bX++new)(dq:fW lo tab)
  (h1:t.kind≠11->(∀ y∈t.of,lo<=y/\y<tab.length)/\((t.names=[]/\t.kind<=8)\/(t.names.length=t.of.length/\t.ats.length=t.of.length))) (h2:t.kind=11->t.names.length=1/\t.ats.length=1/\t.of=[])
  (hd:p.t=(jY lines (ei lines tab tab.length) t).1) (hb:p.bad=ql b0 (jY lines (ei lines tab tab.length) t).2):Ar lines bX lo b0 p (j4 ⟨n,false,tab⟩ t):=by
 obtain⟨new,rfl⟩:=FV
 have e:mM lines ((bX++new)++[t]) (bX++new).length=jY lines (ei lines (bX++new) (bX++new).length) t:=by
  unfold mM;rw[sk _ _ _ _ (Nat.le_refl _),pV]
 refine⟨⟨new++[t],by simp[j4]⟩,dq.snoc h1 h2,?_,?_,?_,?_⟩
 ·show bX.length<=(bX++new).length;simp
 ·show(bX++new).length<((bX++new)++[t]).length;simp
 ·show p.t=(mM lines ((bX++new)++[t]) (bX++new).length).1;rw[e];exact hd
 ·show p.bad=ql b0 (mM lines ((bX++new)++[t]) (bX++new).length).2;rw[e];exact hb
theorem Ib(h:ah s n 6=n+6)(hs:n+6<=s.size):cY (ax s n)=none:=by
 rcases hk:cY (ax s n) with _|k
 ·rfl
 ·obtain⟨a,e⟩:=eY hk;have dJ:(ax s n).size=6:=by unfold ax;rw[h,ByteArray.size_extract];omega
  rw[<-e] at dJ
  have:∀ i,i<7->(wd i).size≠6:=by decide +kernel
  exact absurd dJ (this k a)
theorem o6(l:List ByteArray)(k:Nat):∀ m j,gE l k m j=true↔∃ i,j<=i/\i<j+m/\bF l i=bF l k:=by
 intro m
 induction m with
 | zero=>intro j;simp[gE];intro i b c;omega
 | succ m ih =>
  intro j;simp only[gE,Bool.or_eq_true,decide_eq_true_eq,ih];constructor
  ·rintro(h|⟨i,b,c,a⟩)
   ·exact⟨j,Nat.le_refl _,by omega,h⟩
   ·exact⟨i,by omega,by omega,a⟩
  ·rintro⟨i,b,c,a⟩
   by_cases e:i=j
   ·subst e;exact .inl a
   ·exact .inr ⟨i,by omega,by omega,a⟩
theorem gG{l:List ByteArray}(h:i<l.length):bF (l++[nm]) i=bF l i:=by unfold bF;rw[List.getElem?_append_left h]
theorem oP(l:List ByteArray)(nm:ByteArray):bF (l++[nm]) l.length=nm:=by unfold bF;simp
theorem lY{a:Nat}(h:i<l.length):aj (l++[a]) i=aj l i:=by unfold aj;rw[List.getElem?_append_left h]
theorem kJ(l:List Nat)(a:Nat):aj (l++[a]) l.length=a:=by unfold aj;simp
theorem En(l:List ByteArray)(nm:ByteArray):dup (l++[nm]) l.length=l.any (fun x=>decide (x=nm)):=by
 rw[Bool.eq_iff_iff];unfold dup;have d:(l++[nm]).isEmpty=false:=by cases l<;>rfl
 rw[d];simp only[Bool.not_false,Bool.true_and,o6,oP,List.any_eq_true,decide_eq_true_eq];constructor
 ·rintro⟨i,_,f,c⟩
  have a:i<l.length:=by omega
  rw[gG a] at c;exact⟨bF l i,by unfold bF;simp[a],c⟩
 ·rintro⟨x,e,rfl⟩
  obtain⟨i,a⟩:=List.getElem?_of_mem e;have b:=(List.getElem?_eq_some_iff.1 a).1;exact⟨i,Nat.zero_le _,by omega,by rw[gG b];unfold bF;rw[a];rfl⟩
theorem F6{l:List ByteArray}{k:Nat}(h:k<l.length):dup (l++[nm]) k=dup l k:=by
 rw[Bool.eq_iff_iff];unfold dup;have e:(l++[nm]).isEmpty=false:=by cases l<;>rfl
 have b:l.isEmpty=false:=by cases l with|nil=>simp at h|cons _ _=>rfl
 rw[e,b];simp only[Bool.not_false,Bool.true_and,o6];constructor
 ·rintro⟨i,c,d,a⟩
  rw[gG (by omega),gG h] at a;exact⟨i,c,d,a⟩
 ·rintro⟨i,c,d,a⟩
  exact⟨i,c,d,by rw[gG (by omega),gG h];exact a⟩
theorem yd{H9:List (PT×Option Nat)}{a:Nat}(hn:t.names.length=t.of.length)(ha:t.ats.length=t.of.length)(hv:∀ y∈t.of,i7 H9 y=i7 vs y):
  ∀ m k,k+m=t.of.length->i6 H9 ⟨t.kind,t.of++[x],t.names++[nm],t.ats++[a]⟩ (m+1) k=ql (i6 vs t m k) (if t.names.any (fun z=>decide (z=nm))=true then some a else(i7 H9 x).2):=by
 intro m
 induction m with
 | zero =>
  intro k i;have c:k=t.of.length:=by omega
  subst c;have d:dup (t.names++[nm]) t.of.length=t.names.any (fun z=>decide (z=nm)):=by rw[<-hn];exact En _ _
  have e:aj (t.ats++[a]) t.of.length=a:=by rw[<-ha];exact kJ _ _
  simp only[i6,d,e,kJ,ql]
  split
  ·rfl
  ·cases (i7 H9 x).2<;>rfl
 | succ m ih =>
  intro k i;have c:k<t.of.length:=by omega
  have d:dup (t.names++[nm]) k=dup t.names k:=F6 (by omega);have e:aj (t.ats++[a]) k=aj t.ats k:=lY (by omega);have f:aj (t.of++[x]) k=aj t.of k:=lY c;have g:i7 H9 (aj t.of k)=i7 vs (aj t.of k):=hv _ (by unfold aj;simp[c]);have h:=ih (k+1) (by omega);rw[i6];simp only[d,e,f,g];rw[show i6 vs t (m+1) k=(if dup t.names k=true then some (aj t.ats k) else match (i7 vs (aj t.of k)).2 with|some a=>some a|none=>i6 vs t m (k+1)) from rfl]
  split
  ·rfl
  ·cases (i7 vs (aj t.of k)).2 with
   | some b=>rfl
   | none=>exact h
def Gr(s:ByteArray)(lines:List (ByteArray×PT))(f g:Nat):Prop:=∀(n:Nat) (bad:Option Nat) (tab:List RT) (lo:Nat),lo<=tab.length->fW lo tab->n<=s.size->s.size<n+f->s.size<n+g->J s lines tab lo bad (aJ s lines f n bad) (bW s g ⟨n,false,tab⟩)
theorem qj(hT:Gr s lines f g)(n:Nat)(bad:Option Nat)(tab:List RT)(lo:Nat)(br:List ByteArray)(de:Nat)(Ha:de<97)(nJ:lo<=tab.length)(dq:fW lo tab)(hn:n<=s.size)(hf:s.size<n+1+f)(hg:s.size<n+1+g):
  (aM (aJ s lines f) s br de n bad).n=(bW s g (cU s de ⟨bg s n false,bG s n false,tab⟩)).1.n/\(aM (aJ s lines f) s br de n bad).n<=s.size /\
  (((aM (aJ s lines f) s br de n bad).ok=true/\(bW s g (cU s de ⟨bg s n false,bG s n false,tab⟩)).1.bad=false/\cM s n false=ax s n/\Ar lines tab lo (di s br n bad) (aM (aJ s lines f) s br de n bad) (bW s g (cU s de ⟨bg s n false,bG s n false,tab⟩))) \/
   ((bW s g (cU s de ⟨bg s n false,bG s n false,tab⟩)).1.bad=true/\((aM (aJ s lines f) s br de n bad).ok=false\/d7 s (aM (aJ s lines f) s br de n bad).n=true))):=by
 have m:=d6 s 6 n;have bZ:=gV s 6 n hn;have o:bg s n false=ah s n 6:=rfl;rw[o]
 by_cases a:dA s n=true
 ·have p:bG s n false=true:=by simp[bG,cG,a]
  rw[p,lV,p5];have d:ah s n 6=n+6/\d7 s (n+6)=true:=by unfold dA at a;simpa using a
  have dH:fF s n=true:=by
   unfold fF;rw[Ib d.1 (by omega)];simp;omega
  have c:aM (aJ s lines f) s br de n bad=cV (ah s n 6) (di s br n bad):=by
   unfold aM;rw[if_neg (by rw[dH];simp),if_neg (by rw[d.1];exact j9 d.2 (.inl Ha))]
  rw[c];exact⟨rfl,bZ,.inr ⟨rfl,.inl rfl⟩⟩
 ·have b:dA s n=false:=by simpa using a
  have e:cM s n false=ax s n:=by simp[cM,b]
  have i:bG s n false=!(fF s n):=by
   unfold bG cG fF;rw[e,b];cases h:cY (ax s n)<;>simp
  rcases dH:fF s n with _|_
  ·rw[i,dH];simp only[Bool.not_false];rw[lV,p5];have c:aM (aJ s lines f) s br de n bad=cV (ah s n 6) bad:=by unfold aM;rw[if_pos dH]
   rw[c];exact⟨rfl,bZ,.inr ⟨rfl,.inl rfl⟩⟩
  ·rw[i,dH];simp only[Bool.not_true]
   by_cases j:aq s (ah s n 6)=de
   ·rw[ox tab j]
    have c:aM (aJ s lines f) s br de n bad=aJ s lines f (ah s n 6+1) (di s br n bad):=by
     unfold aM;rw[if_neg (by rw[dH];simp),if_pos j]
    rw[c];have k:ah s n 6+1<=s.size:=bt (by omega);obtain⟨q,r,l⟩:=hT (ah s n 6+1) (di s br n bad) tab lo nJ dq k (by omega) (by omega);refine⟨q,r,?_⟩;rcases l with⟨t,u,d⟩|l
    ·exact .inl ⟨t,u,e,d⟩
    ·exact .inr l
   ·rw[p6 tab j,p5]
    have c:aM (aJ s lines f) s br de n bad=cV (ah s n 6) (di s br n bad):=by
     unfold aM;rw[if_neg (by rw[dH];simp),if_neg j]
    rw[c];exact⟨rfl,bZ,.inr ⟨rfl,.inl rfl⟩⟩
theorem F8{acc:List (ByteArray×PT)}(h:acc.map (·.2)=l.map (fun y=>(i7 vs y).1)):maxDepth acc=Cb vs l:=by
 have a:maxDepth acc=(acc.map (·.2)).foldl (fun c t=>max c t.depth) 0:=by simp[maxDepth,List.foldl_map]
 rw[a,h,List.foldl_map];rfl
theorem Fk{acc:List (ByteArray×PT)}{kind:Nat}(hk:t.kind=kind)(hn:t.names=acc.map (·.1))(ha:acc≠[])(h:acc.map (·.2)=t.of.map (fun y=>(i7 vs y).1)):aP kind acc=oO vs t:=by
 unfold aP oO kL;rw[F8 h,hn,h,hk,if_neg (by simpa using ha)]
theorem Hn(b0 W V:Option Nat)(n:Nat)(c:Bool):ql (if c=true then orElse (ql b0 W) n else ql b0 W) V=ql b0 (ql W (if c=true then some n else V)):=by
 cases b0<;>cases W<;>cases c<;>simp[ql,orElse]
def zN(s:ByteArray)(lines:List (ByteArray×PT))(f g kind cR close:Nat)(bX:List RT)(lo:Nat)(b0:Option Nat)(k:Nat):Prop :=
 ∀(acc:List (ByteArray×PT)) (n:Nat) (bad:Option Nat) (t:RT) (tab:List RT),k+acc.length=6->acc.length≠6->n+1<=s.size->s.size<n+2+f->s.size<n+2+g ->
   t.kind=kind->t.names=acc.map (·.1)->t.of.length=acc.length->t.ats.length=acc.length->(∃ new,tab=bX++new)->fW lo tab->(∀ y∈t.of,lo<=y/\y<tab.length)->acc.map (·.2)=t.of.map (fun y=>(i7 (ei lines tab tab.length) y).1)->bad=ql b0 (i6 (ei lines tab tab.length) t t.of.length 0) ->
   J s lines bX lo b0 (bJ (aJ s lines f) s kind cR close k acc (n+1) bad) (j4 (cU s close (fO (bW s g) s cR k t ⟨n,false,tab⟩).2) (fO (bW s g) s cR k t ⟨n,false,tab⟩).1)
theorem yJ(hT:Gr s lines f g)(kind cR close:Nat)(BT:kind≠11)(GD:cR<97\/122<cR)(pC:close<97\/122<close)(Ea:cR<256)(Ag:close<256)(Cs:cR≠close)(bX:List RT)(lo:Nat)(nJ:lo<=bX.length)(b0:Option Nat)(k:Nat)(IL:zN s lines f g kind cR close bX lo b0 k):zN s lines f g kind cR close bX lo b0 (k+1):=by
 intro a n d t i h6 aa hn hf hg M q ad ae FV dq F Q R;have X:=qj hT (n+1) d i lo (a.map (·.1)) 58 (by omega) (by obtain⟨e,rfl⟩:=FV;simp;omega) dq hn (by omega) (by omega)
 have Y:bJ (aJ s lines f) s kind cR close (k+1) a (n+1) d=if(aM (aJ s lines f) s (a.map (·.1)) 58 (n+1) d).ok=false then cV (aM (aJ s lines f) s (a.map (·.1)) 58 (n+1) d).n (aM (aJ s lines f) s (a.map (·.1)) 58 (n+1) d).bad else
   if aq s (aM (aJ s lines f) s (a.map (·.1)) 58 (n+1) d).n=close then⟨true,aP kind (a++[(ax s (n+1),(aM (aJ s lines f) s (a.map (·.1)) 58 (n+1) d).t)]),(aM (aJ s lines f) s (a.map (·.1)) 58 (n+1) d).n+1,(aM (aJ s lines f) s (a.map (·.1)) 58 (n+1) d).bad⟩ else
   if a.length+1=6\/aq s (aM (aJ s lines f) s (a.map (·.1)) 58 (n+1) d).n≠cR then cV (aM (aJ s lines f) s (a.map (·.1)) 58 (n+1) d).n (aM (aJ s lines f) s (a.map (·.1)) 58 (n+1) d).bad else
   bJ (aJ s lines f) s kind cR close k (a++[(ax s (n+1),(aM (aJ s lines f) s (a.map (·.1)) 58 (n+1) d).t)]) ((aM (aJ s lines f) s (a.map (·.1)) 58 (n+1) d).n+1) (aM (aJ s lines f) s (a.map (·.1)) 58 (n+1) d).bad:=rfl
 have Z:fO (bW s g) s cR (k+1) t ⟨n,false,i⟩=if iC s (bW s g (cU s 58 ⟨bg s (n+1) false,bG s (n+1) false,i⟩)).1.n (bW s g (cU s 58 ⟨bg s (n+1) false,bG s (n+1) false,i⟩)).1.bad cR=true/\t.of.length+1≠6 then
   fO (bW s g) s cR k ⟨t.kind,t.of++[(bW s g (cU s 58 ⟨bg s (n+1) false,bG s (n+1) false,i⟩)).2],t.names++[cM s (n+1) false],t.ats++[n+1]⟩ (bW s g (cU s 58 ⟨bg s (n+1) false,bG s (n+1) false,i⟩)).1
   else(⟨t.kind,t.of++[(bW s g (cU s 58 ⟨bg s (n+1) false,bG s (n+1) false,i⟩)).2],t.names++[cM s (n+1) false],t.ats++[n+1]⟩,(bW s g (cU s 58 ⟨bg s (n+1) false,bG s (n+1) false,i⟩)).1):=rfl
 rw[Y,Z];have I:n+1<=(aM (aJ s lines f) s (a.map (·.1)) 58 (n+1) d).n:=sR _ (uf s lines f) s _ 58 (n+1) d;generalize aM (aJ s lines f) s (a.map (·.1)) 58 (n+1) d=p at *;generalize bW s g (cU s 58 ⟨bg s (n+1) false,bG s (n+1) false,i⟩)=r at *;obtain⟨r1,x⟩:=r;obtain⟨rn,rb,ab⟩:=r1;obtain⟨S,pt,C,T⟩:=p;simp only at X I ⊢;obtain⟨ux,v,G⟩:=X;subst ux;rcases G with⟨N,j,U,H⟩|⟨j,V⟩
 ·subst N j;obtain⟨⟨b,u⟩,l,W,O,D,Cr⟩:=H;simp only at u l W O D Cr;subst u;rw[U];obtain⟨e,rfl⟩:=FV
  have J:∀ y,y<(bX++e).length->i7 (ei lines ((bX++e)++b) ((bX++e)++b).length) y=i7 (ei lines (bX++e) (bX++e).length) y:=fun y hy=>by
   rw[gN lines _ y _ (by rw[List.length_append];omega),gN lines _ y _ hy,zT lines _ _ y hy]
  have K:i7 (ei lines ((bX++e)++b) ((bX++e)++b).length) x=mM lines ((bX++e)++b) x:=gN lines _ x _ O
  have w:(a++[(ax s (n+1),pt)]).map (·.2)=(t.of++[x]).map (fun y=>(i7 (ei lines ((bX++e)++b) ((bX++e)++b).length) y).1):=by
   rw[List.map_append,List.map_append,Q]
   congr 1
   ·exact List.map_congr_left fun y hy=>by rw[J y (F y hy).2]
   ·simp only[List.map_cons,List.map_nil];rw[K,<-D]
  have A:T=ql b0 (i6 (ei lines ((bX++e)++b) ((bX++e)++b).length) ⟨t.kind,t.of++[x],t.names++[ax s (n+1)],t.ats++[n+1]⟩ (t.of++[x]).length 0):=by
   rw[show(t.of++[x]).length=t.of.length+1 by simp];rw[yd (by rw[q,List.length_map];omega) (by omega) (fun y hy=>J y (F y hy).2) t.of.length 0 (by omega)];rw[Cr,K,<-Hn,R,q];rfl
  have B:∀ y∈t.of++[x],lo<=y/\y<((bX++e)++b).length:=fun y hy=>by
   rcases List.mem_append.1 hy with h|h
   ·have:=F y h;rw[List.length_append];omega
   ·simp at h;subst h
    have:lo<=(bX++e).length:=by rw[List.length_append];omega
    omega
  have m:∃ z,(bX++e)++b=bX++z:=⟨e++b,by simp⟩
  by_cases P:aq s C=close
  ·rw[if_neg (by simp),if_pos P,if_neg (by rw[cx (by omega)];simp)];simp only;rw[ox _ P];have E:C+1<=s.size:=bt (by omega);refine⟨rfl,E,.inl ⟨rfl,rfl,?_⟩⟩;refine ke nJ m l (fun _=>⟨B,.inr ⟨?_,?_⟩⟩) (fun h=>absurd (M.symm.trans h) BT) ?_ ?_
   ·simp only[List.length_append,List.length_cons,List.length_nil];rw[q,List.length_map];omega
   ·simp only[List.length_append,List.length_cons,List.length_nil];omega
   ·unfold jY;rw[if_neg (by show ¬t.kind=11;rw[M];exact BT)];exact Fk M (by simp[q]) (by simp) w
   ·show T=_;unfold jY;rw[if_neg (by show ¬t.kind=11;rw[M];exact BT)];exact A
  ·rw[if_neg (by simp),if_neg P]
   by_cases o:a.length+1=6\/aq s C≠cR
   ·rw[if_pos o,if_neg (by
     rintro⟨h1,h2⟩
     rcases o with h|h
     ·omega
     ·rw[cx h] at h1;cases h1)]
    simp only;rw[p6 _ P];exact⟨rfl,v,.inr ⟨rfl,.inl rfl⟩⟩
   ·have hb:aq s C=cR:=by
     rcases Nat.decEq (aq s C) cR with h|h
     ·exact absurd (.inr h) o
     ·exact h
    have ac:a.length+1≠6:=fun h=>o (.inl h)
    rw[if_neg o,if_pos ⟨ll hb,by omega⟩];have E:C+1<=s.size:=bt (by omega)
    exact IL (a++[(ax s (n+1),pt)]) C T ⟨t.kind,t.of++[x],t.names++[ax s (n+1)],t.ats++[n+1]⟩ ((bX++e)++b) (by simp only[List.length_append,List.length_cons,List.length_nil];omega) (by simp only[List.length_append,List.length_cons,List.length_nil];omega) E (by omega) (by omega)
     M (by simp[q]) (by simp only[List.length_append,List.length_cons,List.length_nil];omega) (by simp only[List.length_append,List.length_cons,List.length_nil];omega) m l B w A
 ·subst j;rw[if_neg (c:=iC s C true cR=true/\t.of.length+1≠6) (by simp[iC])];simp only;rw[lV];rcases V with h|h
  ·subst h;rw[if_pos rfl];exact⟨rfl,v,.inr ⟨rfl,.inl rfl⟩⟩
  ·by_cases L:S=false
   ·rw[if_pos L];exact⟨rfl,v,.inr ⟨rfl,.inl rfl⟩⟩
   ·rw[if_neg L,if_neg (j9 h pC),if_pos (.inr (j9 h GD))];exact⟨rfl,v,.inr ⟨rfl,.inl rfl⟩⟩
theorem oS(hT:Gr s lines f g)(kind cR close:Nat)(BT:kind≠11)(GD:cR<97\/122<cR)(pC:close<97\/122<close)(Ea:cR<256)(Ag:close<256)(Cs:cR≠close)(bX:List RT)(lo:Nat)(nJ:lo<=bX.length)(b0:Option Nat):∀ k,zN s lines f g kind cR close bX lo b0 k:=by
 intro k
 induction k with
 | zero=>intro b n c t d e a;omega
 | succ k ih=>exact yJ hT kind cR close BT GD pC Ea Ag Cs bX lo nJ b0 k ih
theorem wT(n:Nat)(bad:Option Nat)(tab:List RT)(lo:Nat)(nJ:lo<=tab.length)(dq:fW lo tab)(hn:n<=s.size):
  J s lines tab lo bad (cL s lines n bad) (match cY (cM s n false) with
   | some k=>j4 ⟨bg s n false,cG s n false,tab⟩ ⟨k,[],[],[]⟩
   | none=>j4 ⟨bg s n false,cG s n false,tab⟩ ⟨11,[],[cM s n false],[n]⟩):=by
 have bZ:=gV s 6 n hn;have l:bg s n false=ah s n 6:=rfl;rw[l]
 by_cases b:dA s n=true
 ·have f:cG s n false=true:=by simp[cG,b]
  have i:ah s n 6=n+6/\d7 s (n+6)=true:=by unfold dA at b;simpa using b
  have ux:(cL s lines n bad).n=ah s n 6:=by
   unfold cL;rw[if_neg (by omega)]
   split
   ·rfl
   ·split<;>rfl
  rw[f];have j:d7 s (ah s n 6)=true:=by rw[i.1];exact i.2
  split
  ·exact⟨ux,by rw[ux];exact bZ,.inr ⟨rfl,.inr (by rw[ux];exact j)⟩⟩
  ·exact⟨ux,by rw[ux];exact bZ,.inr ⟨rfl,.inr (by rw[ux];exact j)⟩⟩
 ·have c:dA s n=false:=by simpa using b
  have g:cM s n false=ax s n:=by simp[cM,c]
  rw[g]
  by_cases d:ah s n 6=n
  ·have f:cG s n false=true:=by simp[cG,d]
   have e:cL s lines n bad=cV n bad:=by unfold cL;rw[if_pos d]
   rw[f,e,d]
   split
   ·exact⟨rfl,hn,.inr ⟨rfl,.inl rfl⟩⟩
   ·exact⟨rfl,hn,.inr ⟨rfl,.inl rfl⟩⟩
  ·have f:cG s n false=false:=by simp[cG,c,d]
   rw[f];rcases hk:cY (ax s n) with _|k
   ·rcases hl:gJ (ax s n) lines with _|q
    ·have e:cL s lines n bad=⟨true,PT.dummy,ah s n 6,orElse bad n⟩:=by unfold cL;rw[if_neg d,hk,hl]
     rw[e];refine⟨rfl,bZ,.inl ⟨rfl,rfl,ke nJ ⟨[],by simp⟩ dq (fun h=>absurd rfl h) (fun _=>⟨rfl,rfl,rfl⟩) ?_ ?_⟩⟩
     ·simp[jY,bF,hl]
     ·simp[jY,bF,hl,aj];cases bad<;>rfl
    ·have e:cL s lines n bad=⟨true,q,ah s n 6,bad⟩:=by unfold cL;rw[if_neg d,hk,hl]
     rw[e];refine⟨rfl,bZ,.inl ⟨rfl,rfl,ke nJ ⟨[],by simp⟩ dq (fun h=>absurd rfl h) (fun _=>⟨rfl,rfl,rfl⟩) ?_ ?_⟩⟩
     ·simp[jY,bF,hl]
     ·simp[jY,bF,hl];cases bad<;>rfl
   ·have m:=(eY hk).1;have e:cL s lines n bad=⟨true,PT.word k,ah s n 6,bad⟩:=by unfold cL;rw[if_neg d,hk]
    rw[e];have a:¬k=11:=by omega
    refine⟨rfl,bZ,.inl ⟨rfl,rfl,ke nJ ⟨[],by simp⟩ dq (fun _=>⟨fun y hy=>by simp at hy,.inl ⟨rfl,show k<=8 by omega⟩⟩) (fun h=>absurd h a) ?_ ?_⟩⟩
    ·simp[jY,a,oO,kL,Cb,PT.word]
    ·simp[jY,a,i6];cases bad<;>rfl
theorem sU{kd:Nat}{b0 pb:Option Nat}(BT:¬kd=11)(hx:x<tab.length)(hb:pb=ql b0 (mM lines tab x).2):pb=ql b0 (jY lines (ei lines tab tab.length) ⟨kd,[x],[],[]⟩).2:=by
 rw[hb]
 have e:(jY lines (ei lines tab tab.length) ⟨kd,[x],[],[]⟩).2=(mM lines tab x).2:=by
  unfold jY;rw[if_neg BT];show i6 _ ⟨kd,[x],[],[]⟩ 1 0=_;simp only[i6,dup,aj];simp;rw[gN lines tab x _ hx];cases (mM lines tab x).2<;>rfl
 rw[e]
theorem sV{kd:Nat}{t:PT}(BT:¬kd=11)(hx:x<tab.length)(hd:t=(mM lines tab x).1):aP kd [(⟨#[]⟩,t)]=(jY lines (ei lines tab tab.length) ⟨kd,[x],[],[]⟩).1:=by
 unfold jY;rw[if_neg BT];have e:(i7 (ei lines tab tab.length) x).1=t:=by rw[gN lines tab x _ hx,hd]
 simp[aP,oO,kL,maxDepth,Cb,e]
theorem AM(s:ByteArray)(lines:List (ByteArray×PT)):∀ f g,Gr s lines f g:=by
 intro f
 induction f with
 | zero=>intro g n a c t nJ dq G H I;omega
 | succ f ih =>
  intro g n a c t nJ dq G H I;cases g with
  | zero=>omega
  | succ g =>
   have j:=ih g;simp only[aJ,bW,Bool.false_eq_true,↓reduceIte]
   by_cases z:aq s n=91
   ·rw[if_pos z,if_pos z];have eQ:n+1<=s.size:=bt (by omega);have D:=j (n+1) a c t nJ dq eQ (by omega) (by omega);generalize aJ s lines f (n+1) a=p at *;generalize bW s g ⟨n+1,false,c⟩=r at *;obtain⟨⟨J,K,u⟩,x⟩:=r;obtain⟨l,L,F,M⟩:=p;obtain⟨ux,d,v⟩:=D;simp only at ux d v ⊢;subst ux;rcases v with⟨rfl,rfl,⟨⟨m,rfl⟩,b,o,e,hd,w⟩⟩|⟨rfl,q⟩
    ·simp only at b o e hd w;rw[if_neg (by simp)]
     by_cases k:aq s F=93
     ·rw[if_pos k,ox _ k];have E:F+1<=s.size:=bt (by omega);exact⟨rfl,E,.inl ⟨rfl,rfl,ke nJ ⟨m,rfl⟩ b (fun _=>⟨fun y hy=>by simp at hy;subst hy;exact⟨by omega,e⟩,.inl ⟨rfl,by simp⟩⟩) (fun h=>by cases h) (sV (by omega) e hd) (sU (by omega) e w)⟩⟩
     ·rw[if_neg k,p6 _ k];exact⟨rfl,d,.inr ⟨rfl,.inl rfl⟩⟩
    ·rw[lV]
     by_cases i:l=false
     ·rw[if_pos i];exact⟨rfl,d,.inr ⟨rfl,.inl rfl⟩⟩
     ·rcases q with h|h
      ·exact absurd h i
      ·rw[if_neg i,if_neg (j9 h (by omega))];exact⟨rfl,d,.inr ⟨rfl,.inl rfl⟩⟩
   ·rw[if_neg z,if_neg z]
    by_cases A:aq s n=63
    ·rw[if_pos A,if_pos A];have eQ:n+1<=s.size:=bt (by omega);have D:=j (n+1) a c t nJ dq eQ (by omega) (by omega);generalize aJ s lines f (n+1) a=p at *;generalize bW s g ⟨n+1,false,c⟩=r at *;obtain⟨⟨J,K,u⟩,x⟩:=r;obtain⟨l,L,F,M⟩:=p;obtain⟨ux,d,v⟩:=D;simp only at ux d v ⊢;subst ux;rcases v with⟨rfl,rfl,⟨⟨m,rfl⟩,b,o,e,hd,w⟩⟩|⟨rfl,q⟩
     ·simp only at b o e hd w;rw[if_neg (by simp)];exact⟨rfl,d,.inl ⟨rfl,rfl,ke nJ ⟨m,rfl⟩ b (fun _=>⟨fun y hy=>by simp at hy;subst hy;exact⟨by omega,e⟩,.inl ⟨rfl,by simp⟩⟩) (fun h=>by cases h) (sV (by omega) e hd) (sU (by omega) e w)⟩⟩
     ·by_cases i:l=false
      ·rw[if_pos i];exact⟨rfl,d,.inr ⟨rfl,.inl rfl⟩⟩
      ·rcases q with h|h
       ·exact absurd h i
       ·rw[if_neg i];exact⟨rfl,d,.inr ⟨rfl,.inr h⟩⟩
    ·rw[if_neg A,if_neg A]
     by_cases B:aq s n=123
     ·rw[if_pos B,if_pos B];have eQ:n+1<=s.size:=bt (by omega);exact oS j 9 44 125 (by omega) (by omega) (by omega) (by omega) (by omega) (by omega) c t nJ a 6 [] n a ⟨9,[],[],[]⟩ c rfl (by simp) eQ (by omega) (by omega) rfl rfl rfl rfl ⟨[],by simp⟩ dq (fun y hy=>by simp at hy) rfl (by cases a<;>rfl)
     ·rw[if_neg B,if_neg B]
      by_cases C:aq s n=60
      ·rw[if_pos C,if_pos C];have eQ:n+1<=s.size:=bt (by omega);exact oS j 10 124 62 (by omega) (by omega) (by omega) (by omega) (by omega) (by omega) c t nJ a 6 [] n a ⟨10,[],[],[]⟩ c rfl (by simp) eQ (by omega) (by omega) rfl rfl rfl rfl ⟨[],by simp⟩ dq (fun y hy=>by simp at hy) rfl (by cases a<;>rfl)
      ·rw[if_neg C,if_neg C];exact wT n a c t nJ dq G
def Hm(tab:List RT)(lines:List (ByteArray×PT))(roots ats:List Nat)(i:Nat):Option Nat :=
 ql (if((lines.take i).map (·.1)).any (fun z=>decide (z=bF (lines.map (·.1)) i))=true then some (aj ats i) else none) (mM (lines.take i) tab (aj roots i)).2
def GH(tab:List RT)(lines:List (ByteArray×PT))(roots ats:List Nat)(i:Nat):Option Nat :=
 if 12<(mM (lines.take i) tab (aj roots i)).1.depth then some (aj ats i) else none
def ff(c:Nat->Option Nat):Nat->Option Nat
 | 0=>none
 | k+1=>ql (ff c k) (c k)
theorem mC{c c':Nat->Option Nat}:∀ k,(∀ i,i<k->c i=c' i)->ff c k=ff c' k:=by
 intro k
 induction k with
 | zero=>intro _;rfl
 | succ k ih=>intro h;simp only[ff];rw[ih (fun i hi=>h i (by omega)),h k (by omega)]
def I9(tab:List RT)(lines:List (ByteArray×PT))(roots:List Nat)(i:Nat):Prop :=
 ∃ lo,lo<=aj roots i/\aj roots i<tab.length/\fW lo (tab.take (aj roots i+1))/\(∀ j,j<i->aj roots j<lo)/\(∃ q,lines[i]?=some q/\q.2=(mM (lines.take i) tab (aj roots i)).1)
structure Inv(d:RD)(lines:List (ByteArray×PT))(bad deep:Option Nat):Prop where
 nms:d.lines=lines.map (·.1)
 la:d.ats.length=lines.length
 lr:d.roots.length=lines.length
 seg:∀ i,i<lines.length->I9 d.tab lines d.roots i
 bad:bad=ff (Hm d.tab lines d.roots d.ats) lines.length
 deep:deep=ff (GH d.tab lines d.roots d.ats) lines.length
 wf:W1 d.tab
 em:∀ x,(rowAt d.tab x).kind=11->(rowAt d.tab x).of=[]
theorem nh{q:ByteArray×PT}(h:i<=lines.length):(lines++[q]).take i=lines.take i:=by
 rw[List.take_append_of_le_length h]
theorem fW.take(h:fW lo tab)(m:Nat):fW lo (tab.take m):=by
 intro x nJ a;rw[List.length_take] at a;have e:rowAt (tab.take m) x=rowAt tab x:=by unfold rowAt;rw[List.getElem?_take_of_lt (by omega)]
 rw[e];exact h x nJ (by omega)
theorem Io(h:W1 tab)(nJ:lo=tab.length)(hr:fW lo (tab++new)):W1 (tab++new):=by
 intro x t a
 by_cases e:x<tab.length
 ·rw[List.getElem?_append_left e] at a;exact h x t a
 ·have b:=(List.getElem?_eq_some_iff.1 a).1;have c:rowAt (tab++new) x=t:=by unfold rowAt;rw[a];rfl
  have:=hr x (by omega) b
  rw[c] at this;exact⟨fun hk=>⟨fun y hy=>((this.1 hk).1 y hy).2,(this.1 hk).2⟩,fun hk=>⟨(this.2 hk).1,(this.2 hk).2.1⟩⟩
theorem DP{d:RD}{bad:Option Nat}(h:Inv d lines bad deep)(D7:∀ j,j<lines.length->aj d.roots j<d.tab.length){p:lN}{rn:Nat}
  (hg:Ar lines d.tab d.tab.length (di s (lines.map (·.1)) d.n bad) p (⟨rn,false,d.tab++new⟩,x)) :
  Inv ⟨rn,false,d.tab++new,d.lines++[ax s d.n],d.ats++[d.n],d.roots++[x]⟩ (lines++[(ax s d.n,p.t)]) p.bad (bV p d.n deep):=by
 obtain⟨_,a,r,u,f,Cr⟩:=hg;simp only at a r u f Cr;have il:(lines.map (·.1)).length=lines.length:=by simp
 have Cq:∀ i,i<lines.length->aj (d.roots++[x]) i=aj d.roots i:=fun i b=>lY (by rw[h.lr];exact b)
 have m:∀ i,i<lines.length->aj (d.ats++[d.n]) i=aj d.ats i:=fun i b=>lY (by rw[h.la];exact b)
 have dK:aj (d.roots++[x]) lines.length=x:=by rw[<-h.lr];exact kJ _ _
 have o:aj (d.ats++[d.n]) lines.length=d.n:=by rw[<-h.la];exact kJ _ _
 have e:(lines++[(ax s d.n,p.t)]).map (·.1)=lines.map (·.1)++[ax s d.n]:=by simp
 have k:∀ i,i<lines.length->mM ((lines++[(ax s d.n,p.t)]).take i) (d.tab++new) (aj (d.roots++[x]) i)=mM (lines.take i) d.tab (aj d.roots i):=fun i b=>by
  rw[nh (by omega),Cq i b,zT _ _ _ _ (D7 i b)]
 have l:mM ((lines++[(ax s d.n,p.t)]).take lines.length) (d.tab++new) (aj (d.roots++[x]) lines.length)=mM lines (d.tab++new) x:=by
  rw[nh (Nat.le_refl _),dK,List.take_length]
 have A:∀ i,i<lines.length->Hm (d.tab++new) (lines++[(ax s d.n,p.t)]) (d.roots++[x]) (d.ats++[d.n]) i=Hm d.tab lines d.roots d.ats i:=fun i b=>by
  unfold Hm;rw[k i b,m i b,nh (by omega),e,gG (by rw[il];exact b)]
 have B:∀ i,i<lines.length->GH (d.tab++new) (lines++[(ax s d.n,p.t)]) (d.roots++[x]) (d.ats++[d.n]) i=GH d.tab lines d.roots d.ats i:=fun i b=>by
  unfold GH;rw[k i b,m i b]
 refine⟨?_,?_,?_,?_,?_,?_,Io h.wf rfl a,fun y hy=>?_⟩
 ·show d.lines++[ax s d.n]=_;rw[e,h.nms]
 ·show(d.ats++[d.n]).length=_;simp[h.la]
 ·show(d.roots++[x]).length=_;simp[h.lr]
 ·intro i b;rw[List.length_append,List.length_cons,List.length_nil] at b;show I9 (d.tab++new) (lines++[(ax s d.n,p.t)]) (d.roots++[x]) i
  by_cases c:i<lines.length
  ·obtain⟨C,D,I,E,F,q,G,H⟩:=h.seg i c;refine⟨C,by rw[Cq i c];exact D,by rw[Cq i c,List.length_append];omega,?_,fun j hj=>by rw[Cq j (by omega)];exact F j hj,q,by rw[List.getElem?_append_left c];exact G,by rw[k i c];exact H⟩;rw[Cq i c,List.take_append_of_le_length (by omega)];exact E
  ·have:i=lines.length:=by omega
   subst this;refine⟨d.tab.length,by rw[dK];exact r,by rw[dK];exact u,by rw[dK];exact a.take _,fun j hj=>by rw[Cq j hj];exact D7 j hj,(ax s d.n,p.t),by simp,by rw[l];exact f⟩
 ·show p.bad=ff _ (lines++[(ax s d.n,p.t)]).length;rw[List.length_append,List.length_cons,List.length_nil];simp only[ff];rw[mC lines.length A,<-h.bad];unfold Hm;rw[l,o,nh (Nat.le_refl _),e,<-il,oP,il,List.take_length,Cr];unfold di;cases bad<;>cases (mM lines (d.tab++new) x).2<;>cases ((lines.map (·.1)).any fun z=>decide (z=ax s d.n))<;>rfl
 ·show bV p d.n deep=ff _ (lines++[(ax s d.n,p.t)]).length;rw[List.length_append,List.length_cons,List.length_nil];simp only[ff];rw[mC lines.length B,<-h.deep];unfold GH bV;rw[l,o,f]
  by_cases g:12<(mM lines (d.tab++new) x).1.depth
  ·rw[if_pos g,if_pos g];cases deep<;>rfl
  ·rw[if_neg g,if_neg g];cases deep<;>rfl
 ·show(rowAt (d.tab++new) y).of=[]
  by_cases w:y<d.tab.length
  ·rw[j1 w];exact h.em y (by rw[<-j1 (new:=new) w];exact hy)
  ·by_cases v:y<(d.tab++new).length
   ·exact((a y (by omega) v).2 hy).2.2
   ·unfold rowAt;rw[List.getElem?_eq_none (by omega)];rfl
theorem Inv.root{d:RD}{bad:Option Nat}(h:Inv d lines bad deep):∀ j,j<lines.length->aj d.roots j<d.tab.length:=fun j hj=>by
 obtain⟨lo,_,h2,_⟩:=h.seg j hj;exact h2
theorem zh(s:ByteArray)(h:d7 s s.size=true):False:=by
 unfold d7 aq at h;simp at h
theorem Ej{d:RD}(hb:d.bad=false)(h:aq s d.n=10):gy s d=⟨d.n+1,false,d.tab,d.lines,d.ats,d.roots⟩:=by
 simp[gy,dQ,fl,iC,h,hb]
theorem F1{d:RD}(hb:d.bad=false)(h:¬aq s d.n=10):gy s d=⟨d.n,true,d.tab,d.lines,d.ats,d.roots⟩:=by
 simp[gy,dQ,fl,iC,h,hb]
theorem qK(s:ByteArray):∀(k:Nat) (d:RD) (lines:List (ByteArray×PT)) (bad deep:Option Nat),k+lines.length=10->0<k->d.bad=false->d.n<=s.size->Inv d lines bad deep ->
  (bO s k lines d.n bad deep).n=(fL s k d).n/\(((bO s k lines d.n bad deep).ok=true/\(fL s k d).bad=false/\Inv (fL s k d) (bO s k lines d.n bad deep).lines (bO s k lines d.n bad deep).bad (bO s k lines d.n bad deep).deep/\0<(bO s k lines d.n bad deep).lines.length)\/((bO s k lines d.n bad deep).ok=false/\(fL s k d).bad=true)):=by
 intro k
 induction k with
 | zero=>intro d lines bad deep _ h;omega
 | succ k ih =>
  intro d lines bad deep G _ H B w;have q:=qj (AM s lines (s.size+1) (s.size+2)) d.n bad d.tab d.tab.length (lines.map (·.1)) 61 (by omega) (Nat.le_refl _) (fW.nil _) B (by omega) (by omega);rw[show aM (aJ s lines (s.size+1)) s (lines.map (·.1)) 61 d.n bad=cd s lines d.n bad from rfl] at q;rw[show bW s (s.size+2) (cU s 61 ⟨bg s d.n false,bG s d.n false,d.tab⟩)=jd s d from rfl] at q
  rw[show bO s (k+1) lines d.n bad deep =
    if(cd s lines d.n bad).ok=false then⟨false,(cd s lines d.n bad).n,lines,(cd s lines d.n bad).bad,deep⟩ else
    if(cd s lines d.n bad).n=s.size then⟨true,(cd s lines d.n bad).n,lines++[(ax s d.n,(cd s lines d.n bad).t)],(cd s lines d.n bad).bad,bV (cd s lines d.n bad) d.n deep⟩ else
    if lines.length+1=10\/aq s (cd s lines d.n bad).n≠10 then⟨false,(cd s lines d.n bad).n,lines,(cd s lines d.n bad).bad,deep⟩ else
    bO s k (lines++[(ax s d.n,(cd s lines d.n bad).t)]) ((cd s lines d.n bad).n+1) (cd s lines d.n bad).bad (bV (cd s lines d.n bad) d.n deep) from rfl]
  rw[show fL s (k+1) d =
   if(cm s d).bad=true\/(cm s d).n=s.size then cm s d else
   if(cm s d).lines.length=10 then vY (cm s d) else
   if(gy s (cm s d)).bad=true then gy s (cm s d) else fL s k (gy s (cm s d)) from rfl]
  have m:cm s d=⟨(jd s d).1.n,(jd s d).1.bad,(jd s d).1.tab,d.lines++[cM s d.n false],d.ats++[d.n],d.roots++[(jd s d).2]⟩:=rfl;generalize cd s lines d.n bad=p at *;generalize jd s d=r at *;obtain⟨⟨I,J,K⟩,x⟩:=r;simp only at q m;obtain⟨y,L,h|h⟩:=q
  ·obtain⟨dq,dG,o,z⟩:=h;subst dG;obtain⟨C,j⟩:=z.1;simp only at j;subst j;have a:=DP w w.root z;rw[<-o] at a;rw[<-m] at a;rw[o] at a;have f:(cm s d).n=p.n:=by rw[m];exact y.symm
   have i:(cm s d).bad=false:=by rw[m]
   have v:(cm s d).lines.length=lines.length+1:=by rw[a.nms];simp
   generalize cm s d=d' at *;rw[if_neg (by rw[dq];simp)]
   by_cases b:p.n=s.size
   ·rw[if_pos b,if_pos (.inr (f.trans b))];exact⟨f.symm,.inl ⟨rfl,i,a,by simp⟩⟩
   ·have u:¬(d'.bad=true\/d'.n=s.size):=by rw[i,f];simp[b]
    rw[if_neg b,if_neg u]
    by_cases g:lines.length+1=10
    ·have l:lines.length+1=10\/aq s p.n≠10:=.inl g;rw[if_pos l,if_pos (v.trans g)];exact⟨f.symm,.inr ⟨rfl,rfl⟩⟩
    ·rw[v,if_neg g]
     by_cases c:aq s p.n=10
     ·have l:¬(lines.length+1=10\/aq s p.n≠10):=by simp[g,c]
      have A:¬(false=true):=by simp
      rw[if_neg l,Ej i (by rw[f];exact c),if_neg A]
      have:=ih ⟨d'.n+1,false,d'.tab,d'.lines,d'.ats,d'.roots⟩ (lines++[(ax s d.n,p.t)]) p.bad (bV p d.n deep) (by simp;omega) (by omega) rfl (by show d'.n+1<=_;omega) ⟨a.nms,a.la,a.lr,a.seg,a.bad,a.deep,a.wf,a.em⟩
      simp only[f] at this ⊢;exact this
     ·have l:lines.length+1=10\/aq s p.n≠10:=.inr c;rw[if_pos l,F1 i (by rw[f];exact c),if_pos rfl];exact⟨f.symm,.inr ⟨rfl,rfl⟩⟩
  ·obtain⟨dG,h⟩:=h;subst dG;have i:(cm s d).bad=true:=by rw[m]
   have f:(cm s d).n=p.n:=by rw[m];exact y.symm
   have u:(cm s d).bad=true\/(cm s d).n=s.size:=.inl i;rw[if_pos u]
   have dH:p.ok=false\/(¬p.n=s.size/\aq s p.n≠10):=by
    rcases h with h|h
    ·exact .inl h
    ·exact .inr ⟨fun e=>by rw[e] at h;exact zh s h,j9 h (.inl (by omega))⟩
   by_cases dq:p.ok=false
   ·rw[if_pos dq];exact⟨f.symm,.inr ⟨rfl,i⟩⟩
   ·rcases dH with D|⟨E,F⟩
    ·exact absurd D dq
    ·have l:lines.length+1=10\/aq s p.n≠10:=.inr F;rw[if_neg dq,if_neg E,if_pos l];exact⟨f.symm,.inr ⟨rfl,i⟩⟩
theorem Inv.nil(n:Nat)(b:Bool):Inv ⟨n,b,[],[],[],[]⟩ [] none none:=by
 refine⟨rfl,rfl,rfl,fun i hi=>by simp at hi,rfl,rfl,fun x t h=>by simp at h,fun x _=>rfl⟩
def I7(tb:List RT)(x:Nat):Nat:=jJ (ch tb x) (rowAt tb x)
theorem kK(tb:List RT)(y:Nat):∀ k,y<k->aj (ch tb k) y=I7 tb y:=by
 intro k
 induction k with
 | zero=>intro h;omega
 | succ k ih =>
  intro h;simp only[ch,aj]
  by_cases e:y<k
  ·rw[List.getElem?_append_left (by rw[eJ];exact e)];exact ih e
  ·have:y=k:=by omega
   subst this;rw[List.getElem?_append_right (by rw[eJ];exact Nat.le_refl _),eJ,Nat.sub_self];rfl
structure Ext(tb oQ:List RT):Prop where
 len:oQ.length=tb.length
 row:∀ y,(rowAt oQ y).kind=(rowAt tb y).kind/\(rowAt oQ y).names=(rowAt tb y).names/\(rowAt oQ y).ats=(rowAt tb y).ats/\(((rowAt tb y).kind=11/\(rowAt tb y).of=[])\/(rowAt oQ y).of=(rowAt tb y).of)
theorem Ext.refl(tb:List RT):Ext tb tb:=⟨rfl,fun _=>⟨rfl,rfl,rfl,.inr rfl⟩⟩
theorem Ext.trans{c:List RT}(h:Ext a b)(k:Ext b c):Ext a c:=by
 refine⟨k.len.trans h.len,fun y=>?_⟩;obtain⟨f,g,i,d⟩:=h.row y;obtain⟨j,l,m,e⟩:=k.row y;refine⟨j.trans f,l.trans g,m.trans i,?_⟩;rcases d with d|d
 ·exact .inl d
 ·rcases e with⟨e,n⟩|e
  ·exact .inl ⟨f.symm.trans e,d.symm.trans n⟩
  ·exact .inr (e.trans d)
theorem RT.eq{a b:RT}(h1:a.kind=b.kind)(h2:a.of=b.of)(h3:a.names=b.names)(h4:a.ats=b.ats):a=b:=by
 cases a;cases b;simp at *;exact⟨h1,h2,h3,h4⟩
theorem Ext.same(h:Ext a b)(hk:(rowAt a x).kind≠11):rowAt b x=rowAt a x:=by
 obtain⟨d,e,f,c⟩:=h.row x;rcases c with⟨c,_⟩|c
 ·exact absurd c hk
 ·exact RT.eq d c e f
theorem Ext.told(h:Ext a b)(hk:(rowAt a x).of≠[]):rowAt b x=rowAt a x:=by
 obtain⟨d,e,f,c⟩:=h.row x;rcases c with⟨_,c⟩|c
 ·exact absurd c hk
 ·exact RT.eq d c e f
theorem A7(hx:x<tb.length)(t:RT)(y:Nat):rowAt (tb.set x t) y=if y=x then t else rowAt tb y:=by
 unfold rowAt;rw[List.getElem?_set]
 by_cases e:x=y
 ·subst e;simp[hx]
 ·rw[if_neg e,if_neg (fun h=>e h.symm)]
theorem qw(nm:ByteArray):∀(lines:List (ByteArray×PT)) (roots:List Nat) (i:Nat),roots.length=lines.length->i<=lines.length ->
  (fN (lines.map (·.1)) roots nm i=none/\gJ nm (lines.take i)=none/\((lines.take i).map (·.1)).any (fun z=>decide (z=nm))=false)\/(∃ j q,j<i/\fN (lines.map (·.1)) roots nm i=some (aj roots j)/\lines[j]?=some q/\gJ nm (lines.take i)=some q.2/\((lines.take i).map (·.1)).any (fun z=>decide (z=nm))=true):=by
 intro lines
 induction lines with
 | nil=>intro roots i b a;left;simp at a;subst a;exact⟨rfl,rfl,rfl⟩
 | cons p lines ih =>
  intro roots i b a;cases roots with
  | nil=>simp at b
  | cons r roots =>
   cases i with
   | zero=>left;exact⟨rfl,rfl,rfl⟩
   | succ i =>
    have c:fN ((p::lines).map (·.1)) (r::roots) nm (i+1)=if p.1=nm then some r else fN (lines.map (·.1)) roots nm i:=rfl
    have f:gJ nm ((p::lines).take (i+1))=if p.1=nm then some p.2 else gJ nm (lines.take i):=rfl
    have g:(((p::lines).take (i+1)).map (·.1)).any (fun z=>decide (z=nm))=(decide (p.1=nm)||((lines.take i).map (·.1)).any (fun z=>decide (z=nm))):=rfl
    by_cases e:p.1=nm
    ·right;refine⟨0,p,by omega,by rw[c,if_pos e];rfl,rfl,by rw[f,if_pos e],by rw[g];simp[e]⟩
    ·rw[c,f,g,if_neg e,if_neg e];have d:decide (p.1=nm)=false:=by simp[e]
     rw[d,Bool.false_or];rcases ih roots i (by simpa using b) (by simpa using a) with h|⟨j,q,o,k,l,m,n⟩
     ·exact .inl h
     ·exact .inr ⟨j+1,q,by omega,by rw[k];rfl,l,m,n⟩
inductive Is(tb:List RT):Nat->PT->Prop
 | name {x y:Nat} {t:PT}:x<tb.length->(rowAt tb x).kind=11->(rowAt tb x).of=[y]->y<x->Is tb y t->Is tb x t
 | row {x:Nat} {t:PT}:x<tb.length->(rowAt tb x).kind≠11->(rowAt tb x).kind=t.kind->kL (rowAt tb x)=t.names->(rowAt tb x).of.length=t.subs.length->(9<=(rowAt tb x).kind->(rowAt tb x).names.length=(rowAt tb x).of.length) ->
   (∀ i,i<t.subs.length->Is tb (aj (rowAt tb x).of i) ((t.subs[i]?).getD PT.dummy))->Is tb x t
def Dn(v:PT)(tb:List RT)(x:Nat):Prop:=∀ oQ,Ext tb oQ->I7 oQ x=v.depth/\Is oQ x v
theorem Dn.ae{v:PT}{oQ:List RT}(h:Dn v tb x)(e:Ext tb oQ):Dn v oQ x:=fun t k=>h t (e.trans k)
structure WR(bX:List RT)(lines:List (ByteArray×PT))(roots:List Nat)(i lo j3:Nat)(tb:List RT):Prop where
 ext:Ext bX tb
 seg:∀ y,lo<=y->y<=j3->(rowAt tb y).kind=11->(rowAt tb y).of=[]\/∃ to,fN (lines.map (·.1)) roots (bF (rowAt tb y).names 0) i=some to/\(rowAt tb y).of=[to]
 old:∀ j q,j<i->lines[j]?=some q->Dn q.2 tb (aj roots j)
 w2:W2 tb
theorem DM{ds:List Nat}(h:∀ y∈l,aj ds y=(i7 vs y).1.depth):∀ c,maxOf ds l c=l.foldl (fun c y=>max c (i7 vs y).1.depth) c:=by
 unfold maxOf
 induction l with
 | nil=>intro c;rfl
 | cons y l ih =>
  intro c;simp only[List.foldl_cons];rw[h y (by simp),ih (fun z hz=>h z (by simp[hz]))]
theorem DL{y:Nat}(h:y∈l):∃ j,j<l.length/\aj l j=y:=by
 obtain⟨j,a,e⟩:=List.getElem_of_mem h;exact⟨j,a,by unfold aj;simp[a,e]⟩
theorem at_mem{j:Nat}(h:j<l.length):aj l j∈l:=by unfold aj;simp[h]
theorem vl{bX:List RT}{j3:Nat}(Cq:∀ x,lo<=x->x<=j3->(rowAt bX x).kind≠11->∀ y∈(rowAt bX x).of,lo<=y/\y<x)(il:∀ x,lo<=x->x<=j3->(rowAt bX x).kind≠11->9<=(rowAt bX x).kind->(rowAt bX x).names.length=(rowAt bX x).of.length)(HJ:j3<bX.length)(IV:∀ j,j<i->aj roots j<lo)(hi:i<=lines.length)(BS:roots.length=lines.length):
  ∀(f:Nat) (tb:List RT) (x:Nat),lo<=x->x<=j3->x<f->WR bX lines roots i lo j3 tb ->
   (aV (lines.map (·.1)) roots i f tb x).1=(mM (lines.take i) bX x).2/\WR bX lines roots i lo j3 (aV (lines.map (·.1)) roots i f tb x).2/\Ext tb (aV (lines.map (·.1)) roots i f tb x).2 /\
   (∀ y,(y<lo\/j3<y)->rowAt (aV (lines.map (·.1)) roots i f tb x).2 y=rowAt tb y)/\((aV (lines.map (·.1)) roots i f tb x).1=none->Dn (mM (lines.take i) bX x).1 (aV (lines.map (·.1)) roots i f tb x).2 x):=by
 intro f
 induction f with
 | zero=>intro tb x _ _ h;omega
 | succ f ih =>
  intro tb x nJ L hf s;have C:x<tb.length:=by rw[s.ext.len];omega
  obtain⟨S,M,iX,_⟩:=s.ext.row x
  by_cases g:(rowAt tb x).kind=11
  ·have b:(rowAt bX x).kind=11:=S.symm.trans g;simp only[aV,mM,jY];rw[if_pos g,if_pos b,<-M,<-iX];have Ha:=s.seg x nJ L g;rcases qw (bF (rowAt tb x).names 0) lines roots i BS hi with⟨E,N,_⟩|⟨j,q,A,E,N,Y,_⟩
   ·rw[E,N];exact⟨rfl,s,Ext.refl _,fun _ _=>rfl,fun h=>by simp at h⟩
   ·rw[E,Y];simp only;rw[E] at Ha;have F:aj roots j<x:=by have:=IV j A;omega
    have d:=A7 C ⟨11,[aj roots j],(rowAt tb x).names,(rowAt tb x).ats⟩
    have G:Ext tb (tb.set x ⟨11,[aj roots j],(rowAt tb x).names,(rowAt tb x).ats⟩):=by
     refine⟨by simp,fun y=>?_⟩;rw[d y]
     by_cases e:y=x
     ·subst e;rw[if_pos rfl];refine⟨g.symm,rfl,rfl,?_⟩;rcases Ha with h|⟨to,u,v⟩
      ·exact .inl ⟨g,h⟩
      ·simp at u;subst u;exact .inr v.symm
     ·rw[if_neg e];exact⟨rfl,rfl,rfl,.inr rfl⟩
    refine⟨trivial,⟨s.ext.trans G,fun y u v w=>?_,fun j q u v=>(s.old j q u v).ae G,fun y n z hz=>?_⟩,G,fun y n=>?_,fun _ oQ hE'=>?_⟩
    ·rw[d y] at w ⊢
     by_cases e:y=x
     ·subst e;rw[if_pos rfl] at w ⊢;exact .inr ⟨aj roots j,E,rfl⟩
     ·rw[if_neg e] at w ⊢;exact s.seg y u v w
    ·rw[d y] at hz
     by_cases e:y=x
     ·subst e;rw[if_pos rfl] at hz;simp at hz;omega
     ·rw[if_neg e] at hz;exact s.w2 y (by simpa using n) z hz
    ·rw[d y,if_neg (by omega)]
    ·have aE:rowAt oQ x=⟨11,[aj roots j],(rowAt tb x).names,(rowAt tb x).ats⟩:=by
      have R:rowAt (tb.set x ⟨11,[aj roots j],(rowAt tb x).names,(rowAt tb x).ats⟩) x=⟨11,[aj roots j],(rowAt tb x).names,(rowAt tb x).ats⟩:=by rw[d x,if_pos rfl]
      rw[hE'.told (by rw[R];simp),R]
     have hd:=s.old j q A N oQ (G.trans hE');refine⟨?_,.name (by rw[hE'.len,G.len];exact C) (by rw[aE]) (by rw[aE]) F hd.2⟩;show jJ (ch oQ x) (rowAt oQ x)=q.2.depth;rw[aE];show max 0 (aj (ch oQ x) (aj roots j))+0=_;rw[kK oQ _ x F,hd.1];omega
  ·have b:(rowAt bX x).kind≠11:=fun h=>g (S.trans h)
   have aE:rowAt tb x=rowAt bX x:=s.ext.same b;have p:=Cq x nJ L b;have B:=il x nJ L b;simp only[aV,mM,jY];rw[if_neg g,if_neg b,aE];simp only;have H:∃ t,t=rowAt bX x:=⟨_,rfl⟩;obtain⟨t,H⟩:=H;rw[<-H] at p b B ⊢
   have K:∀(m k:Nat) (c:List RT),k+m=t.of.length->WR bX lines roots i lo j3 c->Ext tb c->(∀ y,(y<lo\/j3<y)->rowAt c y=rowAt tb y)->(∀ j,j<k->Dn (mM (lines.take i) bX (aj t.of j)).1 c (aj t.of j)) ->
     (dC (aV (lines.map (·.1)) roots i f) t m k c).1=i6 (ei (lines.take i) bX x) t m k/\WR bX lines roots i lo j3 (dC (aV (lines.map (·.1)) roots i f) t m k c).2/\Ext tb (dC (aV (lines.map (·.1)) roots i f) t m k c).2 /\
     (∀ y,(y<lo\/j3<y)->rowAt (dC (aV (lines.map (·.1)) roots i f) t m k c).2 y=rowAt tb y)/\((dC (aV (lines.map (·.1)) roots i f) t m k c).1=none->∀ j,j<t.of.length->Dn (mM (lines.take i) bX (aj t.of j)).1 (dC (aV (lines.map (·.1)) roots i f) t m k c).2 (aj t.of j)):=by
    intro m
    induction m with
    | zero=>intro k c Z u v w O;exact⟨rfl,u,v,w,fun _ j A=>O j (by omega)⟩
    | succ m ihm =>
     intro k c Z u v w O;have n:=p _ (at_mem (l:=t.of) (j:=k) (by omega));obtain⟨T,P,J,Q,U⟩:=ih c (aj t.of k) n.1 (by omega) (by omega) u;simp only[dC,i6];rw[gN _ _ _ x n.2,<-T]
     by_cases hd:dup t.names k=true
     ·rw[if_pos hd,if_pos hd];exact⟨rfl,u,v,w,fun h=>by simp at h⟩
     ·rw[if_neg hd,if_neg hd];generalize X:aV (lines.map (·.1)) roots i f c (aj t.of k)=r at *;obtain⟨ro,rt⟩:=r;simp only at T P J Q U ⊢;cases ro with
      | some a=>exact⟨rfl,P,v.trans J,fun y n=>(Q y n).trans (w y n),fun h=>by simp at h⟩
      | none =>
       refine ihm (k+1) rt (by omega) P (v.trans J) (fun y n=>(Q y n).trans (w y n)) (fun j A=>?_)
       by_cases e:j<k
       ·exact(O j e).ae J
       ·have:j=k:=by omega
        subst this;exact U rfl
   obtain⟨k1,V,W,k4,I⟩:=K t.of.length 0 tb (by omega) s (Ext.refl _) (fun _ _=>rfl) (fun j A=>by omega);refine⟨k1,V,W,k4,fun hn oQ hE'=>?_⟩;have I:=I hn
   have o:rowAt oQ x=t:=by
    rw[H];exact(V.ext.trans hE').same (by rw[<-H];exact b)
   refine⟨?_,.row (by rw[hE'.len,W.len];exact C) (by rw[o];exact b) (by rw[o];rfl) (by rw[o];rfl) (by rw[o];exact(List.length_map _).symm) (by rw[o];exact B) fun j A=>?_⟩
   rotate_left
   ·have D:j<t.of.length:=by simpa[oO] using A
    have E:(oO (ei (lines.take i) bX x) t).subs[j]?.getD PT.dummy=(mM (lines.take i) bX (aj t.of j)).1:=by
     simp only[oO,List.getElem?_map];rw[show t.of[j]?=some (aj t.of j) by unfold aj;simp[D]];simp only[Option.map_some,Option.getD_some];rw[gN _ _ _ x (p _ (at_mem D)).2]
    rw[o,E];exact(I j D oQ hE').2
   show jJ (ch oQ x) (rowAt oQ x)=Cb (ei (lines.take i) bX x) t.of+1;rw[o];unfold jJ Cb;rw[if_neg b,DM (vs:=ei (lines.take i) bX x) (fun y n=>?_)];obtain⟨j,A,e⟩:=DL n;rw[kK oQ y x (p y n).2,gN _ _ _ x (p y n).2,<-e];exact(I j A oQ hE').1
def fA(c:Nat->Option Nat):Nat->Nat->Option Nat
 | 0,_=>none
 | m+1,i=>ql (c i) (fA c m (i+1))
theorem Br(a b c:Option Nat):ql (ql a b) c=ql a (ql b c):=by cases a<;>rfl
theorem uD(c:Nat->Option Nat):∀ m i,ff c (i+m)=ql (ff c i) (fA c m i):=by
 intro m
 induction m with
 | zero=>intro i;simp only[fA,Nat.add_zero];cases ff c i<;>rfl
 | succ m ih =>
  intro i;rw[show i+(m+1)=(i+1)+m by omega,ih (i+1)];simp only[fA,ff];exact Br _ _ _
theorem kN(c:Nat->Option Nat)(m:Nat):ff c m=fA c m 0:=by
 have:=uD c m 0
 rw[Nat.zero_add] at this;rw[this];rfl
theorem oW{d:RD}{bad:Option Nat}(hI:Inv d lines bad deep):∀(m i:Nat) (tb:List RT),i+m=lines.length->Ext d.tab tb->(∀ y,(∀ j,j<i->aj d.roots j<y)->rowAt tb y=rowAt d.tab y)->(∀ j q,j<i->lines[j]?=some q->Dn q.2 tb (aj d.roots j))->W2 tb ->
  (gH d d.tab.length m i tb).1=fA (Hm d.tab lines d.roots d.ats) m i/\(gH d d.tab.length m i tb).2.length=d.tab.length/\W2 (gH d d.tab.length m i tb).2 /\
  ((gH d d.tab.length m i tb).1=none->∀ j q,j<lines.length->lines[j]?=some q->Dn q.2 (gH d d.tab.length m i tb).2 (aj d.roots j)):=by
 intro m
 induction m with
 | zero=>intro i tb F c p f g;exact⟨rfl,c.len,g,fun _ j q hj hq=>f j q (by omega) hq⟩
 | succ m ih =>
  intro i tb F c p f g;have n:i<lines.length:=by omega
  obtain⟨k,G,v,w,z,q,H,I⟩:=hI.seg i n
  have b:∀ x,x<=aj d.roots i->rowAt (d.tab.take (aj d.roots i+1)) x=rowAt d.tab x:=fun x hx=>by
   unfold rowAt;rw[List.getElem?_take_of_lt (by omega)]
  have Cq:∀ x,k<=x->x<=aj d.roots i->(rowAt d.tab x).kind≠11->∀ y∈(rowAt d.tab x).of,k<=y/\y<x:=fun x g1 g2 g3=>by
   have:=(w x g1 (by rw[List.length_take];omega)).1
   rw[b x g2] at this;exact(this g3).1
  have il:∀ x,k<=x->x<=aj d.roots i->(rowAt d.tab x).kind≠11->9<=(rowAt d.tab x).kind->(rowAt d.tab x).names.length=(rowAt d.tab x).of.length:=fun x g1 g2 g3 g4=>by
   have:=(w x g1 (by rw[List.length_take];omega)).1
   rw[b x g2] at this;rcases(this g3).2 with h|h
   ·omega
   ·exact h.1
  have E:WR d.tab lines d.roots i k (aj d.roots i) tb:=by
   refine⟨c,fun y g1 g2 g3=>?_,f,g⟩;have e:=p y (fun j hj=>by have:=z j hj;omega);rw[e] at g3 ⊢;exact .inl (hI.em y g3)
  obtain⟨A,l,s,B,C⟩:=vl Cq il v z (by omega) hI.lr d.tab.length tb (aj d.roots i) G (Nat.le_refl _) v E;have o:=qw (bF (lines.map (·.1)) i) lines d.roots i hI.lr (by omega);simp only[gH,fA];rw[hI.nms];generalize aV (lines.map (·.1)) d.roots i d.tab.length tb (aj d.roots i)=r at *;obtain⟨J,K⟩:=r;simp only at A l s B C ⊢;unfold Hm;rw[<-A];rcases o with⟨t,_,u⟩|⟨j,D,_,t,_,_,u⟩
  ·rw[t,u];simp only[Option.isSome_none,Bool.false_eq_true,if_false];cases J with
   | some a=>exact⟨rfl,s.len.trans c.len,l.w2,fun h=>by simp at h⟩
   | none =>
    refine ih (i+1) K (by omega) l.ext (fun y hy=>?_) (fun j D hj hq=>?_) l.w2
    ·rw[B y (.inr (hy i (by omega)))];exact p y (fun j hj=>hy j (by omega))
    ·by_cases e:j<i
     ·exact(f j D e hq).ae s
     ·have:j=i:=by omega
      subst this;rw[H] at hq;simp at hq;subst hq;rw[I];exact C rfl
  ·rw[t,u];simp only[Option.isSome_some,if_true];exact⟨rfl,c.len,g,fun h=>by simp at h⟩
theorem zy{d:RD}{bad:Option Nat}(hI:Inv d lines bad deep)(hd:∀ j q,j<lines.length->lines[j]?=some q->Dn q.2 tb (aj d.roots j)):∀(m i:Nat),i+m=lines.length ->
  kU d (ch tb d.tab.length) m i=fA (GH d.tab lines d.roots d.ats) m i:=by
 intro m
 induction m with
 | zero=>intro i _;rfl
 | succ m ih =>
  intro i e;obtain⟨f,g,a,h,k,q,b,c⟩:=hI.seg i (by omega);simp only[kU,fA];rw[kK tb _ _ a,(hd i q (by omega) b tb (Ext.refl _)).1,c,ih (i+1) (by omega)];unfold GH
  split<;>rfl
theorem agree:EV:=by
 intro s z;have k:=qK s 10 ⟨0,false,[],[],[],[]⟩ [] none none rfl (by omega) rfl (Nat.zero_le _) (Inv.nil 0 false);simp only at k;rw[show fL s 10 ⟨0,false,[],[],[],[]⟩=eT s from rfl] at k;unfold aL ee;have c:¬400<s.size:=by omega
 rw[if_neg c,if_neg c];generalize bO s 10 [] 0 none none=P at *;generalize eT s=d at *;obtain⟨w,⟨m,i,b,A⟩|⟨m,i⟩⟩:=k
 ·have l:W2 d.tab:=fun x hx y hy=>by
   by_cases f:(rowAt d.tab x).kind=11
   ·rw[b.em x f] at hy;simp at hy
   ·exact((b.wf x (rowAt d.tab x) (by unfold rowAt;simp[hx])).1 f).1 y hy
  have p:d.lines.length=P.lines.length:=by rw[b.nms];simp
  obtain⟨n,r,o,g⟩:=oW b P.lines.length 0 d.tab (by omega) (Ext.refl _) (fun _ _=>rfl) (fun j q h=>by omega) l;rw[<-p] at n r o g;rw[show gH d d.tab.length d.lines.length 0 d.tab=bl d from rfl] at n r o g;refine⟨fun _=>⟨b.wf,fun y hy=>?_,by omega,fun _=>o⟩,?_⟩
  ·obtain⟨j,t,e⟩:=DL hy;rw[<-e];exact b.root j (by rw[<-b.lr];exact t)
  ·unfold oF;have u:¬P.ok=false:=by rw[m];simp
   have v:¬d.bad=true:=by rw[i];simp
   rw[if_neg u,if_neg v];rw[b.bad,b.deep,kN,kN,<-p,<-n];cases hr:(bl d).1 with
   | some a=>rfl
   | none =>
    simp only;have g:=g hr;rw[zy b (fun j q t=>g j q (by omega)) d.lines.length 0 (by omega)];cases fA (GH d.tab P.lines d.roots d.ats) d.lines.length 0<;>rfl
 ·refine⟨fun h=>by rw[i] at h;simp at h,?_⟩;unfold oF;rw[if_pos m,if_pos i,w]
theorem zJ(hs:s.size<=400)(hc:aL s=(0,0)):(eT s).bad=false/\0<(eT s).roots.length/\(bl (eT s)).1=none/\Is (bl (eT s)).2 (aj (eT s).roots ((eT s).roots.length-1)) (iJ s):=by
 have f:=qK s 10 ⟨0,false,[],[],[],[]⟩ [] none none rfl (by omega) rfl (Nat.zero_le _) (Inv.nil 0 false);simp only at f;rw[show fL s 10 ⟨0,false,[],[],[],[]⟩=eT s from rfl] at f;have l:iJ s=(((bO s 10 [] 0 none none).lines.getLast?).map (·.2)).getD PT.dummy:=rfl;rw[l];unfold aL at hc;rw[if_neg (show ¬400<s.size by omega)] at hc;generalize bO s 10 [] 0 none none=P at *;generalize eT s=d at *;obtain⟨u,⟨i,n,b,t⟩|⟨i,n⟩⟩:=f
 ·have g:W2 d.tab:=fun x hx y hy=>by
   by_cases c:(rowAt d.tab x).kind=11
   ·rw[b.em x c] at hy;simp at hy
   ·exact((b.wf x (rowAt d.tab x) (by unfold rowAt;simp[hx])).1 c).1 y hy
  have m:d.lines.length=P.lines.length:=by rw[b.nms];simp
  obtain⟨k,o,p,e⟩:=oW b P.lines.length 0 d.tab (by omega) (Ext.refl _) (fun _ _=>rfl) (fun j q h=>by omega) g;rw[<-m] at k o p e;rw[show gH d d.tab.length d.lines.length 0 d.tab=bl d from rfl] at k o p e;rw[if_neg (show ¬P.ok=false by rw[i];simp),b.bad,kN,<-m,<-k] at hc;cases hr:(bl d).1 with
  | some a=>rw[hr] at hc;simp at hc
  | none =>
   have e:=e hr;obtain⟨q,r⟩:∃ q,P.lines[P.lines.length-1]?=some q:=⟨P.lines[P.lines.length-1]'(by omega),by simp⟩;refine⟨n,by rw[b.lr];exact t,rfl,?_⟩;rw[b.lr,List.getLast?_eq_getElem?,r];exact(e (P.lines.length-1) q (by omega) r _ (Ext.refl _)).2
 ·rw[if_pos i] at hc;simp at hc
end Go.Proofs.YtpffifpbpmlhdaaGreatDoor
