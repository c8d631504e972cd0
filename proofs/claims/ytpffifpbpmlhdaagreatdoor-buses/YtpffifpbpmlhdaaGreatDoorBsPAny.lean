import Derived.Shelf.Strconv.Itoa3
import Derived.Shelf.Strings.Search1
import Derived.Shelf.Strings.Search2
import Derived.Shelf.Strings.Search3
import Derived.RangeFuncNested
import Derived.RangeFuncBound
import Derived.RangeFuncCalls
import Derived.RangeFuncLeaves
import Derived.Shelf.Abstract
import Derived.Shelf.RegionOpen
import Derived.OwnWalkIn
import Derived.TacticsInMore
import Derived.LoopNIn
import Derived.LoopIn
import Derived.Test.YtpffifpbpmlhdaaGreatDoorBsVTxt
import Derived.Test.YtpffifpbpmlhdaaGreatDoorBsVFromM
set_option maxHeartbeats 32000000
set_option maxRecDepth 100000
namespace Go.Proofs.YtpffifpbpmlhdaaGreatDoor
open Go.RowKit
variable {w W:World}{v u:PV}{l sp sv ss D:Nat}{r:Loop}
theorem jb{fn:Func}{p q r:Tmp}{t1 t2 t3:TypeId}(h:fn.results=#[.cell p t1,.cell q t2,.cell r t3])(tmps:Array Value)(P:Program)(w:World):
  (results fn tmps).run P w =
   ((asAddr (tmps.getD p undef)).run P w).andThen fun a w₁=>((loadVar t1 a).run P w₁).andThen fun v w₂=>((asAddr (tmps.getD q undef)).run P w₂).andThen fun b w₃=>((loadVar t2 b).run P w₃).andThen fun u w₄ =>
    ((asAddr (tmps.getD r undef)).run P w₄).andThen fun c w₅=>((loadVar t3 c).run P w₅).andThen fun x w₆=>.ok (.tuple #[v,u,x]) w₆:=by
 simp only[results,h];simp[Sem.run_bind,Result.andThen]
theorem yK(w:World)(ca:Addr)(cn:Int)(cb:Bs)(o:Option Addr)(n j:Nat):
  Calls Tryz.prog 72 #[.agg #[.pointer (some ca),.int .i64 cn,.string (ba cb),.slice o n j],.string ⟨#[]⟩] w fun e w'=>Fr Zero w w'/\e=.returned (.tuple #[.agg #[.pointer (some ca),.int .i64 cn,.string (ba cb),.slice o n j],.int .i64 0,.bool true]):=by
 go_enter Tryz.func72,Tryz.ntmps72;go_wp2;refine bodyPost_ret (v:=.tuple #[.agg #[.pointer (some ca),.int .i64 cn,.string (ba cb),.slice o n j],.int .i64 0,.bool true]) ?_ rfl ⟨?_,rfl⟩
 ·rw[jb rfl]
  go_simp
 ·exact(((Fr.alloc _ _ _).trans (Fr.alloc _ _ _)).trans (Fr.alloc _ _ _)).trans (Fr.alloc _ _ _)
def B7(data:ByteArray)(r:Option PV×Bs):ByteArray×Nat×Nat :=
 match r with
 |(some v,[])=>(ba (aw 12 v),0,0)
 |(_,r')=>(⟨#[]⟩,6,pos data r')
theorem Am{data:ByteArray}{r:Option PV×Bs}(h:¬∃ v,r=(some v,[])):B7 data r=(⟨#[]⟩,6,pos data r.2):=by
 unfold B7;rcases r with⟨_|v,_|⟨b,l⟩⟩
 ·rfl
 ·rfl
 ·exact absurd ⟨v,rfl⟩ h
 ·rfl
def uJ(t:PT)(data:ByteArray):ByteArray×Nat×Nat:=if data.size<=1000 then B7 data (aS 12 t data.data.toList) else(⟨#[]⟩,1,0)
theorem zt(w:World)(a:Addr)(t:PT)(data:ByteArray)(Ac:ey w)(ht:TR w Zero a t)(hW:c8 12 t)(hd:data.size<=maxLen):
  Calls Tryz.prog 51 #[.pointer (some a),.string data,.string ⟨#[]⟩] w fun e w'=>jM w (uJ t data) e w':=by
 go_enter Tryz.func51,Tryz.ntmps51
 by_cases dJ:data.size<=1000
 ·have b:Hi (uJ t data=B7 data (aS 12 t data.data.toList)):=ab (by unfold uJ;rw[if_pos dJ]);have f:=ab dJ;go_wp2_with fail;refine(jH _ a t data ht hW f).mono ?_;rcases hq:aS 12 t data.data.toList with⟨q,r⟩;rw[hq] at b;rintro e L ⟨ao,M⟩;have g:=ab ao;rcases M with⟨v,⟨D,E,F,N⟩,G,⟨o,n,k,m⟩,rfl,p⟩|⟨dH,rfl⟩
  ·simp only at m;subst m;simp only[Prod.mk.injEq] at G;obtain⟨rfl,rfl⟩:=G;obtain⟨c,s⟩:=jc 12 t _ _ _ hW hq;have aX:=(ng 12 t v hW c).2
   have y:(aG 12 v).length=data.size:=by
    have:=congrArg List.length s
    rw[Array.length_toList,List.length_append] at this;simp at this;exact this.symm
   have z:Hi ((aw 12 v).length+1000<=140737488355328):=by
    have:=f.o
    show _<=_;omega
   have J:Hi (uJ t data=(ba (aw 12 v),0,0)):=b;simp only[VC.val];go_wp2_with fail;refine(yK _ D E F o n k).mono ?_;rintro e O ⟨i,rfl⟩;have l:=ab (g.o.trans ((Fr.alloc _ _ _).trans i));have A:=ab ((p.ae (Fr.alloc _ _ _)).ae i);go_wp2_with fail;refine(vC (k:=12) (t:=t) _ ⟨D,E,F,.slice o n k⟩ v (Ac.ae (l.o.trans (Fr.alloc _ _ _)) (fun h=>h)) (A.o.ae (Fr.alloc _ _ _)) hW c z ⟨_,_,_,rfl⟩).mono ?_;rintro e P ⟨u,rfl⟩;have B:=ab (l.o.trans ((Fr.alloc _ _ _).trans u));go_wp2;go_ret3;rw[J.o];exact⟨B,rfl⟩
  ·have K:=ab (Am (data:=data) dH);go_wp2;go_ret3;rw[b.o,K.o];exact⟨g.o.trans (Fr.alloc _ _ _),rfl⟩
 ·have b:Hi (uJ t data=(⟨#[]⟩,1,0)):=ab (by unfold uJ;rw[if_neg dJ]);have f:Hi (1000<data.size):=by show _<_;omega
  go_wp2_with fail;refine(kh _ a data hd f).mono ?_;rintro e L ⟨(g:Hi _),rfl⟩;go_wp2;go_ret3;rw[b.o];exact⟨g.o.trans (Fr.alloc _ _ _),rfl⟩
open Go.Shelf
def uw:Go.Shelf.Ren:=⟨fun|171=>179|243=>188|246=>198|283=>199|284=>200|285=>201|286=>202|129=>213|317=>212|318=>214|319=>215|320=>216|337=>218|338=>219|n=>n,fun|3=>3|9=>9|2=>2|4=>4|171=>296|0=>0|53=>233|37=>118|5=>5|173=>299|212=>309|51=>305|20=>20|213=>310|46=>165|232=>315|233=>316|n=>n,fun|17=>4|18=>6|19=>7|n=>n⟩
theorem DU:Go.Proofs.LaysM.n171 Tryz.prog uw:={
 mixed:=by kernel_rfl
 f129:=Tryz.func213.trans (congrArg some (by kernel_rfl))
 f171:=Tryz.func179.trans (congrArg some (by kernel_rfl))
 f243:=Tryz.func188.trans (congrArg some (by kernel_rfl))
 f246:=Tryz.func198.trans (congrArg some (by kernel_rfl))
 f283:=Tryz.func199.trans (congrArg some (by kernel_rfl))
 f284:=Tryz.func200.trans (congrArg some (by kernel_rfl))
 f285:=Tryz.func201.trans (congrArg some (by kernel_rfl))
 f286:=Tryz.func202.trans (congrArg some (by kernel_rfl))
 f317:=Tryz.func212.trans (congrArg some (by kernel_rfl))
 f318:=Tryz.func214.trans (congrArg some (by kernel_rfl))
 f319:=Tryz.func215.trans (congrArg some (by kernel_rfl))
 f320:=Tryz.func216.trans (congrArg some (by kernel_rfl))
 f337:=Tryz.func218.trans (congrArg some (by kernel_rfl))
 f338:=Tryz.func219.trans (congrArg some (by kernel_rfl))
 t0:=Tryz.underlying0
 a0:=Tryz.isAgg0
 z0:=Tryz.sizeOf0
 v0:=Tryz.zeroValue0
 t2:=Tryz.underlying2
 a2:=Tryz.isAgg2
 z2:=Tryz.sizeOf2
 v2:=Tryz.zeroValue2
 t3:=Tryz.underlying3
 a3:=Tryz.isAgg3
 z3:=Tryz.sizeOf3
 v3:=Tryz.zeroValue3
 t4:=Tryz.underlying4
 a4:=Tryz.isAgg4
 z4:=Tryz.sizeOf4
 v4:=Tryz.zeroValue4
 t5:=Tryz.underlying5
 a5:=Tryz.isAgg5
 z5:=Tryz.sizeOf5
 v5:=Tryz.zeroValue5
 t9:=Tryz.underlying9
 a9:=Tryz.isAgg9
 z9:=Tryz.sizeOf9
 v9:=Tryz.zeroValue9
 t20:=Tryz.underlying20
 a20:=Tryz.isAgg20
 z20:=Tryz.sizeOf20
 v20:=Tryz.zeroValue20
 t37:=Tryz.underlying118
 a37:=Tryz.isAgg118
 z37:=Tryz.sizeOf118
 v37:=Tryz.zeroValue118
 t46:=Tryz.underlying165
 a46:=Tryz.isAgg165
 z46:=Tryz.sizeOf165
 v46:=Tryz.zeroValue165
 t51:=Tryz.underlying305
 a51:=Tryz.isAgg305
 z51:=Tryz.sizeOf305
 v51:=Tryz.zeroValue305
 t53:=Tryz.underlying233
 a53:=Tryz.isAgg233
 z53:=Tryz.sizeOf233
 v53:=Tryz.zeroValue233
 t171:=Tryz.underlying296
 a171:=Tryz.isAgg296
 z171:=Tryz.sizeOf296
 v171:=Tryz.zeroValue296
 t173:=Tryz.underlying299
 a173:=Tryz.isAgg299
 z173:=Tryz.sizeOf299
 v173:=Tryz.zeroValue299
 t212:=Tryz.underlying309
 a212:=Tryz.isAgg309
 z212:=Tryz.sizeOf309
 v212:=Tryz.zeroValue309
 t213:=Tryz.underlying310
 a213:=Tryz.isAgg310
 z213:=Tryz.sizeOf310
 t232:=Tryz.underlying315
 a232:=Tryz.isAgg315
 z232:=Tryz.sizeOf315
 v232:=Tryz.zeroValue315
 t233:=Tryz.underlying316
 a233:=Tryz.isAgg316
 z233:=Tryz.sizeOf316
 v233:=Tryz.zeroValue316
 g17:=by kernel_rfl
 g18:=by kernel_rfl
 g19:=by kernel_rfl
 i0:=by kernel_rfl
 i2:=by kernel_rfl
 i3:=by kernel_rfl
 i4:=by kernel_rfl
 i5:=by kernel_rfl
 i9:=by kernel_rfl
 i20:=by kernel_rfl
 i37:=by kernel_rfl
 i46:=by kernel_rfl
 i51:=by kernel_rfl
 i53:=by kernel_rfl
 i171:=by kernel_rfl
 i173:=by kernel_rfl
 i212:=by kernel_rfl
 i232:=by kernel_rfl
 i233:=by kernel_rfl
 m17:=by kernel_rfl
 m18:=by kernel_rfl
 m19:=by kernel_rfl }
def xi:Go.Shelf.Ren:=⟨fun|143=>178|219=>187|217=>194|225=>195|224=>196|267=>197|266=>210|314=>211|n=>n,fun|9=>9|3=>3|4=>4|5=>5|46=>165|146=>306|51=>305|n=>n,fun|1=>3|n=>n⟩
theorem FQ:Go.Proofs.Lays.n143 Tryz.prog xi:={
 mixed:=by kernel_rfl
 f143:=Tryz.func178.trans (congrArg some (by kernel_rfl))
 f217:=Tryz.func194.trans (congrArg some (by kernel_rfl))
 f219:=Tryz.func187.trans (congrArg some (by kernel_rfl))
 f224:=Tryz.func196.trans (congrArg some (by kernel_rfl))
 f225:=Tryz.func195.trans (congrArg some (by kernel_rfl))
 f266:=Tryz.func210.trans (congrArg some (by kernel_rfl))
 f267:=Tryz.func197.trans (congrArg some (by kernel_rfl))
 f314:=Tryz.func211.trans (congrArg some (by kernel_rfl))
 t3:=Tryz.underlying3
 a3:=Tryz.isAgg3
 z3:=Tryz.sizeOf3
 v3:=Tryz.zeroValue3
 t4:=Tryz.underlying4
 a4:=Tryz.isAgg4
 z4:=Tryz.sizeOf4
 v4:=Tryz.zeroValue4
 t5:=Tryz.underlying5
 a5:=Tryz.isAgg5
 z5:=Tryz.sizeOf5
 v5:=Tryz.zeroValue5
 t9:=Tryz.underlying9
 a9:=Tryz.isAgg9
 z9:=Tryz.sizeOf9
 v9:=Tryz.zeroValue9
 t46:=Tryz.underlying165
 a46:=Tryz.isAgg165
 z46:=Tryz.sizeOf165
 v46:=Tryz.zeroValue165
 t51:=Tryz.underlying305
 a51:=Tryz.isAgg305
 z51:=Tryz.sizeOf305
 v51:=Tryz.zeroValue305
 t146:=Tryz.underlying306
 a146:=Tryz.isAgg306
 z146:=Tryz.sizeOf306
 v146:=Tryz.zeroValue306
 g1:=by kernel_rfl }
theorem Fr.grow(X:Nat->Prop)(w:World)(os:Array Obj):Fr X w (Go.Sort.grow w os) :=
 ⟨rfl,rfl,rfl,by show w.heap.size<=(w.heap++os).size;rw[Array.size_append];omega,fun i hi _=>by show(w.heap++os)[i]?=w.heap[i]?;rw[Array.getElem?_append_left hi]⟩
theorem ey.drawn(h:ey w){w':World}(hf:Fr Zero w w'):ey w':=h.ae hf (fun h=>h)
theorem Bi(w:World)(c:VC)(v:PV)(hV:VR w Zero c v)(hc:∃ o n j,c.sv=.slice o n j)(i:Nat)(hP:ey w)(hi:i<=1000000)(hk:v.of.kind=7\/v.of.kind=8\/(v.of.kind=9/\i<v.of.subs.length)\/(v.of.kind=10/\∃ j:Nat,v.num=j/\j<v.of.subs.length)):
  Calls Tryz.prog 147 #[c.val,.int .i64 i] w fun e w'=>Fr Zero w w'/\e=.returned (.string (ba (stepOf v.of v.num i))):=by
 obtain⟨k,hV⟩:=hV;rcases k with _|k
 ·exact hV.elim
 obtain⟨ca,cn,cb,aa⟩:=c;obtain⟨f,V,W,X,F,J,K,L⟩:=hV;simp only at f V W F hc;obtain⟨o,nn,jj,rfl⟩:=hc;subst V W;obtain⟨M,ac,a,rfl,d,s,b,t,g,u,x⟩:=f.open;have Y:=lt_of_heap d;have I:w.cell? ⟨M,0,none⟩=some (.int .i64 v.of.kind):=by rw[cell_of_heap d];rfl
 have Z:=ab hP;simp only[VC.val];rcases hk with Q|R|⟨S,T⟩|⟨G,j,N,U⟩
 ·have z:Hi (stepOf v.of v.num i=ed 20 i):=ab (by unfold stepOf;rw[if_pos Q]);rw[Q] at I;have hA:Hi (ey (w.alloc (.cells #[.pointer (some ⟨M,0,none⟩),.int .i64 v.num,.string (ba v.bytes),.slice o nn jj] 133))):=Z.o.drawn (Fr.alloc _ _ _)
  have C:Hi (ed 20 i=Lib.itoa (i:Int)):=by
   show _=_;rw[<-tz (i:Int) (by omega) (by omega)];unfold gq;rw[if_neg (by omega)];simp
  clear b t g u x F J K L d s f Q hP;go_enter Tryz.func147,Tryz.ntmps147;go_wp2_with fail;refine(Any.strconv_Itoa DU (i:Int) (by omega) (by omega) _ hA.o).mono ?_;rintro e w1 ⟨rfl,kk,os,H⟩
  have O:Hi (Fr Zero w w1):=by
   rw[H];exact((Fr.alloc _ _ _).trans (Fr.drewN _ _ _)).trans (Fr.grow _ _ _)
  clear H;go_wp2;go_ret;rw[z.o,C.o];exact⟨O,rfl⟩
 ·have z:Hi (stepOf v.of v.num i=[43]):=ab (by unfold stepOf;rw[if_neg (by omega),if_pos R]);rw[R] at I;clear b t g u x F J K L d s f R hP;go_enter Tryz.func147,Tryz.ntmps147;go_wp2;go_ret;rw[z.o];exact⟨Fr.alloc _ _ _,rfl⟩
 ·have z:Hi (stepOf v.of v.num i=v.of.name i):=ab (by unfold stepOf;rw[if_neg (by omega),if_neg (by omega),if_pos S]);rw[S] at I;have P:i<a.length:=by omega
  obtain⟨p,B⟩:∃ p,a[i]?=some p:=⟨a[i],by simp⟩;obtain⟨y,m,q⟩:=dz b (by omega);subst q;have jq:y<w.heap.size:=(b.lt y rfl).2;obtain⟨r,il⟩:∃ r,r=p.1.data.toList:=⟨_,rfl⟩;have h:p.1=ba r:=by rw[il,eC]
  have n0:w.cell? ⟨y,i*2,none⟩=some (.string (ba r)):=by rw[b.cellAt (i*2) (by omega),(a8 a i p B).1,h]
  have t1:w.cell? ⟨M,1,none⟩=some (.slice (some ⟨y,0,none⟩) a.length m):=by rw[cell_of_heap d];rfl
  have A:Hi (v.of.name i=r):=by
   show _=_;have D:=congrArg (fun l=>l[i]?) g;simp only[List.getElem?_map,B,Option.map_some] at D;unfold PT.name;rw[<-D,il];rfl
  have E:(i:Int)<(a.length:Int):=by omega
  clear b t g u x F J K L d s f S hP B il h T;go_enter Tryz.func147,Tryz.ntmps147;go_wp2;go_ret;rw[z.o,A.o];exact⟨Fr.alloc _ _ _,rfl⟩
 ·have z:Hi (stepOf v.of v.num i=v.of.name j):=ab (by unfold stepOf;rw[if_neg (by omega),if_neg (by omega),if_neg (by omega),N];simp);rw[G] at I;have P:j<a.length:=by omega
  obtain⟨p,B⟩:∃ p,a[j]?=some p:=⟨a[j],by simp⟩;obtain⟨y,m,q⟩:=dz b (by omega);subst q;have jq:y<w.heap.size:=(b.lt y rfl).2;obtain⟨r,il⟩:∃ r,r=p.1.data.toList:=⟨_,rfl⟩;have h:p.1=ba r:=by rw[il,eC]
  have n0:w.cell? ⟨y,j*2,none⟩=some (.string (ba r)):=by rw[b.cellAt (j*2) (by omega),(a8 a j p B).1,h]
  have t1:w.cell? ⟨M,1,none⟩=some (.slice (some ⟨y,0,none⟩) a.length m):=by rw[cell_of_heap d];rfl
  have A:Hi (v.of.name j=r):=by
   show _=_;have D:=congrArg (fun l=>l[j]?) g;simp only[List.getElem?_map,B,Option.map_some] at D;unfold PT.name;rw[<-D,il];rfl
  have E:(j:Int)<(a.length:Int):=by omega
  rw[N];rw[N] at z;clear b t g u x F J K L d s f G hP B il h U N;go_enter Tryz.func147,Tryz.ntmps147;go_wp2
  go_quiet (fail)
  go_wp2;go_ret;rw[z.o,A.o];exact⟨(Fr.alloc _ _ _).trans (Fr.drewN _ _ _),rfl⟩
def fg(v:PV)(st:Bs):Nat->List PV->Option PV
 | _,[]=>none
 | i,u::l=>if stepOf v.of v.num i=st then some u else fg v st (i+1) l
def c7(v:PV)(st:Bs):Option PV:=fg v st 0 v.parts
def zM(v:PV):Prop:=∀ i,i<v.parts.length->v.of.kind=7\/v.of.kind=8\/(v.of.kind=9/\i<v.of.subs.length)\/(v.of.kind=10/\∃ j:Nat,v.num=j/\j<v.of.subs.length)
def zeroV:Value:=.agg #[.pointer none,.int .i64 0,.string ⟨#[]⟩,.slice none 0 0]
def zO(w0 w:World)(v:PV)(st:Bs)(e:Ending)(w':World):Prop :=
 Fr Zero w w'/\((c7 v st=none/\e=.returned (.tuple #[zeroV,.bool false]))\/∃(u:PV) (c:VC),c7 v st=some u/\u∈v.parts/\e=.returned (.tuple #[c.val,.bool true])/\VR w0 Zero c u/\∃ o n j,c.sv=.slice o n j)
theorem pW{fn:Func}{p q:Tmp}{t1:TypeId}(h:fn.results=#[.cell p t1,.tmp q])(tmps:Array Value)(P:Program)(w:World):
  (results fn tmps).run P w=((asAddr (tmps.getD p undef)).run P w).andThen fun a w₁=>((loadVar t1 a).run P w₁).andThen fun v w₂=>.ok (.tuple #[v,tmps.getD q undef]) w₂:=by
 simp only[results,h];simp[Sem.run_bind,Result.andThen]
theorem zE(w0 w:World)(xr:Fr Zero w0 w)(c:VC)(v:PV)(hV:VR w0 Zero c v)(hP:ey w0)(hk:zM v)(hl:v.parts.length<=1000)(st:ByteArray):
  Calls Tryz.prog 100 #[c.val,.string st] w fun e w'=>zO w0 w v st.data.toList e w':=by
 have HV:=ab hV;have m:=ab xr;have HP:=ab hP;have HK:=ab hk;obtain⟨W,hn,hb,d,hO,hx,hL⟩:=hV.open;obtain⟨H,I,J,ay⟩:=c;simp only at W hn hb hO hx;have D:=ab hL.1;have av:d.length<=1000:=by rw[hL.1];exact hl
 obtain⟨M,f,ar⟩:=dF hO;subst ar;have HO:=ab hO;have HL:=ab hL;have P:Hi (Fr Zero w ((w.alloc (.cells #[.pointer (some H),.int .i64 I,.string (ba J),.slice M d.length f] 133)).alloc (.cells #[.pointer none,.int .i64 0,.string ⟨#[]⟩,.slice none 0 0] 133))):=(Fr.alloc _ _ _).trans (Fr.alloc _ _ _)
 have Q:Hi (((w.alloc (.cells #[.pointer (some H),.int .i64 I,.string (ba J),.slice M d.length f] 133)).alloc (.cells #[.pointer none,.int .i64 0,.string ⟨#[]⟩,.slice none 0 0] 133)).heap[w.heap.size]?=some (.cells #[.pointer (some H),.int .i64 I,.string (ba J),.slice M d.length f] 133 (0,0))):=by
  show _=_;rw[Below.heap_alloc _ _ _ (by simp)];exact af rfl _
 have R:Hi (((w.alloc (.cells #[.pointer (some H),.int .i64 I,.string (ba J),.slice M d.length f] 133)).alloc (.cells #[.pointer none,.int .i64 0,.string ⟨#[]⟩,.slice none 0 0] 133)).heap[w.heap.size+1]?=some (.cells #[.pointer none,.int .i64 0,.string ⟨#[]⟩,.slice none 0 0] 133 (0,0))):=af (by simp) _;clear hV hP hk W hn hb hO hx hL xr;simp only[VC.val];go_enter Tryz.func100,Tryz.ntmps100;go_wp2_with fail
 go_loopw [11] (fun iv wr=>∃ i:Nat,i<=d.length/\iv=.int .i64 i/\Hi (wr.heap[w.heap.size]?=some (.cells #[.pointer (some H),.int .i64 I,.string (ba J),.slice M d.length f] 133 (0,0)))/\Hi (wr.heap[w.heap.size+1]?=some (.cells #[.pointer none,.int .i64 0,.string ⟨#[]⟩,.slice none 0 0] 133 (0,0)))/\Hi (Fr Zero w wr)/\Hi (c7 v st.data.toList=fg v st.data.toList i (v.parts.drop i))) (fun iv _=>d.length-(intOf iv).toNat)
 case atStart=>exact⟨0,by omega,rfl,Q,R,P,by show _=_;unfold c7;rw[List.drop_zero]⟩
 case round =>
  clear Q R P;obtain⟨i,hi,rfl,N,K,O,HE⟩:=hrel;have b0:wr.cell? ⟨w.heap.size,0,none⟩=some (.pointer (some H)):=by rw[cell_of_heap N.o];rfl
  have b1:wr.cell? ⟨w.heap.size,1,none⟩=some (.int .i64 I):=by rw[cell_of_heap N.o];rfl
  have b2:wr.cell? ⟨w.heap.size,2,none⟩=some (.string (ba J)):=by rw[cell_of_heap N.o];rfl
  have b3:wr.cell? ⟨w.heap.size,3,none⟩=some (.slice M d.length f):=by rw[cell_of_heap N.o];rfl
  have kV:=lt_of_heap N.o
  by_cases aw:i<d.length
  ·have hI:(i:Int)<(d.length:Int):=by omega
   obtain⟨⟨s,t,j,az⟩,hr⟩:∃ r,d[i]?=some r:=⟨d[i],by simp⟩;obtain⟨u,hu⟩:∃ u,v.parts[i]?=some u:=⟨v.parts[i]'(by have:=D.o;omega),by simp⟩;have E:=HL.o.2 i _ u hr hu;obtain⟨y,z,A,E1⟩:=E.sliced;simp only at E1;subst E1;obtain⟨g,au,hv⟩:=dz HO.o (by omega);simp at hv;obtain⟨rfl,rfl⟩:=hv;obtain⟨c0,c1,c2,c3⟩:=vB HO.o rfl hr;have B:g<w0.heap.size:=(HO.o.lt g rfl).2;have X:wr.cell? ⟨g,i*4,none⟩=some (.pointer (some s)):=((m.o.trans O.o).cell (a:=⟨g,i*4,none⟩) B (fun h=>h)).trans c0;have Y:wr.cell? ⟨g,i*4+1,none⟩=some (.int .i64 t):=((m.o.trans O.o).cell (a:=⟨g,i*4+1,none⟩) B (fun h=>h)).trans c1;have Z:wr.cell? ⟨g,i*4+2,none⟩=some (.string (ba j)):=((m.o.trans O.o).cell (a:=⟨g,i*4+2,none⟩) B (fun h=>h)).trans c2;have d3:wr.cell? ⟨g,i*4+3,none⟩=some (.slice y z A):=((m.o.trans O.o).cell (a:=⟨g,i*4+3,none⟩) B (fun h=>h)).trans c3;have aa:=ab E
   have HU:Hi (v.parts.drop i=u::v.parts.drop (i+1)):=by
    obtain⟨h1,h2⟩:=List.getElem?_eq_some_iff.1 hu;show _=_;rw[List.drop_eq_getElem_cons h1,h2]
   have ac:Hi (u∈v.parts):=List.mem_of_getElem? hu;have ad:=ab (HK.o i (by have:=D.o;omega));have F:Hi (Fr Zero wr (wr.alloc (.cells #[.pointer (some s),.int .i64 t,.string (ba j),.slice y z A] 133))):=Fr.alloc _ _ _;have ag:=ab (F.o.ae N.o (fun h=>h));have ah:=ab (F.o.ae K.o (fun h=>h));have ai:Hi ((wr.alloc (.cells #[.pointer (some s),.int .i64 t,.string (ba j),.slice y z A] 133)).heap[wr.heap.size]?=some (.cells #[.pointer (some s),.int .i64 t,.string (ba j),.slice y z A] 133 (0,0))):=af rfl _;have G:=ab (O.o.trans F.o);clear hr hu E c0 c1 c2 c3;go_wp2_with fail;generalize wr.alloc (.cells #[.pointer (some s),.int .i64 t,.string (ba j),.slice y z A] 133)=w2 at *;refine(Bi w2 ⟨H,I,J,.slice (some ⟨g,0,none⟩) d.length f⟩ v (HV.o.ae (m.o.trans G.o)) ⟨_,_,_,rfl⟩ i (HP.o.drawn (m.o.trans G.o)) (by omega) ad.o).mono ?_;rintro e p ⟨q,rfl⟩;have T:=ab (G.o.trans q);have aj:=ab (q.ae ag.o (fun h=>h));have k:=ab (q.ae ah.o (fun h=>h));have C:=ab (q.ae ai.o (fun h=>h));clear q;generalize U:stepOf v.of v.num i=S at *;have V:=ab U;clear U
   by_cases L:S=st.data.toList
   ·have hs:((ba S).toList==st.toList)=true:=by rw[fJ];exact decide_eq_true (by rw[L,eC])
    have n:Hi (c7 v st.data.toList=some u):=by
     show _=_;rw[HE.o,HU.o];unfold fg;rw[V.o,if_pos L]
    have n0:p.cell? ⟨wr.heap.size,0,none⟩=some (.pointer (some s)):=by rw[cell_of_heap C.o];rfl
    have n1:p.cell? ⟨wr.heap.size,1,none⟩=some (.int .i64 t):=by rw[cell_of_heap C.o];rfl
    have ax:p.cell? ⟨wr.heap.size,2,none⟩=some (.string (ba j)):=by rw[cell_of_heap C.o];rfl
    have n3:p.cell? ⟨wr.heap.size,3,none⟩=some (.slice y z A):=by rw[cell_of_heap C.o];rfl
    have r0:p.cell? ⟨w.heap.size+1,0,none⟩=some (.pointer none):=by rw[cell_of_heap k.o];rfl
    have r1:p.cell? ⟨w.heap.size+1,1,none⟩=some (.int .i64 0):=by rw[cell_of_heap k.o];rfl
    have r2:p.cell? ⟨w.heap.size+1,2,none⟩=some (.string ⟨#[]⟩):=by rw[cell_of_heap k.o];rfl
    have r3:p.cell? ⟨w.heap.size+1,3,none⟩=some (.slice none 0 0):=by rw[cell_of_heap k.o];rfl
    have rf:∀ o,p.frozen? ⟨w.heap.size+1,o,none⟩=false:=fun o=>ak k.o
    have al:=rf 0;have am:=rf 1;have an:=rf 2;have ao:=rf 3;clear b0 b1 b2 b3 X Y Z d3 rf L;go_wp2_with fail;have ap:Hi (Fr Zero w ((((p.setCell ⟨w.heap.size+1,0,none⟩ (.pointer (some s))).setCell ⟨w.heap.size+1,1,none⟩ (.int .i64 t)).setCell ⟨w.heap.size+1,2,none⟩ (.string (ba j))).setCell ⟨w.heap.size+1,3,none⟩ (.slice y z A))):=T.o.past (Fr.four (fun b=>w.heap.size<=b) p (w.heap.size+1) _ _ _ _ (Nat.le_succ _));refine bodyPost_ret (v:=.tuple #[.agg #[.pointer (some s),.int .i64 t,.string (ba j),.slice y z A],.bool true]) ?_ rfl ⟨ap.o,.inr ⟨u,⟨s,t,j,.slice y z A⟩,n.o,ac.o,rfl,aa.o,_,_,_,rfl⟩⟩;rw[pW rfl];have e:=eL k.o (.pointer (some s)) (.int .i64 t) (.string (ba j)) (.slice y z A);have X:=cell_of_heap (o:=0) e;have Y:=cell_of_heap (o:=1) e;have Z:=cell_of_heap (o:=2) e;have d3:=cell_of_heap (o:=3) e
    go_simp
    try rfl
   ·have hs:((ba S).toList==st.toList)=false:=by rw[fJ];exact decide_eq_false (fun e=>L (by rw[<-e,dk]))
    have n:Hi (c7 v st.data.toList=fg v st.data.toList (i+1) (v.parts.drop (i+1))):=by
     show _=_;rw[HE.o,HU.o];unfold fg;rw[V.o,if_neg L];rcases hz:v.parts.drop (i+1) with _|⟨x,l⟩<;>rfl
    clear b0 b1 b2 b3 X Y Z d3 L;go_wp2_with fail;exact⟨⟨i+1,by omega,by go_num,aj,k,T,n⟩,by simp[intOf];omega⟩
  ·have aq:i=d.length:=by omega
   subst aq;have hI:¬(d.length:Int)<(d.length:Int):=by omega
   have n:Hi (c7 v st.data.toList=none):=by
    show _=_;rw[HE.o,List.drop_of_length_le (by have:=D.o;omega)];rfl
   have r0:wr.cell? ⟨w.heap.size+1,0,none⟩=some (.pointer none):=by rw[cell_of_heap K.o];rfl
   have r1:wr.cell? ⟨w.heap.size+1,1,none⟩=some (.int .i64 0):=by rw[cell_of_heap K.o];rfl
   have r2:wr.cell? ⟨w.heap.size+1,2,none⟩=some (.string ⟨#[]⟩):=by rw[cell_of_heap K.o];rfl
   have r3:wr.cell? ⟨w.heap.size+1,3,none⟩=some (.slice none 0 0):=by rw[cell_of_heap K.o];rfl
   have rf:∀ o,wr.frozen? ⟨w.heap.size+1,o,none⟩=false:=fun o=>ak K.o
   have al:=rf 0;have am:=rf 1;have an:=rf 2;have ao:=rf 3;clear b0 b1 b2 b3 rf;go_wp2_with fail;refine bodyPost_ret (v:=.tuple #[zeroV,.bool false]) ?_ rfl ⟨?_,.inl ⟨n.o,rfl⟩⟩
   ·rw[pW rfl];have e:=eL K.o (.pointer none) (.int .i64 0) (.string ⟨#[]⟩) (.slice none 0 0);have X:=cell_of_heap (o:=0) e;have Y:=cell_of_heap (o:=1) e;have Z:=cell_of_heap (o:=2) e;have d3:=cell_of_heap (o:=3) e;unfold zeroV
    go_simp
    try rfl
   ·exact O.o.past (Fr.four (fun b=>w.heap.size<=b) wr (w.heap.size+1) _ _ _ _ (Nat.le_succ _))
theorem Valid.EW{k:Nat}{t:PT}(hW:c8 k t)(hV:Valid k t v):zM v/\v.parts.length<=300/\∀ u∈v.parts,∃ t',c8 (k-1) t'/\Valid (k-1) t' u:=by
 rcases k with _|k
 ·exact hV.elim
 obtain⟨d,h⟩:=hV;have p:=hW.1;unfold zM;rw[d]
 split at h
 ·exact⟨fun i a=>by rw[h.2.1] at a;simp at a,by rw[h.2.1];simp,fun u hu=>by rw[h.2.1] at hu;simp at hu⟩
 split at h
 ·exact⟨fun i a=>by rw[h.2.1] at a;simp at a,by rw[h.2.1];simp,fun u hu=>by rw[h.2.1] at hu;simp at hu⟩
 split at h
 ·exact⟨fun i a=>by rw[h.2.1] at a;simp at a,by rw[h.2.1];simp,fun u hu=>by rw[h.2.1] at hu;simp at hu⟩
 split at h
 ·exact⟨fun i a=>by rw[h.2.1] at a;simp at a,by rw[h.2.1];simp,fun u hu=>by rw[h.2.1] at hu;simp at hu⟩
 split at h
 ·exact⟨fun i a=>by rw[h.2.1] at a;simp at a,by rw[h.2.1];simp,fun u hu=>by rw[h.2.1] at hu;simp at hu⟩
 split at h
 ·rename_i e;have g:=hW.2.2.2.2.1 (.inl e);exact⟨fun i a=>.inl e,h.2.2.1,fun u hu=>⟨_,hW.sub (by omega),h.2.2.2 u hu⟩⟩
 split at h
 ·rename_i f;have g:=hW.2.2.2.2.1 (.inr f);exact⟨fun i a=>.inr (.inl f),by omega,fun u hu=>⟨_,hW.sub (by omega),h.2.2.2 u hu⟩⟩
 split at h
 ·rename_i m;have q:=hW.2.2.2.2.2.1.1;refine⟨fun i a=>.inr (.inr (.inl ⟨m,by omega⟩)),by omega,fun u hu=>?_⟩;obtain⟨i,a⟩:=List.mem_iff_getElem?.1 hu;have l:=(List.getElem?_eq_some_iff.1 a).1;exact⟨_,hW.sub (by omega),h.2.2.2 i u a⟩
 ·obtain⟨_,j,x,n,b,c,o⟩:=h;refine⟨fun i _=>.inr (.inr (.inr ⟨by omega,j,n,b⟩)),by rw[c];simp,fun u hu=>?_⟩;rw[c] at hu;simp at hu;subst hu;exact⟨_,hW.sub b,o⟩
open Go.RowKit Go.Shelf
attribute [local go_sem] Oper.semAt_some
theorem zg{F:Fence}{n:Nat}{P:Program}{args:Array Value}{R:Ending->World->Prop}(hl:W.heap[l]?=some (.loop r))(hs:args.size=r.params.size)(Ii:F.fn r.fn)
  (h:r.assign.wpIn (F.inRound l) n P (Exit.then (fun a₁ w₁=>∃ w₂,(Instr.beginRound l).run P w₁=.ok () w₂/\r.body.wpIn (F.inRound l) n P (roundPost P l R) a₁ w₂) (fun _ _ _=>False)) { tmps:=(r.params.zip args).foldl (fun t (p,v)=>t.setIfInBounds p v) r.tmps,defers:=[] } W) :
  YieldAt F n P l args W R:=⟨r.fn,_,r.assign,r.body,run_yield hl hs,roundIn_of_wpIn Ii h⟩
theorem FM{F:Fence}{n:Nat}{P:Program}{g:Operand}{ps:Array Tmp}{assign body:Code}{Q:Exit->Act->World->Prop}{a:Act}
  (Cq:F.round=none) (h1:1<=n) {gf:Nat} {lb:Array Value} (hg:a.eval g=.func (.func gf) #[] lb) (hFg:F.fn gf) (eg:∀ args w,(callFunc gf args).run P w=.ok (.enter gf args) w)
  (h:∀ r:Loop,r.state=.ready->r.pending=none->r.tmps=a.tmps->r.params=ps->r.assign=assign->r.body=body->F.fn r.fn ->
   CallsIn F (n-1) P gf (#[.func (.yield (w.heap.size+1)) #[] #[]]++lb) ((w.alloc (.deferred (some []))).alloc (.loop r)) (rangePost F n P (w.heap.size+1) Q { a with defers:={ target:=.collected w.heap.size,args:=#[] }::a.defers })) :
  (Code.rangeFunc g ps assign body).wpIn F n P Q a w:=by
 refine wpIn_rangeFunc fun fn Ii=>?_
 rw[Cq];obtain⟨r,b⟩:∃ r:Loop,r={ state:=.ready,pending:=none,fn,tmps:=a.tmps,params:=ps,assign,body,defers:=w.heap.size }:=⟨_,rfl⟩;have c:=h r (by rw[b]) (by rw[b]) (by rw[b]) (by rw[b]) (by rw[b]) (by rw[b]) (by rw[b];exact Ii);have d:(Instr.enterLoop fn a.tmps ps assign body none).run P w=.ok (w.heap.size+1,[{ target:=.collected w.heap.size,args:=#[] }]) ((w.alloc (.deferred (some []))).alloc (.loop r)):=by rw[b];exact run_enterLoop_outer fn a.tmps ps assign body
 generalize (w.alloc (.deferred (some []))).alloc (.loop r)=W1 at *
 have e:(resolve a.eval (rangeCall g (w.heap.size+1)) 0).run P W1=.ok { target:=.fn (.func gf) lb,args:=#[.func (.yield (w.heap.size+1)) #[] #[]] } W1:=by
  simp only[resolve,hg];simp[go_sem]
 have f:∀ f',Target.leads P W1 (Target.fn (.func gf) lb) #[.func (.yield (w.heap.size+1)) #[] #[]]=some f'->F.fn f':=fun f' hf'=>by
  simp[Target.leads] at hf';subst hf';exact hFg
 have i:(invoke (Target.fn (.func gf) lb) #[.func (.yield (w.heap.size+1)) #[] #[]]).run P W1=.ok (.enter gf (#[.func (.yield (w.heap.size+1)) #[] #[]]++lb)) W1:=by simp[invoke,go_sem,eg]
 exact⟨_,_,_,_,_,_,_,_,d,e,f,i,fun _=>h1,c⟩
attribute [local go_sem] Oper.semAt_some
def bP:Bs->List Bs
 | []=>[[]]
 | b::l=>if b=47 then[]::bP l else match bP l with
  | []=>[[b]]
  | x::xs=>(b::x)::xs
theorem kB:∀(l:Bs),(47:UInt8)∉l->bP l=[l]:=by
 intro l
 induction l with
 | nil=>intro _;rfl
 | cons b l ih =>
  intro h;have a:b≠47:=fun e=>h (by simp[e])
  unfold bP;rw[if_neg a,ih (fun e=>h (by simp[e]))]
theorem jy:∀(x y:Bs),(47:UInt8)∉x->bP (x++47::y)=x::bP y:=by
 intro x y
 induction x with
 | nil=>intro _;simp[bP]
 | cons b x ih =>
  intro h;have a:b≠47:=fun e=>h (by simp[e])
  have e:bP (b::(x++47::y))=if b=47 then[]::bP (x++47::y) else match bP (x++47::y) with
   | []=>[[b]]
   | x::xs=>(b::x)::xs:=rfl
  rw[List.cons_append,e,if_neg a,ih (fun e=>h (by simp[e]))]
theorem D3{l:Bs}(h:Lib.indexByte l 47=-1):(47:UInt8)∉l:=fun hm=>by
 obtain⟨k,hk⟩:=List.mem_iff_getElem?.1 hm;exact Lib.indexByte_none h k hk
theorem D4{l:Bs}{o:Nat}(h:Lib.indexByte l 47=o):l=l.take o++47::l.drop (o+1)/\(47:UInt8)∉l.take o/\o<l.length:=by
 obtain⟨d,e⟩:=Lib.indexByte_some h;obtain⟨c,f⟩:=List.getElem?_eq_some_iff.1 d;refine⟨?_,fun hm=>?_,c⟩
 ·rw[<-f,<-List.drop_eq_getElem_cons c,List.take_append_drop]
 ·obtain⟨k,b⟩:=List.mem_iff_getElem?.1 hm
  have a:k<o:=by
   rcases Nat.lt_or_ge k o with q|q
   ·exact q
   ·rw[List.getElem?_eq_none (by rw[List.length_take];omega)] at b;simp at b
  rw[List.getElem?_take_of_lt a] at b;exact e k a b
theorem xk(l:Bs):Lib.indexByte l 47=-1\/∃ o:Nat,Lib.indexByte l 47=o:=by
 have:=Lib.indexByte_ge l 47
 by_cases h:Lib.indexByte l 47=-1
 ·exact .inl h
 ·exact .inr ⟨(Lib.indexByte l 47).toNat,by omega⟩
structure lR(W:World)(sp sv ss:Nat)(rest:Bs):Prop where
 p:W.heap[sp]?=some (.cells #[.string ⟨#[47]⟩] 9 (0,0))
 v:W.heap[sv]?=some (.cells #[.string (ba rest)] 9 (0,0))
 s:W.heap[ss]?=some (.cells #[.int .i64 0] 3 (0,0))
def lQ(sp sv ss:Nat)(W W':World):Prop:=W'.heap[sp]?=W.heap[sp]?/\W'.heap[sv]?=W.heap[sv]?/\W'.heap[ss]?=W.heap[ss]?
theorem lR.ae{W':World}{rest:Bs}(h:lR W sp sv ss rest)(k:lQ sp sv ss W W'):lR W' sp sv ss rest:=⟨k.1.trans h.p,k.2.1.trans h.v,k.2.2.trans h.s⟩
def tZ(sv:Nat)(w:World):Nat:=match w.cell? ⟨sv,0,none⟩ with
 | some (.string s)=>s.size
 | _=>0
theorem lR.len{rest:Bs}(h:lR W sp sv ss rest):tZ sv W=rest.length:=by
 unfold tZ;rw[cell_of_heap h.v];exact aI rest
theorem A2(l sp sv ss:Nat)(qE:sp≠sv)(D8:ss≠sv)(path:Bs)(jq:path.length<=9223372036854775807)(J Jx:List Bs->World->Prop)
  (hY:∀ dm x W,J dm W->YieldAt Fence.wide 0 Tryz.prog l #[.string (ba x)] W fun e W'=>(e=.returned (.bool true)/\J (dm++[x]) W'/\lQ sp sv ss W W')\/(e=.returned (.bool false)/\Jx (dm++[x]) W'))
  (hJ:∀ dm W u,J dm W->J dm (W.setCell ⟨sv,0,none⟩ u)) (W:World) (hB:lR W sp sv ss path) (h0:J [] W) :
  CallsIn Fence.wide 1 Tryz.prog 176 #[.func (.yield l) #[] #[],.pointer (some ⟨sp,0,none⟩),.pointer (some ⟨sv,0,none⟩),.pointer (some ⟨ss,0,none⟩)] W fun e W'=>(∃ v,e=.returned v)/\(J (bP path) W'\/∃ dm,dm <+: bP path/\Jx dm W'):=by
 have H:=ab hB;have P:W.cell? ⟨sp,0,none⟩=some (.string ⟨#[47]⟩):=by rw[cell_of_heap hB.p];rfl
 refine callsIn_of_wp Tryz.func176 rfl trivial ?_ rfl;simp only[Tryz.ntmps176,List.size_toArray,List.length_cons,List.length_nil,Nat.reduceAdd,Nat.reduceSub,Array.replicate_succ,Array.replicate_zero,List.push_toArray,List.append_toArray,List.nil_append,List.cons_append]
 gi_wp2
 gi_loopw [] (fun wr=>∃(dm:List Bs) (a:Bs),bP path=dm++bP a/\Hi (lR wr sp sv ss a)/\Hi (J dm wr)/\a.length<=9223372036854775807) (fun wr=>tZ sv wr)
 case atStart=>exact⟨[],path,rfl,H,h0,jq⟩
 case round =>
  obtain⟨dm,a,h,f,w,dK⟩:=hrel;have I:wr.cell? ⟨sp,0,none⟩=some (.string ⟨#[47]⟩):=by rw[cell_of_heap f.o.p];rfl
  have K:wr.cell? ⟨sv,0,none⟩=some (.string (ba a)):=by rw[cell_of_heap f.o.v];rfl
  have L:wr.cell? ⟨ss,0,none⟩=some (.int .i64 0):=by rw[cell_of_heap f.o.s];rfl
  have B:=ab (dk a);have C:=aI a
  gi_wp2
  refine⟨trivial,(callsIn_wide.2 (Any.strings_Index_one FQ (ba a) 47 wr)).mono ?_⟩;rintro e S ⟨rfl,M⟩;obtain rfl:=M.symm;rw[B.o];rcases xk a with F|⟨o,G⟩
  ·rw[F];obtain⟨N,y,i,z,A,m⟩:=hY dm a wr w.o;have n:Hi (dm++[a]=bP path):=ab (by rw[h,kB a (D3 F)]);clear F h
   gi_wp2
   refine m.mono ?_;rintro e W3 (⟨rfl,g,j⟩|⟨rfl,b⟩)
   ·have d:=ab g;clear g j m
    gi_wp2
    go_end0
    exact⟨⟨_,rfl⟩,.inl (by rw[<-n.o];exact d.o)⟩
   ·have d:=ab b;clear b m
    gi_wp2
    go_end0
    exact⟨⟨_,rfl⟩,.inr ⟨_,by rw[n.o];exact List.prefix_refl _,d.o⟩⟩
  ·rw[G];obtain⟨hcut,dH,O⟩:=D4 G
   have q:(ba a).extract 0 o=ba (a.take o):=by
    apply ef;rw[ByteArray.data_extract,Array.toList_extract,List.extract_eq_take_drop,dk,dk];simp
   have r:(ba a).extract (o+1) (ba a).size=ba (a.drop (o+1)):=by
    apply ef;rw[ByteArray.data_extract,Array.toList_extract,List.extract_eq_take_drop,dk,dk,aI,List.take_of_length_le (by rw[List.length_drop];omega)]
   have D:=ab r;obtain⟨N,y,i,z,A,m⟩:=hY dm (a.take o) wr w.o;rw[<-q] at A
   have n:Hi (bP path=(dm++[a.take o])++bP (a.drop (o+1))):=by
    show _=_;rw[h]
    conv=>lhs;rw[hcut,jy _ _ dH]
    simp
   clear G h hcut dH q r
   gi_wp2
   refine m.mono ?_;rintro e W3 (⟨rfl,g,j⟩|⟨rfl,b⟩)
   ·have c:=ab (f.o.ae j);have Q:W3.cell? ⟨sp,0,none⟩=some (.string ⟨#[47]⟩):=by rw[cell_of_heap c.o.p];rfl
    have R:W3.cell? ⟨sv,0,none⟩=some (.string (ba a)):=by rw[cell_of_heap c.o.v];rfl
    have rf:W3.frozen? ⟨sv,0,none⟩=false:=ak c.o.v;have t:=ab (hJ _ W3 (.string ((ba a).extract (o+1) (ba a).size)) g)
    have k:Hi (lR (W3.setCell ⟨sv,0,none⟩ (.string ((ba a).extract (o+1) (ba a).size))) sp sv ss (a.drop (o+1))):=by
     refine⟨?_,?_,?_⟩
     ·rw[Below.heap_setCell _ _ _ _ qE];exact c.o.p
     ·rw[heap_setCell_same c.o.v,<-D.o];rfl
     ·rw[Below.heap_setCell _ _ _ _ D8];exact c.o.s
    clear g j m A I K L;rw[C] at t k
    gi_wp2
    refine⟨⟨dm++[a.take o],a.drop (o+1),n.o,k,t,by rw[List.length_drop];omega⟩,?_⟩;rw[k.o.len,f.o.len,List.length_drop];omega
   ·have d:=ab b;have E:Hi (dm++[a.take o] <+: bP path):=⟨_,n.o.symm⟩;clear b m A
    gi_wp2
    refine bodyPost_ret (results_none rfl _ _ _) rfl ?_;exact⟨⟨_,rfl⟩,.inr ⟨_,E.o,d.o⟩⟩
theorem tV(s:ByteArray)(w:World):Calls Tryz.prog 146 #[.string s,.string ⟨#[47]⟩,.int .i64 0] w fun e w'=>e=.returned (.func (.func 176) #[] #[.pointer (some ⟨w.heap.size+1,0,none⟩),.pointer (some ⟨w.heap.size,0,none⟩),.pointer (some ⟨w.heap.size+2,0,none⟩)])/\Fr Zero w w'/\lR w' (w.heap.size+1) w.heap.size (w.heap.size+2) s.data.toList:=by
 go_enter Tryz.func146,Tryz.ntmps146;go_wp2_with fail;go_ret;refine⟨rfl,((Fr.alloc _ _ _).trans (Fr.alloc _ _ _)).trans (Fr.alloc _ _ _),⟨?_,?_,?_⟩⟩
 ·rw[Below.heap_alloc _ _ _ (by simp)];exact af (by simp) _
 ·rw[Below.heap_alloc _ _ _ (by simp;omega),Below.heap_alloc _ _ _ (by simp),eC];exact af rfl _
 ·exact af (by simp) _
theorem uY(s:ByteArray)(w:World):Calls Tryz.prog 99 #[.string s,.string ⟨#[47]⟩] w fun e w'=>e=.returned (.func (.func 176) #[] #[.pointer (some ⟨w.heap.size+1,0,none⟩),.pointer (some ⟨w.heap.size,0,none⟩),.pointer (some ⟨w.heap.size+2,0,none⟩)])/\Fr Zero w w'/\lR w' (w.heap.size+1) w.heap.size (w.heap.size+2) s.data.toList:=by
 go_enter Tryz.func99,Tryz.ntmps99;go_wp2_with fail;refine(tV s w).mono ?_;rintro e d ⟨rfl,(c:Hi _),a⟩;have b:=ab a;clear a;go_wp2_with fail;go_ret;exact⟨rfl,c,b⟩
attribute [local go_sem] Oper.semAt_some
def g9:PV->List Bs->Nat->Option PV×Nat
 | v,[],_=>(some v,0)
 | v,st::l,n=>match c7 v st with
  | none=>(none,n)
  | some u=>g9 u l (n+1)
def eM:PV->List Bs->Option PV
 | v,[]=>some v
 | v,st::l=>(c7 v st).bind fun u=>eM u l
theorem kM(x:Bs):∀(l:List Bs) (v:PV),eM v (l++[x])=(eM v l).bind fun u=>c7 u x:=by
 intro l
 induction l with
 | nil=>intro v;simp[eM]
 | cons st l ih =>
  intro v;simp only[List.cons_append,eM];rcases c7 v st with _|u
  ·rfl
  ·simp only[Option.bind_some];exact ih u
theorem qk:∀(l m:List Bs) (v u:PV) (n:Nat),eM v l=some u->g9 v (l++m) n=g9 u m (n+l.length):=by
 intro l
 induction l with
 | nil=>intro m v u n h;simp[eM] at h;subst h;simp
 | cons st l ih =>
  intro m v u n h;simp only[eM] at h;rcases hb:c7 v st with _|x
  ·rw[hb] at h;simp at h
  ·rw[hb] at h;simp only[Option.bind_some] at h;simp only[List.cons_append,g9,hb];rw[ih m x u (n+1) h,List.length_cons]
   congr 1
   omega
def EN(w:World)(r:Option PV×Nat)(e:Ending)(w':World):Prop :=
 Fr Zero w w'/\((∃(u:PV) (c:VC) (k:Nat) (t:PT),r=(some u,0)/\e=.returned (.tuple #[c.val,.int .i64 0,.bool true])/\VR w Zero c u/\(∃ o n j,c.sv=.slice o n j)/\c8 k t/\Valid k t u)\/∃ n:Nat,r=(none,n)/\e=.returned (.tuple #[zeroV,.int .i64 n,.bool false]))
structure PJ(w:World)(v:PV)(b l D K:Nat)(r:Loop)(dm:List Bs)(W:World):Prop where
 gone:∃(u:PV) (c:VC) (k:Nat) (t:PT),eM v dm=some u/\VR w Zero c u/\(∃ o n j,c.sv=.slice o n j)/\c8 k t/\Valid k t u/\W.heap[b]?=some (.cells c.cells.toArray 133 (0,0))/\k+dm.length=K
 r4:W.heap[b+1]?=some (.cells #[.pointer none,.int .i64 0,.string ⟨#[]⟩,.slice none 0 0] 133 (0,0))
 r5:W.heap[b+2]?=some (.cells #[.int .i64 0] 3 (0,0))
 r6:W.heap[b+3]?=some (.cells #[.bool false] 4 (0,0))
 num:W.heap[b+4]?=some (.cells #[.int .i64 dm.length] 3 (0,0))
 lp:W.heap[l]?=some (.loop r)
 df:W.heap[D]?=some (.deferred (some []))
 fr:Fr Zero w W
structure PK(w:World)(v:PV)(b l D:Nat)(r:Loop)(dm:List Bs)(W:World):Prop where
 gone:∃(pr:List Bs) (x:Bs) (u:PV),dm=pr++[x]/\eM v pr=some u/\c7 u x=none/\W.heap[b+2]?=some (.cells #[.int .i64 pr.length] 3 (0,0))
 r4:W.heap[b+1]?=some (.cells #[.pointer none,.int .i64 0,.string ⟨#[]⟩,.slice none 0 0] 133 (0,0))
 r6:W.heap[b+3]?=some (.cells #[.bool false] 4 (0,0))
 lp:W.heap[l]?=some (.loop { r with state:=.done,pending:=some .ret })
 df:W.heap[D]?=some (.deferred (some []))
 fr:Fr Zero w W
theorem Fr.putObj(h:Fr Zero w W)(hl:w.heap.size<=l)(ob:Obj):Fr Zero w (W.putObj l ob) :=
 ⟨h.os,h.tape,h.output,(by have e:(W.putObj l ob).heap.size=W.heap.size:=(by simp[World.putObj]);rw[e];exact h.size),fun i hi hx=>(World.putObj_heap_other (by omega)).trans (h.block i hi hx)⟩
theorem PJ.put{b K:Nat}{r':Loop}{dm:List Bs}(h:PJ w v b l D K r dm W)(hb:b+4<l)(hD:D≠l)(hw:w.heap.size<=l):PJ w v b l D K r' dm (W.putObj l (.loop r')):=by
 have a:l<W.heap.size:=(Array.getElem?_eq_some_iff.1 h.lp).1;obtain⟨u,c,k,t,d,e,f,g,i,j,m⟩:=h.gone;exact⟨⟨u,c,k,t,d,e,f,g,i,(World.putObj_heap_other (by omega)).trans j,m⟩,(World.putObj_heap_other (by omega)).trans h.r4,(World.putObj_heap_other (by omega)).trans h.r5,(World.putObj_heap_other (by omega)).trans h.r6,(World.putObj_heap_other (by omega)).trans h.num,World.putObj_heap_same a,(World.putObj_heap_other hD).trans h.df,h.fr.putObj hw _⟩
theorem lQ.put(W:World)(ob:Obj)(h1:sp≠l)(h2:sv≠l)(h3:ss≠l):lQ sp sv ss W (W.putObj l ob):=⟨World.putObj_heap_other h1,World.putObj_heap_other h2,World.putObj_heap_other h3⟩
theorem lQ.trans{A B C:World}(h:lQ sp sv ss A B)(k:lQ sp sv ss B C):lQ sp sv ss A C:=⟨k.1.trans h.1,k.2.1.trans h.2.1,k.2.2.trans h.2.2⟩
theorem FD{u2:PV}{K k':Nat}{t':PT}{dm:List Bs}{x:Bs}{W2:World}{ua ea:Addr}{un en:Int}{ub eb:Bs}{uo eo:Option Addr}{uj uk ej ek:Nat}(oY:r.state=.ready)(E1:r.pending=none)
  (hg:eM v dm=some u) (hsome:c7 u x=some u2) (hvr:VR w Zero ⟨ea,en,eb,.slice eo ej ek⟩ u2) (hW:c8 k' t') (bN:Valid k' t' u2) (hk:k'+1+dm.length=K)
  (H4:W2.heap[w.heap.size+1]?=some (.cells #[.pointer none,.int .i64 0,.string ⟨#[]⟩,.slice none 0 0] 133 (0,0))) (H5:W2.heap[w.heap.size+2]?=some (.cells #[.int .i64 0] 3 (0,0))) (H6:W2.heap[w.heap.size+3]?=some (.cells #[.bool false] 4 (0,0)))
  (HN:W2.heap[w.heap.size+4]?=some (.cells #[.int .i64 dm.length] 3 (0,0))) (HC:W2.heap[w.heap.size]?=some (.cells #[.pointer (some ua),.int .i64 un,.string (ba ub),.slice uo uj uk] 133 (0,0)))
  (HL:W2.heap[l]?=some (.loop { r with state:=.busy })) (HD:W2.heap[D]?=some (.deferred (some []))) (HF:Fr Zero w W2) (hl:w.heap.size+4<l) (hD:w.heap.size+4<D) (hDl:D≠l) (hb:w.heap.size+4<sp/\w.heap.size+4<sv/\w.heap.size+4<ss) (kV:sp≠l/\sv≠l/\ss≠l) (hbs:sp<W2.heap.size/\sv<W2.heap.size/\ss<W2.heap.size) (W3:World)
  (hW3:W3=(((((W2.setCell ⟨w.heap.size,0,none⟩ (.pointer (some ea))).setCell ⟨w.heap.size,1,none⟩ (.int .i64 en)).setCell ⟨w.heap.size,2,none⟩ (.string (ba eb))).setCell ⟨w.heap.size,3,none⟩ (.slice eo ej ek)).setCell ⟨w.heap.size+4,0,none⟩ (.int .i64 ((dm.length:Int)+1))).alloc (.cells #[.pointer (some ea),.int .i64 en,.string (ba eb),.slice eo ej ek] 133)) :
  W3.heap[l]?=some (.loop { r with state:=.busy })/\PJ w v w.heap.size l D K r (dm++[x]) (W3.putObj l (.loop { ({ r with state:=.busy }:Loop) with state:=.ready,pending:=none }))/\lQ sp sv ss W2 (W3.putObj l (.loop { ({ r with state:=.busy }:Loop) with state:=.ready,pending:=none })):=by
 have k:({ ({ r with state:=.busy }:Loop) with state:=.ready,pending:=none }:Loop)=r:=by
  rw[<-E1,<-oY]
 have a:∀ i,i≠w.heap.size->i≠w.heap.size+4->i<W2.heap.size->W3.heap[i]?=W2.heap[i]?:=fun i h1 h2 h3=>by
  rw[hW3,Below.heap_alloc _ _ _ (by simp;exact h3),Below.heap_setCell _ _ _ _ h2,cN h1]
 have d:W3.heap[w.heap.size]?=some (.cells #[.pointer (some ea),.int .i64 en,.string (ba eb),.slice eo ej ek] 133 (0,0)):=by
  have c:=lt_of_heap HC;rw[hW3,Below.heap_alloc _ _ _ (by simp;exact c),Below.heap_setCell _ _ _ _ (by show w.heap.size≠w.heap.size+4;omega)];exact eL HC _ _ _ _
 have e:W3.heap[w.heap.size+4]?=some (.cells #[.int .i64 ((dm++[x]).length:Nat)] 3 (0,0)):=by
  have c:=lt_of_heap HN;rw[hW3,Below.heap_alloc _ _ _ (by simp;exact c),heap_setCell_same ((cN (by omega) _ _ _ _).trans HN)];simp
 have f:l<W2.heap.size:=(Array.getElem?_eq_some_iff.1 HL).1;have g:D<W2.heap.size:=(Array.getElem?_eq_some_iff.1 HD).1;have m:=lt_of_heap H4;have n:=lt_of_heap H5;have o:=lt_of_heap H6;have dJ:W3.heap.size=W2.heap.size+1:=by rw[hW3];simp
 have h:Fr Zero w W3:=by
  rw[hW3];exact((HF.past (Fr.four (fun b=>w.heap.size<=b) W2 w.heap.size _ _ _ _ (Nat.le_refl _))).past (Fr.setCell (fun b=>w.heap.size<=b) _ _ _ (by show w.heap.size<=w.heap.size+4;omega))).trans (Fr.alloc _ _ _)
 have j:W3.heap[l]?=some (.loop { r with state:=.busy }):=(a l (by omega) (by omega) f).trans HL;refine⟨j,?_,?_⟩
 ·rw[k];refine⟨⟨u2,⟨ea,en,eb,.slice eo ej ek⟩,k',t',?_,hvr,⟨_,_,_,rfl⟩,hW,bN,(World.putObj_heap_other (by omega)).trans d,by simp;omega⟩,(World.putObj_heap_other (by omega)).trans ((a _ (by omega) (by omega) m).trans H4),(World.putObj_heap_other (by omega)).trans ((a _ (by omega) (by omega) n).trans H5),(World.putObj_heap_other (by omega)).trans ((a _ (by omega) (by omega) o).trans H6),(World.putObj_heap_other (by omega)).trans e,World.putObj_heap_same (by omega),(World.putObj_heap_other hDl).trans ((a _ (by omega) (by omega) g).trans HD),h.putObj (by omega) _⟩;rw[kM,hg];exact hsome
 ·exact⟨(World.putObj_heap_other kV.1).trans (a _ (by omega) (by omega) hbs.1),(World.putObj_heap_other kV.2.1).trans (a _ (by omega) (by omega) hbs.2.1),(World.putObj_heap_other kV.2.2).trans (a _ (by omega) (by omega) hbs.2.2)⟩
theorem FC{dm:List Bs}{x:Bs}{W2:World}(hg:eM v dm=some u)(Ad:c7 u x=none)
  (H4:W2.heap[w.heap.size+1]?=some (.cells #[.pointer none,.int .i64 0,.string ⟨#[]⟩,.slice none 0 0] 133 (0,0))) (H5:W2.heap[w.heap.size+2]?=some (.cells #[.int .i64 0] 3 (0,0))) (H6:W2.heap[w.heap.size+3]?=some (.cells #[.bool false] 4 (0,0)))
  (HL:W2.heap[l]?=some (.loop { r with state:=.busy })) (HD:W2.heap[D]?=some (.deferred (some []))) (HF:Fr Zero w W2) (hl:w.heap.size+4<l) (hD:w.heap.size+4<D) (hDl:D≠l) (A W3:World)
  (hA:A=((((((W2.setCell ⟨w.heap.size+1,0,none⟩ (.pointer none)).setCell ⟨w.heap.size+1,1,none⟩ (.int .i64 0)).setCell ⟨w.heap.size+1,2,none⟩ (.string ⟨#[]⟩)).setCell ⟨w.heap.size+1,3,none⟩ (.slice none 0 0)).setCell ⟨w.heap.size+2,0,none⟩ (.int .i64 (dm.length:Int))).setCell ⟨w.heap.size+3,0,none⟩ (.bool false)).alloc (.cells #[.pointer none,.int .i64 0,.string ⟨#[]⟩,.slice none 0 0] 133)) (hW3:W3=A.drew) :
  W3.heap[l]?=some (.loop { r with state:=.busy })/\PK w v w.heap.size l D r (dm++[x]) (W3.putObj l (.loop { ({ r with state:=.busy }:Loop) with state:=.done,pending:=some .ret })):=by
 have c:W3.heap=A.heap:=by rw[hW3];rfl
 have a:∀ i,i≠w.heap.size+1->i≠w.heap.size+2->i≠w.heap.size+3->i<W2.heap.size->W3.heap[i]?=W2.heap[i]?:=fun i h1 h2 h3 d=>by
  rw[c,hA,Below.heap_alloc _ _ _ (by simp;exact d),Below.heap_setCell _ _ _ _ h3,Below.heap_setCell _ _ _ _ h2,cN h1]
 have j:=lt_of_heap H4;have k:=lt_of_heap H5;have m:=lt_of_heap H6
 have d:W3.heap[w.heap.size+1]?=some (.cells #[.pointer none,.int .i64 0,.string ⟨#[]⟩,.slice none 0 0] 133 (0,0)):=by
  rw[c,hA,Below.heap_alloc _ _ _ (by simp;exact j),Below.heap_setCell _ _ _ _ (by show w.heap.size+1≠w.heap.size+3;omega),Below.heap_setCell _ _ _ _ (by show w.heap.size+1≠w.heap.size+2;omega)];exact eL H4 _ _ _ _
 have n:W3.heap[w.heap.size+2]?=some (.cells #[.int .i64 (dm.length:Nat)] 3 (0,0)):=by
  rw[c,hA,Below.heap_alloc _ _ _ (by simp;exact k),Below.heap_setCell _ _ _ _ (by show w.heap.size+2≠w.heap.size+3;omega),heap_setCell_same ((cN (by omega) _ _ _ _).trans H5)];rfl
 have o:W3.heap[w.heap.size+3]?=some (.cells #[.bool false] 4 (0,0)):=by
  rw[c,hA,Below.heap_alloc _ _ _ (by simp;exact m),heap_setCell_same ((Below.heap_setCell _ _ _ _ (by show w.heap.size+3≠w.heap.size+2;omega)).trans ((cN (by omega) _ _ _ _).trans H6))];rfl
 have e:l<W2.heap.size:=(Array.getElem?_eq_some_iff.1 HL).1;have f:D<W2.heap.size:=(Array.getElem?_eq_some_iff.1 HD).1
 have dJ:W3.heap.size=W2.heap.size+1:=by
  rw[c,hA];simp
 have g:Fr Zero w W3:=by
  rw[hW3,hA];exact((((HF.past (Fr.four (fun b=>w.heap.size<=b) W2 (w.heap.size+1) _ _ _ _ (Nat.le_succ _))).past (Fr.setCell (fun b=>w.heap.size<=b) _ _ _ (by show w.heap.size<=w.heap.size+2;omega))).past (Fr.setCell (fun b=>w.heap.size<=b) _ _ _ (by show w.heap.size<=w.heap.size+3;omega))).trans (Fr.alloc _ _ _)).trans (Fr.drew _ _)
 have h:W3.heap[l]?=some (.loop { r with state:=.busy }):=(a l (by omega) (by omega) (by omega) e).trans HL;exact⟨h,⟨⟨dm,x,u,rfl,hg,Ad,(World.putObj_heap_other (by omega)).trans n⟩,(World.putObj_heap_other (by omega)).trans d,(World.putObj_heap_other (by omega)).trans o,World.putObj_heap_same (by omega),(World.putObj_heap_other hDl).trans ((a _ (by omega) (by omega) (by omega) f).trans HD),g.putObj (by omega) _⟩⟩
theorem Ds{W3:World}{y0 y1 y2 y3 z0 z1 x0 x1 x2 x3 y z:Value}(H4:W3.heap[w.heap.size+1]?=some (.cells #[y0,y1,y2,y3] 133 (0,0)))(H5:W3.heap[w.heap.size+2]?=some (.cells #[z0] 3 (0,0)))(H6:W3.heap[w.heap.size+3]?=some (.cells #[z1] 4 (0,0)))(HD:W3.heap[D]?=some (.deferred (some [])))(hD:w.heap.size+4<D)(HF:Fr Zero w W3)(W4:World)
  (hW4:W4=(((((W3.setCell ⟨w.heap.size+1,0,none⟩ x0).setCell ⟨w.heap.size+1,1,none⟩ x1).setCell ⟨w.heap.size+1,2,none⟩ x2).setCell ⟨w.heap.size+1,3,none⟩ x3).setCell ⟨w.heap.size+2,0,none⟩ y).setCell ⟨w.heap.size+3,0,none⟩ z) :
  W4.heap[D]?=some (.deferred (some []))/\W4.heap[w.heap.size+1]?=some (.cells #[x0,x1,x2,x3] 133 (0,0))/\W4.heap[w.heap.size+2]?=some (.cells #[y] 3 (0,0))/\W4.heap[w.heap.size+3]?=some (.cells #[z] 4 (0,0))/\Fr Zero w W4:=by
 refine⟨?_,?_,?_,?_,?_⟩
 ·rw[hW4,Below.heap_setCell _ _ _ _ (by show D≠w.heap.size+3;omega),Below.heap_setCell _ _ _ _ (by show D≠w.heap.size+2;omega),cN (by omega)];exact HD
 ·rw[hW4,Below.heap_setCell _ _ _ _ (by show w.heap.size+1≠w.heap.size+3;omega),Below.heap_setCell _ _ _ _ (by show w.heap.size+1≠w.heap.size+2;omega)];exact eL H4 _ _ _ _
 ·rw[hW4,Below.heap_setCell _ _ _ _ (by show w.heap.size+2≠w.heap.size+3;omega),heap_setCell_same ((cN (by omega) _ _ _ _).trans H5)];rfl
 ·rw[hW4,heap_setCell_same ((Below.heap_setCell _ _ _ _ (by show w.heap.size+3≠w.heap.size+2;omega)).trans ((cN (by omega) _ _ _ _).trans H6))];rfl
 ·rw[hW4];exact((HF.past (Fr.four (fun b=>w.heap.size<=b) W3 (w.heap.size+1) _ _ _ _ (Nat.le_succ _))).past (Fr.setCell (fun b=>w.heap.size<=b) _ _ _ (by show w.heap.size<=w.heap.size+2;omega))).past (Fr.setCell (fun b=>w.heap.size<=b) _ _ _ (by show w.heap.size<=w.heap.size+3;omega))
theorem Dr(w:World)(c:VC)(v:PV)(k:Nat)(t:PT)(hV:VR w Zero c v)(hc:∃ o n j,c.sv=.slice o n j)(hW:c8 k t)(bN:Valid k t v)(hP:ey w)(Js:k<=100000)(path:ByteArray)(cF:path≠⟨#[]⟩)(jq:path.size<=9223372036854775807):
  Calls Tryz.prog 72 #[c.val,.string path] w fun e w'=>EN w (g9 v (bP path.data.toList) 0) e w':=by
 obtain⟨J,L,M,bv⟩:=c;obtain⟨o,N,O,hs⟩:=hc;simp only at hs;subst hs
 have bh:path.toList.isEmpty=false:=by
  cases hq:path.toList with
  | nil =>
   rw[ByteArray.toList_eq] at hq;exact absurd (ef (by rw[hq])) cF
  | cons x l=>rfl
 simp only[VC.val];refine(callsIn_wide (n:=3)).1 ?_;refine callsIn_of_wp_marks Tryz.func72 rfl trivial ?_ rfl;simp only[Tryz.ntmps72,List.size_toArray,List.length_cons,List.length_nil,Nat.reduceAdd,Nat.reduceSub,Array.replicate_succ,Array.replicate_zero,List.push_toArray,List.append_toArray,List.nil_append,List.cons_append];have ar:Hi (Fr Zero w (((((w.alloc (.cells #[.pointer (some J),.int .i64 L,.string (ba M),.slice o N O] 133)).alloc (.cells #[.pointer none,.int .i64 0,.string ⟨#[]⟩,.slice none 0 0] 133)).alloc (.cells #[.int .i64 0] 3)).alloc (.cells #[.bool false] 4)).alloc (.cells #[.int .i64 0] 3))):=((((Fr.alloc _ _ _).trans (Fr.alloc _ _ _)).trans (Fr.alloc _ _ _)).trans (Fr.alloc _ _ _)).trans (Fr.alloc _ _ _);have au:Hi ((((((w.alloc (.cells #[.pointer (some J),.int .i64 L,.string (ba M),.slice o N O] 133)).alloc (.cells #[.pointer none,.int .i64 0,.string ⟨#[]⟩,.slice none 0 0] 133)).alloc (.cells #[.int .i64 0] 3)).alloc (.cells #[.bool false] 4)).alloc (.cells #[.int .i64 0] 3)).heap[w.heap.size+0]?=some (.cells #[.pointer (some J),.int .i64 L,.string (ba M),.slice o N O] 133 (0,0))):=(Below.heap_alloc _ _ _ (by simp<;>omega)).trans ((Below.heap_alloc _ _ _ (by simp<;>omega)).trans ((Below.heap_alloc _ _ _ (by simp<;>omega)).trans ((Below.heap_alloc _ _ _ (by simp<;>omega)).trans (af (by simp) _))));have av:Hi ((((((w.alloc (.cells #[.pointer (some J),.int .i64 L,.string (ba M),.slice o N O] 133)).alloc (.cells #[.pointer none,.int .i64 0,.string ⟨#[]⟩,.slice none 0 0] 133)).alloc (.cells #[.int .i64 0] 3)).alloc (.cells #[.bool false] 4)).alloc (.cells #[.int .i64 0] 3)).heap[w.heap.size+1]?=some (.cells #[.pointer none,.int .i64 0,.string ⟨#[]⟩,.slice none 0 0] 133 (0,0))):=(Below.heap_alloc _ _ _ (by simp<;>omega)).trans ((Below.heap_alloc _ _ _ (by simp<;>omega)).trans ((Below.heap_alloc _ _ _ (by simp<;>omega)).trans (af (by simp) _)));have aw:Hi ((((((w.alloc (.cells #[.pointer (some J),.int .i64 L,.string (ba M),.slice o N O] 133)).alloc (.cells #[.pointer none,.int .i64 0,.string ⟨#[]⟩,.slice none 0 0] 133)).alloc (.cells #[.int .i64 0] 3)).alloc (.cells #[.bool false] 4)).alloc (.cells #[.int .i64 0] 3)).heap[w.heap.size+2]?=some (.cells #[.int .i64 0] 3 (0,0))):=(Below.heap_alloc _ _ _ (by simp<;>omega)).trans ((Below.heap_alloc _ _ _ (by simp<;>omega)).trans (af (by simp) _));have ax:Hi ((((((w.alloc (.cells #[.pointer (some J),.int .i64 L,.string (ba M),.slice o N O] 133)).alloc (.cells #[.pointer none,.int .i64 0,.string ⟨#[]⟩,.slice none 0 0] 133)).alloc (.cells #[.int .i64 0] 3)).alloc (.cells #[.bool false] 4)).alloc (.cells #[.int .i64 0] 3)).heap[w.heap.size+3]?=some (.cells #[.bool false] 4 (0,0))):=(Below.heap_alloc _ _ _ (by simp<;>omega)).trans (af (by simp) _);have ay:Hi ((((((w.alloc (.cells #[.pointer (some J),.int .i64 L,.string (ba M),.slice o N O] 133)).alloc (.cells #[.pointer none,.int .i64 0,.string ⟨#[]⟩,.slice none 0 0] 133)).alloc (.cells #[.int .i64 0] 3)).alloc (.cells #[.bool false] 4)).alloc (.cells #[.int .i64 0] 3)).heap[w.heap.size+4]?=some (.cells #[.int .i64 0] 3 (0,0))):=af (by simp) _;have az:(((((w.alloc (.cells #[.pointer (some J),.int .i64 L,.string (ba M),.slice o N O] 133)).alloc (.cells #[.pointer none,.int .i64 0,.string ⟨#[]⟩,.slice none 0 0] 133)).alloc (.cells #[.int .i64 0] 3)).alloc (.cells #[.bool false] 4)).alloc (.cells #[.int .i64 0] 3)).heap.size=w.heap.size+5:=by simp
 gi_wp2
 generalize ((((w.alloc (.cells #[.pointer (some J),.int .i64 L,.string (ba M),.slice o N O] 133)).alloc (.cells #[.pointer none,.int .i64 0,.string ⟨#[]⟩,.slice none 0 0] 133)).alloc (.cells #[.int .i64 0] 3)).alloc (.cells #[.bool false] 4)).alloc (.cells #[.int .i64 0] 3)=w5 at *;refine⟨trivial,(callsIn_wide.2 (uY path w5)).mono ?_⟩;rintro e d ⟨rfl,C,R⟩;rw[az];rw[az] at R;have aA:=ab (ar.o.trans C);have aB:=ab (C.ae au.o (fun h=>h));have aC:=ab (C.ae av.o (fun h=>h));have aD:=ab (C.ae aw.o (fun h=>h));have aE:=ab (C.ae ax.o (fun h=>h));have aF:=ab (C.ae ay.o (fun h=>h));have bj:=lt_of_heap R.s
 gi_wp2
 refine FM rfl (by omega) rfl trivial (enters_of Tryz.func176 (by kernel_rfl) rfl) ?_;intro r g1 g2 g3 g4 g5 g6 g7;have q:Fr Zero d ((d.alloc (.deferred (some []))).alloc (.loop r)):=(Fr.alloc _ _ _).trans (Fr.alloc _ _ _)
 have aG:Hi (((d.alloc (.deferred (some []))).alloc (.loop r)).heap[d.heap.size+1]?=some (.loop r)):=by
  have:=World.alloc_heap_new (d.alloc (.deferred (some []))) (.loop r)
  rwa [World.size_alloc] at this
 have aH:Hi (((d.alloc (.deferred (some []))).alloc (.loop r)).heap[d.heap.size]?=some (.deferred (some []))):=(Below.heap_alloc _ _ _ (by simp)).trans (World.alloc_heap_new d _)
 have a0:Hi (PJ w v w.heap.size (d.heap.size+1) d.heap.size k r [] ((d.alloc (.deferred (some []))).alloc (.loop r))) :=
  ⟨⟨v,⟨J,L,M,.slice o N O⟩,k,t,rfl,hV,⟨_,_,_,rfl⟩,hW,bN,q.ae aB.o (fun h=>h),rfl⟩,q.ae aC.o (fun h=>h),q.ae aD.o (fun h=>h),q.ae aE.o (fun h=>h),q.ae aF.o (fun h=>h),aG.o,aH.o,aA.o.trans q⟩
 have a1:Hi (lR ((d.alloc (.deferred (some []))).alloc (.loop r)) (w.heap.size+5+1) (w.heap.size+5) (w.heap.size+5+2) path.data.toList):=⟨q.ae R.p (fun h=>h),q.ae R.v (fun h=>h),q.ae R.s (fun h=>h)⟩;generalize (d.alloc (.deferred (some []))).alloc (.loop r)=w7 at *;refine(callsIn_wide.2 (callsIn_wide.1 (A2 (d.heap.size+1) (w.heap.size+5+1) (w.heap.size+5) (w.heap.size+5+2) (by omega) (by omega) path.data.toList (by rw[Array.length_toList];exact jq) (PJ w v w.heap.size (d.heap.size+1) d.heap.size k r) (PK w v w.heap.size (d.heap.size+1) d.heap.size r) ?hY ?hJ w7 a1.o a0.o))).mono ?fin
 case hJ =>
  intro dm W u h;have hS:∀ i,i≠w.heap.size+5->(W.setCell ⟨w.heap.size+5,0,none⟩ u).heap[i]?=W.heap[i]?:=fun i hi=>Below.heap_setCell _ _ _ _ hi
  obtain⟨u',c',k',t',D,h2,h3,h4,h5,h6,h7⟩:=h.gone;exact⟨⟨u',c',k',t',D,h2,h3,h4,h5,(hS _ (by omega)).trans h6,h7⟩,(hS _ (by omega)).trans h.r4,(hS _ (by omega)).trans h.r5,(hS _ (by omega)).trans h.r6,(hS _ (by omega)).trans h.num,(hS _ (by omega)).trans h.lp,(hS _ (by omega)).trans h.df,h.fr.past (Fr.setCell (fun b=>w.heap.size<=b) _ _ _ (by show w.heap.size<=w.heap.size+5;omega))⟩
 case hY =>
  intro dm x W h;refine zg h.lp (by rw[g4];rfl) g7 ?_;rw[g3,g4,g5,g6];have f:=ab (h.put (r':={ r with state:=.busy }) (by omega) (by omega) (by omega));have a2:=ab (lQ.put W (.loop { r with state:=.busy }) (l:=d.heap.size+1) (sp:=w.heap.size+5+1) (sv:=w.heap.size+5) (ss:=w.heap.size+5+2) (by omega) (by omega) (by omega));have aI:=ab (run_beginRound (P:=Tryz.prog) h.lp g1);obtain⟨u,⟨S,T,U,bf⟩,k',t',hg,E,⟨V,X,Y,F⟩,G,H,a,bg⟩:=f.o.gone;simp only at F;subst F;refine(fun(hA:∀ KK:Act->World->Prop,KK _ W->Code.wpIn (Fence.wide.inRound (d.heap.size+1)) 0 Tryz.prog _ (Exit.then KK (fun _ _ _=>False)) _ W)=>hA _ ?_) (fun KK hKK=>by gi_wp2;exact hKK);refine⟨_,aI.o,?_⟩;generalize W.putObj (d.heap.size+1) (.loop { r with state:=.busy })=W1 at *;have b0:W1.cell? ⟨w.heap.size,0,none⟩=some (.pointer (some S)):=by rw[cell_of_heap a];rfl
  have b1:W1.cell? ⟨w.heap.size,1,none⟩=some (.int .i64 T):=by rw[cell_of_heap a];rfl
  have b2:W1.cell? ⟨w.heap.size,2,none⟩=some (.string (ba U)):=by rw[cell_of_heap a];rfl
  have b3:W1.cell? ⟨w.heap.size,3,none⟩=some (.slice V X Y):=by rw[cell_of_heap a];rfl
  obtain⟨aT,bw,aa⟩:=H.EW G
  gi_wp2
  refine⟨trivial,rfl,(CallsIn.inRound (d.heap.size+1) (callsIn_wide.2 (zE w W1 f.o.fr ⟨S,T,U,.slice V X Y⟩ u E hP aT (by omega) (ba x)))).mono ?_⟩;rintro e W2 ⟨(g:Hi _),aU⟩;rw[dk] at aU;have Z:=ab (g.o.ae f.o.r4 (fun h=>h));have H5:=ab (g.o.ae f.o.r5 (fun h=>h));have H6:=ab (g.o.ae f.o.r6 (fun h=>h));have HN:=ab (g.o.ae f.o.num (fun h=>h));have A:=ab (g.o.ae a (fun h=>h));have aK:Hi (W2.heap[d.heap.size+1]?=some (.loop { r with state:=.busy })):=(g.o.block _ (Array.getElem?_eq_some_iff.1 f.o.lp).1 (fun h=>h)).trans f.o.lp;have aL:Hi (W2.heap[d.heap.size]?=some (.deferred (some []))):=(g.o.block _ (Array.getElem?_eq_some_iff.1 f.o.df).1 (fun h=>h)).trans f.o.df;have aM:=ab (f.o.fr.trans g);rcases aU with⟨Ad,rfl⟩|⟨u2,c2,I,ac,rfl,ad,aV⟩
  ·have n0:W2.cell? ⟨w.heap.size+1+1+1+1,0,none⟩=some (.int .i64 dm.length):=by rw[cell_of_heap HN.o];rfl
   have r0:W2.cell? ⟨w.heap.size+1,0,none⟩=some (.pointer none):=by rw[cell_of_heap Z.o];rfl
   have r1:W2.cell? ⟨w.heap.size+1,1,none⟩=some (.int .i64 0):=by rw[cell_of_heap Z.o];rfl
   have r2:W2.cell? ⟨w.heap.size+1,2,none⟩=some (.string ⟨#[]⟩):=by rw[cell_of_heap Z.o];rfl
   have r3:W2.cell? ⟨w.heap.size+1,3,none⟩=some (.slice none 0 0):=by rw[cell_of_heap Z.o];rfl
   have r5:W2.cell? ⟨w.heap.size+1+1,0,none⟩=some (.int .i64 0):=by rw[cell_of_heap H5.o];rfl
   have r6:W2.cell? ⟨w.heap.size+1+1+1,0,none⟩=some (.bool false):=by rw[cell_of_heap H6.o];rfl
   have rf:∀ i,W2.frozen? ⟨w.heap.size+1,i,none⟩=false:=fun i=>ak Z.o
   have aN:=rf 0;have aO:=rf 1;have aP:=rf 2;have aQ:=rf 3;have aR:W2.frozen? ⟨w.heap.size+1+1,0,none⟩=false:=ak H5.o;have aS:W2.frozen? ⟨w.heap.size+1+1+1,0,none⟩=false:=ak H6.o;have il:w.heap.size+1+1+1+1<W2.heap.size:=lt_of_heap HN.o;have bk:w.heap.size+1<W2.heap.size:=lt_of_heap Z.o;have bl:w.heap.size+1+1<W2.heap.size:=lt_of_heap H5.o;have bm:w.heap.size+1+1+1<W2.heap.size:=lt_of_heap H6.o;unfold zeroV
   gi_wp2
   have bn:Tryz.prog.follows .mixedOrders=true:=by kernel_rfl
   gi_region_with_o (fail)
   all_goals gi_wp2
   all_goals
    obtain⟨q1,q2⟩:=FC (x:=x) hg Ad Z.o H5.o H6.o aK.o aL.o aM.o (by omega) (by omega) (by omega) _ _ rfl rfl;exact⟨_,_,run_endRound (some .ret) q1,.inr ⟨rfl,q2⟩⟩
  ·have n0:W2.cell? ⟨w.heap.size+1+1+1+1,0,none⟩=some (.int .i64 dm.length):=by rw[cell_of_heap HN.o];rfl
   have nf:W2.frozen? ⟨w.heap.size+1+1+1+1,0,none⟩=false:=ak HN.o;have cf:∀ i,W2.frozen? ⟨w.heap.size,i,none⟩=false:=fun i=>ak A.o
   have bo:=cf 0;have bp:=cf 1;have bq:=cf 2;have br:=cf 3;have d0:W2.cell? ⟨w.heap.size,0,none⟩=some (.pointer (some S)):=by rw[cell_of_heap A.o];rfl
   have d1:W2.cell? ⟨w.heap.size,1,none⟩=some (.int .i64 T):=by rw[cell_of_heap A.o];rfl
   have d2:W2.cell? ⟨w.heap.size,2,none⟩=some (.string (ba U)):=by rw[cell_of_heap A.o];rfl
   have d3:W2.cell? ⟨w.heap.size,3,none⟩=some (.slice V X Y):=by rw[cell_of_heap A.o];rfl
   have bs:w.heap.size<W2.heap.size:=lt_of_heap A.o;have il:w.heap.size+1+1+1+1<W2.heap.size:=lt_of_heap HN.o;obtain⟨ea,en,eb,bx⟩:=c2;obtain⟨eo,ej,ek,aW⟩:=aV;simp only at aW;subst aW;simp only[VC.val];have bi:(dm.length:Int)<=100000:=by omega
   obtain⟨t2,aX,aY⟩:=aa u2 ac
   have GA:1<=k':=by
    rcases k' with _|k'
    ·exact G.elim
    ·omega
   have bt:d.heap.size<W1.heap.size:=(Array.getElem?_eq_some_iff.1 f.o.df).1;have bu:=g.o.size
   gi_wp2
   obtain⟨q1,q2,q3⟩:=FD (K:=k) (k':=k' - 1) (sp:=w.heap.size+5+1) (sv:=w.heap.size+5) (ss:=w.heap.size+5+2) g1 g2 hg I ad aX aY (by omega) Z.o H5.o H6.o HN.o A.o aK.o aL.o aM.o (by omega) (by omega) (by omega) (by omega) (by omega) (by omega) _ rfl;refine⟨_,_,run_endRound none q1,.inl ⟨rfl,q2,a2.o.trans (lQ.trans ⟨g.o.block _ (by omega) (fun h=>h),g.o.block _ (by omega) (fun h=>h),g.o.block _ (by omega) (fun h=>h)⟩ q3)⟩⟩
 case fin =>
  rintro e W2 ⟨⟨vv,rfl⟩,hJ|⟨dm,ag,hK⟩⟩
  ·have hE:=run_endLoop (P:=Tryz.prog) hJ.lp (by rw[g1];simp);rw[g2] at hE;refine⟨none,_,hE,?_⟩;have B:Hi (PJ w v w.heap.size (d.heap.size+1) d.heap.size k { r with state:=.exhausted,pending:=none } (bP path.data.toList) (W2.putObj (d.heap.size+1) (.loop { r with state:=.exhausted,pending:=none }))):=hJ.put (by omega) (by omega) (by omega);generalize W2.putObj (d.heap.size+1) (.loop { r with state:=.exhausted,pending:=none })=W3 at *;obtain⟨u,⟨S,T,U,bf⟩,k',t',hg,E,⟨V,X,Y,F⟩,G,H,a,bg⟩:=B.o.gone;simp only at F;subst F
   have ai:Hi (g9 v (bP path.data.toList) 0=(some u,0)):=by
    show _=_
    have:=qk (bP path.data.toList) [] v u 0 hg
    rw[List.append_nil] at this;rw[this];rfl
   have d0:W3.cell? ⟨w.heap.size,0,none⟩=some (.pointer (some S)):=by rw[cell_of_heap a];rfl
   have d1:W3.cell? ⟨w.heap.size,1,none⟩=some (.int .i64 T):=by rw[cell_of_heap a];rfl
   have d2:W3.cell? ⟨w.heap.size,2,none⟩=some (.string (ba U)):=by rw[cell_of_heap a];rfl
   have d3:W3.cell? ⟨w.heap.size,3,none⟩=some (.slice V X Y):=by rw[cell_of_heap a];rfl
   have r0:W3.cell? ⟨w.heap.size+1,0,none⟩=some (.pointer none):=by rw[cell_of_heap B.o.r4];rfl
   have r1:W3.cell? ⟨w.heap.size+1,1,none⟩=some (.int .i64 0):=by rw[cell_of_heap B.o.r4];rfl
   have r2:W3.cell? ⟨w.heap.size+1,2,none⟩=some (.string ⟨#[]⟩):=by rw[cell_of_heap B.o.r4];rfl
   have r3:W3.cell? ⟨w.heap.size+1,3,none⟩=some (.slice none 0 0):=by rw[cell_of_heap B.o.r4];rfl
   have r5:W3.cell? ⟨w.heap.size+1+1,0,none⟩=some (.int .i64 0):=by rw[cell_of_heap B.o.r5];rfl
   have r6:W3.cell? ⟨w.heap.size+1+1+1,0,none⟩=some (.bool false):=by rw[cell_of_heap B.o.r6];rfl
   have rf:∀ i,W3.frozen? ⟨w.heap.size+1,i,none⟩=false:=fun i=>ak B.o.r4
   have aN:=rf 0;have aO:=rf 1;have aP:=rf 2;have aQ:=rf 3;have aR:W3.frozen? ⟨w.heap.size+1+1,0,none⟩=false:=ak B.o.r5;have aS:W3.frozen? ⟨w.heap.size+1+1+1,0,none⟩=false:=ak B.o.r6
   gi_wp2
   obtain⟨q1,q2,q3,q4,q5⟩:=Ds (x0:=.pointer (some S)) (x1:=.int .i64 T) (x2:=.string (ba U)) (x3:=.slice V X Y) (y:=.int .i64 0) (z:=.bool true) B.o.r4 B.o.r5 B.o.r6 B.o.df (by omega) B.o.fr _ rfl;have aj:=ab q1;have al:=ab q2;have am:=ab q3;have an:=ab q4;have ao:=ab q5;generalize (((((W3.setCell ⟨w.heap.size+1,0,none⟩ (.pointer (some S))).setCell ⟨w.heap.size+1,1,none⟩ (.int .i64 T)).setCell ⟨w.heap.size+1,2,none⟩ (.string (ba U))).setCell ⟨w.heap.size+1,3,none⟩ (.slice V X Y)).setCell ⟨w.heap.size+2,0,none⟩ (.int .i64 0)).setCell ⟨w.heap.size+3,0,none⟩ (.bool true)=W4 at *;refine⟨by simp,.inl ⟨_,_,rfl,run_takeDeferred aj.o,?_⟩⟩;have D:(W4.putObj d.heap.size (.deferred none)).heap[w.heap.size+1]?=_:=(World.putObj_heap_other (by omega)).trans al.o;have h2:(W4.putObj d.heap.size (.deferred none)).heap[w.heap.size+2]?=_:=(World.putObj_heap_other (by omega)).trans am.o;have h3:(W4.putObj d.heap.size (.deferred none)).heap[w.heap.size+3]?=_:=(World.putObj_heap_other (by omega)).trans an.o;have ap:=ab (ao.o.putObj (l:=d.heap.size) (by omega) (.deferred none));generalize W4.putObj d.heap.size (.deferred none)=W5 at *;have c0:=cell_of_heap (o:=0) D;have c1:=cell_of_heap (o:=1) D;have c2:=cell_of_heap (o:=2) D;have c3:=cell_of_heap (o:=3) D;have c4:W5.cell? ⟨w.heap.size+1+1,0,none⟩=_:=cell_of_heap (o:=0) h2;have c5:W5.cell? ⟨w.heap.size+1+1+1,0,none⟩=_:=cell_of_heap (o:=0) h3;refine⟨.tuple #[.agg #[.pointer (some S),.int .i64 T,.string (ba U),.slice V X Y],.int .i64 0,.bool true],?_,ap.o,.inl ⟨u,⟨S,T,U,.slice V X Y⟩,k',t',ai.o,rfl,E,⟨_,_,_,rfl⟩,G,H⟩⟩;rw[jb rfl]
   go_simp
   try rfl
  ·have hE:=run_endLoop (P:=Tryz.prog) hK.lp (by simp);refine⟨some .ret,_,hE,?_⟩;obtain⟨pr,x,u,aZ,hg,dH,h5⟩:=hK.gone
   have ai:Hi (g9 v (bP path.data.toList) 0=(none,pr.length)):=by
    obtain⟨m,hm⟩:=ag;show _=_;rw[<-hm,aZ,List.append_assoc,qk pr _ v u 0 hg];simp only[List.cons_append,List.nil_append,g9,dH];simp
   have aj:Hi ((W2.putObj (d.heap.size+1) (.loop { ({ r with state:=.done,pending:=some .ret }:Loop) with state:=.exhausted })).heap[d.heap.size]?=some (.deferred (some []))):=(World.putObj_heap_other (by omega)).trans hK.df;have al:Hi ((W2.putObj (d.heap.size+1) (.loop { ({ r with state:=.done,pending:=some .ret }:Loop) with state:=.exhausted })).heap[w.heap.size+1]?=_):=(World.putObj_heap_other (by omega)).trans hK.r4;have am:Hi ((W2.putObj (d.heap.size+1) (.loop { ({ r with state:=.done,pending:=some .ret }:Loop) with state:=.exhausted })).heap[w.heap.size+2]?=_):=(World.putObj_heap_other (by omega)).trans h5;have an:Hi ((W2.putObj (d.heap.size+1) (.loop { ({ r with state:=.done,pending:=some .ret }:Loop) with state:=.exhausted })).heap[w.heap.size+3]?=_):=(World.putObj_heap_other (by omega)).trans hK.r6;have ao:=ab (hK.fr.putObj (l:=d.heap.size+1) (by omega) (.loop { ({ r with state:=.done,pending:=some .ret }:Loop) with state:=.exhausted }));generalize W2.putObj (d.heap.size+1) (.loop { ({ r with state:=.done,pending:=some .ret }:Loop) with state:=.exhausted })=W4 at *;simp only
   gi_wp2
   refine⟨by simp,.inl ⟨_,_,rfl,run_takeDeferred aj.o,?_⟩⟩;have D:(W4.putObj d.heap.size (.deferred none)).heap[w.heap.size+1]?=_:=(World.putObj_heap_other (by omega)).trans al.o;have h2:(W4.putObj d.heap.size (.deferred none)).heap[w.heap.size+2]?=_:=(World.putObj_heap_other (by omega)).trans am.o;have h3:(W4.putObj d.heap.size (.deferred none)).heap[w.heap.size+3]?=_:=(World.putObj_heap_other (by omega)).trans an.o;have ap:=ab (ao.o.putObj (l:=d.heap.size) (by omega) (.deferred none));generalize W4.putObj d.heap.size (.deferred none)=W5 at *;have c0:=cell_of_heap (o:=0) D;have c1:=cell_of_heap (o:=1) D;have c2:=cell_of_heap (o:=2) D;have c3:=cell_of_heap (o:=3) D;have c4:W5.cell? ⟨w.heap.size+1+1,0,none⟩=_:=cell_of_heap (o:=0) h2;have c5:W5.cell? ⟨w.heap.size+1+1+1,0,none⟩=_:=cell_of_heap (o:=0) h3;refine⟨.tuple #[zeroV,.int .i64 pr.length,.bool false],?_,ap.o,.inr ⟨pr.length,ai.o,rfl⟩⟩;rw[jb rfl];unfold zeroV
   go_simp
   try rfl
theorem xN{st:Bs}:∀(l:List PV) (i:Nat),fg v st i l=some u->u∈l:=by
 intro l
 induction l with
 | nil=>intro i h;simp[fg] at h
 | cons x l ih =>
  intro i h;unfold fg at h
  split at h
  ·simp at h;simp[h]
  ·exact List.mem_cons_of_mem _ (ih _ h)
theorem Ef{f:PV->Bs}:∀ {l:List PV},u∈l->(f u).length<=(l.flatMap f).length:=by
 intro l
 induction l with
 | nil=>intro h;simp at h
 | cons x l ih =>
  intro h;rw[List.flatMap_cons,List.length_append];rcases List.mem_cons.1 h with rfl|h
  ·omega
  ·have:=ih h;omega
theorem DK{k:Nat}{t:PT}(hV:Valid (k+1) t v)(hu:u∈v.parts):(aG k u).length<=(aG (k+1) v).length:=by
 have a:v.parts≠[]:=fun e=>by rw[e] at hu;simp at hu
 obtain⟨b,h⟩:=hV;have c:=Ef (f:=aG k) hu;simp only[aG];rw[b]
 split at h
 ·exact absurd h.2.1 a
 split at h
 ·exact absurd h.2.1 a
 split at h
 ·exact absurd h.2.1 a
 split at h
 ·exact absurd h.2.1 a
 split at h
 ·exact absurd h.2.1 a
 rw[if_neg (by assumption),if_neg (by assumption),if_neg (by assumption),if_neg (by omega)]
 split
 ·rw[List.length_append];omega
 split
 ·exact c
 ·rw[List.length_cons];omega
theorem zs:∀(l:List Bs) (k:Nat) (t:PT) (v u:PV),c8 k t->Valid k t v->eM v l=some u->l.length<k/\∃ t',c8 (k-l.length) t'/\Valid (k-l.length) t' u/\(aG (k-l.length) u).length<=(aG k v).length:=by
 intro l
 induction l with
 | nil =>
  intro k t v u a d h;simp[eM] at h;subst h;rcases k with _|k
  ·exact a.elim
  ·exact⟨by simp,t,a,d,Nat.le_refl _⟩
 | cons st l ih =>
  intro k t v u a d h;simp only[eM] at h;rcases hb:c7 v st with _|x
  ·rw[hb] at h;simp at h
  ·rw[hb] at h;simp only[Option.bind_some] at h;rcases k with _|k
   ·exact a.elim
   have e:x∈v.parts:=xN _ _ hb;obtain⟨t',b,c⟩:=(d.EW a).2.2 x e;simp only[Nat.add_sub_cancel] at b c;obtain⟨j,f,g,i,m⟩:=ih k t' x u b c h
   have:=DK d e
   rw[List.length_cons,show k+1-(l.length+1)=k-l.length by omega];exact⟨by omega,f,g,i,by omega⟩
theorem yL:∀(l:List Bs) (v u:PV) (n m:Nat),g9 v l n=(some u,m)->eM v l=some u:=by
 intro l
 induction l with
 | nil=>intro v u n m h;simp[g9] at h;simp[eM,h.1]
 | cons st l ih =>
  intro v u n m h;simp only[g9] at h;simp only[eM];rcases hb:c7 v st with _|x
  ·rw[hb] at h;simp at h
  ·rw[hb] at h;simp only[Option.bind_some];exact ih x u (n+1) m h
def iR(v:PV)(path:ByteArray):ByteArray×Nat×Nat :=
 if path=⟨#[]⟩ then(ba (aw 12 v),0,0) else match g9 v (bP path.data.toList) 0 with
  |(some u,_)=>(ba (aw (12-(bP path.data.toList).length) u),0,0)
  |(none,n)=>(⟨#[]⟩,7,n)
def rX(data path:ByteArray)(r:Option PV×Bs):ByteArray×Nat×Nat :=
 match r with
 |(some v,[])=>iR v path
 |(_,r')=>(⟨#[]⟩,6,pos data r')
def kg(t:PT)(data path:ByteArray):ByteArray×Nat×Nat:=if data.size<=1000 then rX data path (aS 12 t data.data.toList) else(⟨#[]⟩,1,0)
theorem Aj{data path:ByteArray}{r:Option PV×Bs}(h:¬∃ v,r=(some v,[])):rX data path r=(⟨#[]⟩,6,pos data r.2):=by
 unfold rX;rcases r with⟨_|v,_|⟨b,l⟩⟩
 ·rfl
 ·rfl
 ·exact absurd ⟨v,rfl⟩ h
 ·rfl
theorem BV(w:World)(a:Addr)(t:PT)(data path:ByteArray)(cF:path≠⟨#[]⟩)(Ac:ey w)(ht:TR w Zero a t)(hW:c8 12 t)(hd:data.size<=maxLen)(jq:path.size<=9223372036854775807):
  Calls Tryz.prog 51 #[.pointer (some a),.string data,.string path] w fun e w'=>jM w (kg t data path) e w':=by
 go_enter Tryz.func51,Tryz.ntmps51
 by_cases dJ:data.size<=1000
 ·have b:Hi (kg t data path=rX data path (aS 12 t data.data.toList)):=ab (by unfold kg;rw[if_pos dJ]);have g:=ab dJ;go_wp2_with fail;refine(jH _ a t data ht hW g).mono ?_;rcases hq:aS 12 t data.data.toList with⟨q,r⟩;rw[hq] at b;rintro e V ⟨ao,R⟩;have c:=ab ao;rcases R with⟨v,⟨W,X,Y,Z⟩,h,⟨o,n,k,A⟩,rfl,d⟩|⟨dH,rfl⟩
  ·simp only at A;subst A;simp only[Prod.mk.injEq] at h;obtain⟨rfl,rfl⟩:=h;obtain⟨l,B⟩:=jc 12 t _ _ _ hW hq
   have z:(aG 12 v).length=data.size:=by
    have:=congrArg List.length B
    rw[Array.length_toList,List.length_append] at this;simp at this;exact this.symm
   have Q:Hi (kg t data path=iR v path):=b;simp only[VC.val];go_wp2_with fail;refine(Dr _ ⟨W,X,Y,.slice o n k⟩ v 12 t (d.ae (Fr.alloc _ _ _)) ⟨_,_,_,rfl⟩ hW l (Ac.drawn (c.o.trans (Fr.alloc _ _ _))) (by omega) path cF jq).mono ?_;rintro e w3 ⟨i,M⟩;have s:=ab (c.o.trans ((Fr.alloc _ _ _).trans i));rcases M with⟨u,⟨ea,en,eb,aa⟩,k',t',h,rfl,d,⟨eo,ej,ek,C⟩,_,_⟩|⟨m,h,rfl⟩
   ·simp only at C;subst C;obtain⟨N,S,x,y,rV⟩:=zs _ 12 t v u hW l (yL _ _ _ _ _ h);have aX:=(ng _ S u x y).2;have G:Hi (iR v path=(ba (aw (12-(bP path.data.toList).length) u),0,0)):=ab (by unfold iR;rw[if_neg cF,h]);have H:=ab (d.ae i)
    have I:Hi ((aw (12-(bP path.data.toList).length) u).length+1000<=140737488355328):=by
     show _<=_;have h1:=g.o;have R:=z;have h3:500*(12-(bP path.data.toList).length)*(aG (12-(bP path.data.toList).length) u).length<=6000*1000:=Nat.mul_le_mul (by omega) (by omega);omega
    simp only[VC.val];go_wp2_with fail;refine(vC (k:=12-(bP path.data.toList).length) (t:=S) _ ⟨ea,en,eb,.slice eo ej ek⟩ u (Ac.drawn (s.o.trans (Fr.alloc _ _ _))) (H.o.ae (Fr.alloc _ _ _)) x y I ⟨_,_,_,rfl⟩).mono ?_;rintro e w4 ⟨D,rfl⟩;have L:=ab (s.o.trans ((Fr.alloc _ _ _).trans D));go_wp2_with fail;go_ret3;rw[Q.o,G.o];exact⟨L,rfl⟩
   ·have G:Hi (iR v path=(⟨#[]⟩,7,m)):=ab (by unfold iR;rw[if_neg cF,h]);unfold zeroV;go_wp2_with fail;go_ret3;rw[Q.o,G.o];exact⟨s.o.trans (Fr.alloc _ _ _),rfl⟩
  ·have U:=ab (Aj (data:=data) (path:=path) dH);go_wp2_with fail;go_ret3;rw[b.o,U.o];exact⟨c.o.trans (Fr.alloc _ _ _),rfl⟩
 ·have b:Hi (kg t data path=(⟨#[]⟩,1,0)):=ab (by unfold kg;rw[if_neg dJ]);have g:Hi (1000<data.size):=by show _<_;omega
  go_wp2_with fail;refine(kh _ a data hd g).mono ?_;rintro e V ⟨(c:Hi _),rfl⟩;go_wp2_with fail;go_ret3;rw[b.o];exact⟨c.o.trans (Fr.alloc _ _ _),rfl⟩
theorem qH(t:PT)(data:ByteArray):kg t data ⟨#[]⟩=uJ t data:=by
 unfold kg uJ rX B7 iR
 split
 ·rcases aS 12 t data.data.toList with⟨_|v,_|⟨b,l⟩⟩<;>rfl
 ·rfl
theorem Ed(w:World)(a:Addr)(t:PT)(data path:ByteArray)(Ac:ey w)(ht:TR w Zero a t)(hW:c8 12 t)(hd:data.size<=maxLen)(jq:path.size<=maxLen):
  Calls Tryz.prog 51 #[.pointer (some a),.string data,.string path] w fun e w'=>jM w (kg t data path) e w':=by
 by_cases h:path=⟨#[]⟩
 ·subst h;rw[qH];exact zt w a t data Ac ht hW hd
 ·exact BV w a t data path h Ac ht hW hd jq
end Go.Proofs.YtpffifpbpmlhdaaGreatDoor
