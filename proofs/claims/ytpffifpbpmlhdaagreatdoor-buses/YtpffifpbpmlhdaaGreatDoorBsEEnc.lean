import Derived.Test.YtpffifpbpmlhdaaGreatDoorBsVFromM
import Derived.Test.YtpffifpbpmlhdaaGreatDoorBsEList
set_option maxHeartbeats 32000000
set_option maxRecDepth 100000
namespace Go.Proofs.YtpffifpbpmlhdaaGreatDoor
open Go.RowKit
variable {ws:List Bs}{got r l:Bs}{k i B mb db ext x:Nat}{t:PT}{w w':World}{s:ByteArray}{tab:List RT}{roots:List Nat}{e:Ending}
def ki(ws:List Bs)(got:Bs):Nat->Int
 | 0=>-1
 | i+1=>if ws[i]?=some got then i else ki ws got i
def yH(got:Bs)(c:Nat)(x:Bs):Bool:=got.isPrefixOf x&&decide ((x[got.length]?).map UInt8.toNat=some c)
def lE(ws:List Bs)(got:Bs)(c:Nat):Nat->Bool
 | 0=>false
 | i+1=>lE ws got c i||(match ws[i]? with|some x=>yH got c x|none=>false)
theorem BW:∀(i:Nat),0<=ki ws got i->∃ j:Nat,j<i/\ki ws got i=j/\ws[j]?=some got:=by
 intro i
 induction i with
 | zero=>intro h;simp[ki] at h
 | succ i ih =>
  intro h;simp only[ki] at h ⊢
  by_cases e:ws[i]?=some got
  ·exact⟨i,by omega,by rw[if_pos e],e⟩
  ·rw[if_neg e] at h ⊢;obtain⟨j,c,a,b⟩:=ih h;exact⟨j,by omega,a,b⟩
theorem BZ:∀(i:Nat),ki ws got i<0->ki ws got i=-1/\∀ j,j<i->ws[j]?≠some got:=by
 intro i
 induction i with
 | zero=>intro _;exact⟨rfl,fun j h=>by omega⟩
 | succ i ih =>
  intro h;simp only[ki] at h ⊢
  by_cases e:ws[i]?=some got
  ·rw[if_pos e] at h;omega
  ·rw[if_neg e] at h ⊢;obtain⟨a,b⟩:=ih h;refine⟨a,fun j hj=>?_⟩;rcases Nat.lt_or_ge j i with q|q
   ·exact b j q
   ·rw[show j=i by omega];exact e
theorem FY(ws:List Bs)(got:Bs):∀(i:Nat),-1<=ki ws got i/\ki ws got i<=(i:Int)-1:=by
 intro i
 induction i with
 | zero=>simp[ki]
 | succ i ih =>
  simp only[ki]
  split<;>omega
theorem Eh(hp:pE ws){j:Nat}(h:ws[j]?=some got):ws.findIdx? (fun x=>x==got)=some j:=by
 have:=yA ws hp [] got [] j (by simpa using h)
 simp only[List.nil_append,cK] at this;exact(Prod.mk.inj this).1
theorem FZ(h:∀ j,j<ws.length->ws[j]?≠some got):ws.findIdx? (fun x=>x==got)=none:=by
 rw[List.findIdx?_eq_none_iff];intro x b;obtain⟨j,a,e⟩:=List.mem_iff_getElem.1 b
 have:=h j a
 rw[List.getElem?_eq_getElem a,e] at this;simp only[ne_eq,Option.some.injEq] at this;simpa using this
theorem xu{c:Nat}:∀(i:Nat),lE ws got c i=true↔∃ j x,j<i/\ws[j]?=some x/\yH got c x=true:=by
 intro i
 induction i with
 | zero=>simp[lE]
 | succ i ih =>
  simp only[lE,Bool.or_eq_true,ih];constructor
  ·rintro(⟨j,x,d,a,b⟩|h)
   ·exact⟨j,x,by omega,a,b⟩
   ·rcases hq:ws[i]? with _|x
    ·rw[hq] at h;simp at h
    ·rw[hq] at h;exact⟨i,x,by omega,hq,h⟩
  ·rintro⟨j,x,d,a,b⟩
   rcases Nat.lt_or_ge j i with q|q
   ·exact .inl ⟨j,x,q,a,b⟩
   ·right;rw[show i=j by omega,a];exact b
theorem wk(got x:Bs)(b:UInt8):yH got b.toNat x=(got++[b]).isPrefixOf x:=by
 rw[Bool.eq_iff_iff];simp only[yH,Bool.and_eq_true,List.isPrefixOf_iff_prefix,decide_eq_true_eq];constructor
 ·rintro⟨⟨y,rfl⟩,h⟩
  rcases y with _|⟨d,y⟩
  ·simp at h
  ·have:d=b:=by
    have a:d.toNat=b.toNat:=by simpa using h
    exact UInt8.toNat_inj.1 a
   subst this;exact⟨y,by simp⟩
 ·rintro⟨y,rfl⟩
  refine⟨⟨b::y,by simp⟩,by simp⟩
theorem xw{b:UInt8}:lE ws got b.toNat ws.length=ws.any (fun x=>(got++[b]).isPrefixOf x):=by
 rw[Bool.eq_iff_iff,xu,List.any_eq_true];constructor
 ·rintro⟨j,x,g,c,d⟩
  exact⟨x,List.mem_of_getElem? c,by rw[<-wk];exact d⟩
 ·rintro⟨x,f,h⟩
  obtain⟨j,a,e⟩:=List.mem_iff_getElem.1 f;exact⟨j,x,a,by rw[List.getElem?_eq_getElem a,e],by rw[wk];exact h⟩
theorem Ec(hz:∀ x∈ws,∀ b∈x,0<b.toNat)(i:Nat):lE ws got 0 i=false:=by
 rcases hq:lE ws got 0 i with _|_
 ·rfl
 ·obtain⟨j,x,_,c,a⟩:=(xu i).1 hq;simp only[yH,Bool.and_eq_true,decide_eq_true_eq] at a;rcases hb:x[got.length]? with _|b
  ·rw[hb] at a;simp at a
  ·rw[hb] at a
   have:=hz x (List.mem_of_getElem? c) b (List.mem_of_getElem? hb)
   have d:b.toNat=0:=by simpa using a.2
   omega
theorem DE(hW:c8 (k+1) t)(hk:9<=t.kind):∀ x∈t.names.map bU,∀ b∈x,0<b.toNat:=by
 intro x a b c;obtain⟨n,d,rfl⟩:=List.mem_map.1 a;rcases List.mem_append.1 c with h|h
 ·have:=(hW.2.2.2.2.2.2 hk).2 n d b h;omega
 ·simp at h;subst h;decide
theorem FI(hi:i<t.names.length):(t.names.map bU)[i]?=some (t.name i++[58]):=by
 rw[List.getElem?_map,List.getElem?_eq_getElem hi];simp[bU,PT.name,hi]
theorem Fy{b:UInt8}(h:ws.findIdx? (fun x=>x==got)=none)(hg:lE ws got b.toNat ws.length=true):cK ws got (b::r)=cK ws (got++[b]) r:=by
 rw[xw] at hg;simp only[cK,h];rw[if_pos hg]
theorem Fx(h:ws.findIdx? (fun x=>x==got)=none)(hg:lE ws got (hd r) ws.length=false):cK ws got r=(none,r):=by
 rcases r with _|⟨b,r⟩
 ·simp only[cK,h]
 ·simp only[hd] at hg;rw[xw] at hg;simp only[cK,h];rw[if_neg (by rw[hg];decide)]
theorem Di{j:Nat}(h:ws.findIdx? (fun x=>x==got)=some j):cK ws got r=(some j,r):=by
 rcases r with _|⟨b,r⟩<;>simp only[cK,h]
theorem MS.eh{bad:Bool}{aF:Bs}(h:MS w B mb db s l bad aF){rb:Nat}{cs:Array Value}{fz:Nat×Nat}(hb:w.heap[rb]?=some (.cells cs 183 fz)):¬MX w mb rb:=by
 obtain⟨c,a,_,b⟩:=h;intro e;rcases MX.of a e with e|e
 ·subst e
  have:=a.block
  rw[hb] at this;simp at this
 ·exact b.ne hb (by decide) e
theorem gD.below{bad:Bool}{aF:Bs}(hk:MS w B mb db s l bad aF)(hf:gD mb w w'){a:Addr}{v:Value}(ha:a.block<B)(h:w.cell? a=some v):w'.cell? a=some v:=by
 rw[hf.fr.cell (World.block_lt_of_cell? w _ h) (fun e=>by have:=hk.from e;omega)];exact h
theorem T9.nZ{rb kd go co:Nat}{row:RT}{nv av:Value}(h:T9 w B rb row kd go co nv av){bad:Bool}{aF:Bs}(hk:MS w B mb db s l bad aF)(hf:gD mb w w'):T9 w' B rb row kd go co nv av :=
 ⟨hf.fr.ae h.blk (hk.eh h.blk),fun i hi=>gD.below hk hf h.lt (h.of i hi),h.lt⟩
theorem N9.nZ{gn:Nat}(h:N9 w B gn t){bad:Bool}{aF:Bs}(hk:MS w B mb db s l bad aF)(hf:gD mb w w'):N9 w' B gn t :=
 ⟨fun i hi=>gD.below hk hf h.lt (h.nm i hi),h.lt⟩
theorem xd{aF:Bs}(hV:qS k)(h:qY w B mb db s l aF tab roots){row:RT}{go co gn cn:Nat}{pa:Option Addr}{na qa:Nat}(hk:t.kind=10)(hW:c8 (k+1) t)(aE:ER tab row t)
  (hof:∀ i,i<row.of.length->w.cell? ⟨go,i,none⟩=some (.int .i64 (aj row.of i:Nat))) (hgo:go<B) (hN:N9 w B gn t) (hr:aF.length+8*l.length+600*(k+1)<=800000000) :
  Calls Tryz.prog 96 #[.pointer (some ⟨mb,0,none⟩),.agg #[.int .i64 10,.slice (some ⟨go,0,none⟩) row.of.length co,.slice (some ⟨gn,0,none⟩) t.names.length cn,.slice pa na qa]] w fun e w'=>EPost mb B db s aF (8*l.length+600*(k+1)) w l (gZ (ay k) t l) (fun p=>UInt8.ofNat p.1::aG k p.2) e w':=by
 have S:=ab h;obtain⟨ov,D⟩:=h.ms.block;have aD:=D.lt;have g2:=D.fM;have hs:s.size<=1048576:=h.hs;have aH:s.size<=maxLen:=by unfold maxLen;omega
 have aJ:=ab aH;have aX:=D.len;have aK:=ab hV;have HW:=ab hW;have T:=ab aE;have il:t.names.length<=6:=by rw[hW.2.1];exact hW.2.2.2.2.2.1.1
 have aL:=ab (hW.names (by omega));have m:=ab (DE hW (by omega))
 have aM:Hi (∀ i,(t.name i).length<=400):=fun i=>by
  unfold PT.name;rcases hq:t.names[i]? with _|n
  ·simp
  ·have:=hW.2.2.2.2.2.1.2 n (List.mem_of_getElem? hq)
   simpa using this
 have aN:Hi (T9 (w.alloc (.cells #[.int .i64 10,.slice (some ⟨go,0,none⟩) row.of.length co,.slice (some ⟨gn,0,none⟩) t.names.length cn,.slice pa na qa] 183)) B w.heap.size row 10 go co (.slice (some ⟨gn,0,none⟩) t.names.length cn) (.slice pa na qa)) :=
  ⟨af rfl _,fun i hi=>by rw[(Fr.alloc Zero w _).cell (World.block_lt_of_cell? w _ (hof i hi)) (fun h=>h)];exact hof i hi,hgo⟩
 have aO:=ab (hN.quiet (Fr.alloc Zero w (.cells #[.int .i64 10,.slice (some ⟨go,0,none⟩) row.of.length co,.slice (some ⟨gn,0,none⟩) t.names.length cn,.slice pa na qa] 183)));have U:Hi (Fr Zero w (w.alloc (.cells #[.int .i64 10,.slice (some ⟨go,0,none⟩) row.of.length co,.slice (some ⟨gn,0,none⟩) t.names.length cn,.slice pa na qa] 183))):=Fr.alloc _ _ _;have V:=ab (h.ms.quiet U.o);have C:row.of.length=t.names.length:=by rw[aE.len,hW.2.1]
 have X:=ab C;have bm:=D.gj;clear h hV hW aE hof hN D C;go_enter Tryz.func96,Tryz.ntmps96;go_wp2_with fail
 go_loopw [] (fun wr=>∃(got r:Bs),l=got++r/\Hi (cK (t.names.map bU) [] l=cK (t.names.map bU) got r)/\Hi (MS wr B mb db s r false aF)/\Hi (gD mb w wr)/\Hi (T9 wr B w.heap.size row 10 go co (.slice (some ⟨gn,0,none⟩) t.names.length cn) (.slice pa na qa))/\Hi (N9 wr B gn t)) (fun wr=>s.size+1-mP mb wr)
 case atStart=>exact⟨[],l,rfl,rfl,V,gD.quiet U.o aD,aN,aO⟩
 case round =>
  obtain⟨got,r,BS,Q,al,am,an,bh⟩:=hrel;generalize wr=wo at *;have aP:=ab BS;obtain⟨ov,D⟩:=al.o.block;have HB:=ab D;have g4:=D.gS;have hh:=nL r;have aQ:=congrArg List.length BS;rw[List.length_append] at aQ;have bn:((pos s r:Nat):Int)-((pos s l:Nat):Int)=((got.length:Nat):Int):=by simp only[pos];omega
  have jq:pos s l<=pos s r:=by simp only[pos];omega
  have aR:pos s r<=s.size:=D.gj
  have aS:Hi (s.extract (pos s l) (pos s r)=ba got):=by
   refine pL jq ?_ aR;have e1:=D.tail;have e2:=V.o;obtain⟨ao,bi⟩:=e2.block;rw[e1,bi.tail,BS]
  have c2:=an.o.fM;have aT:Hi ((t.names.map bU).length=t.names.length):=ab (by simp);clear D BS;go_wp2_with fail
  go_loopw [5,6,7] (fun fv gv iv wr2=>∃ i:Nat,i<=t.names.length/\fv=.int .i64 (ki (t.names.map bU) got i)/\gv=.bool (lE (t.names.map bU) got (hd r) i)/\iv=.int .i64 i/\Hi (Fr Zero wo wr2)) (fun _ _ iv _=>t.names.length-(intOf iv).toNat)
  case atStart=>exact⟨0,by omega,rfl,rfl,rfl,Fr.refl _ _⟩
  case round =>
   obtain⟨i,hi,rfl,rfl,rfl,a⟩:=hrel;clear c2 g4;have q:=ab (al.o.quiet a.o);have d:=ab (HB.o.ae a.o (fun h=>h));have J:=ab (an.o.quiet a.o);have Y:=ab (bh.o.quiet a.o);have c2:=J.o.fM;have Z:=FY (t.names.map bU) got i
   by_cases H:i<t.names.length
   ·have hI:(i:Int)<(t.names.length:Int):=by omega
    have c3:=Y.o.nm i H;have g1:=d.o.cE;have g2:=d.o.fM;have hx:=FI H;have bo:=aM.o i;have z0:=aI (t.name i);have bp:ba (t.name i)++⟨#[58]⟩=ba (t.name i++[58]):=bD (t.name i) [58];have z1:=aI (t.name i++[58]);simp only[List.length_append,List.length_cons,List.length_nil] at z1;replace z1:(ba (t.name i++[58])).size=(t.name i).length+1:=z1;have n0:¬(9223372036854775807<(t.name i).length+1):=by omega
    generalize aU:t.name i=nm at *;clear aU;have bq:=aS.o;have HX:=ab hx
    have K:Hi (∀(f':Int) (g':Bool),(if(nm++[58])=got then(i:Int) else ki (t.names.map bU) got i)=f'->(lE (t.names.map bU) got (hd r) i||yH got (hd r) (nm++[58]))=g'->ki (t.names.map bU) got (i+1)=f'/\lE (t.names.map bU) got (hd r) (i+1)=g'):=fun f' g' f A=>by
     refine⟨?_,?_⟩
     ·rw[<-f];simp only[ki,HX.o,Option.some.injEq]
     ·rw[<-A];simp only[lE,HX.o]
    have u:Hi (∀(W:World) (f':Int) (g':Bool),Fr Zero wo W->(if(nm++[58])=got then(i:Int) else ki (t.names.map bU) got i)=f'->(lE (t.names.map bU) got (hd r) i||yH got (hd r) (nm++[58]))=g'->∃ i':Nat,i'<=t.names.length/\Value.int .i64 f'=.int .i64 (ki (t.names.map bU) got i')/\Value.bool g'=.bool (lE (t.names.map bU) got (hd r) i')/\Value.int .i64 ((i:Int)+1)=.int .i64 i'/\Hi (Fr Zero wo W)):=fun W f' g' hf f A=>by
     obtain⟨r1,r2⟩:=K.o f' g' f A;exact⟨i+1,by omega,by rw[r1],by rw[r2],by go_num,hf⟩
    clear hx;generalize xr:ki (t.names.map bU) got i=F0 at *;generalize aV:lE (t.names.map bU) got (hd r) i=G0 at *;clear xr aV
    by_cases hA:nm.length+1<got.length
    ·have br:((nm.length:Nat):Int)+1<((got.length:Nat):Int):=by omega
     have m:Hi (yH got (hd r) (nm++[58])=false/\nm++[58]≠got):=by
      refine⟨?_,fun e=>?_⟩
      ·unfold yH
       have:got.isPrefixOf (nm++[58])=false:=by
        rcases hq:got.isPrefixOf (nm++[58]) with _|_
        ·rfl
        ·have:=(List.isPrefixOf_iff_prefix.1 hq).length_le
         simp at this;omega
       rw[this];rfl
      ·have:=congrArg List.length e
       simp at this;omega
     go_wp2_with fail
     go_quiet (fail)
     go_wp2_with fail
     go_roundw
     case rel=>exact u.o _ _ _ (a.o.trans (Fr.drewN _ _ _)) (if_neg m.o.2) (by rw[m.o.1,Bool.or_false])
     case measure=>simp[intOf];omega
    ·have bs:decide (((nm.length:Nat):Int)+1<((got.length:Nat):Int))=false:=decide_eq_false (by omega);have bk:decide (nm.length+1<got.length)=false:=decide_eq_false (by omega);have L:=nB (nm++[58]) got (by simp;omega);rw[<-fJ] at L;rcases hpre:got.isPrefixOf (nm++[58]) with _|_
     ·have m:Hi (yH got (hd r) (nm++[58])=false/\nm++[58]≠got):=by
       refine⟨by unfold yH;rw[hpre];rfl,fun e=>?_⟩;rw[e] at hpre
       have:got.isPrefixOf got=true:=List.isPrefixOf_iff_prefix.2 (List.prefix_refl _)
       rw[this] at hpre;simp at hpre
      rw[hpre] at L;clear hpre;go_wp2_with fail
      go_quiet (fail)
      go_wp2_with fail
      go_roundw
      case rel=>exact u.o _ _ _ (a.o.trans (Fr.drewN _ _ _)) (if_neg m.o.2) (by rw[m.o.1,Bool.or_false])
      case measure=>simp[intOf];omega
     ·rw[hpre] at L;have I:=ab hpre;clear hpre
      by_cases hL:nm.length+1=got.length
      ·have aa:Hi (nm++[58]=got):=by
        obtain⟨y,hy⟩:=List.isPrefixOf_iff_prefix.1 I.o
        have:=congrArg List.length hy
        simp at this;have aW:y=[]:=List.eq_nil_of_length_eq_zero (by omega);rw[aW] at hy;show _=_;simpa using hy.symm
       have x:Hi (yH got (hd r) (nm++[58])=false):=by
        show _=_;rw[aa.o];unfold yH;simp
       have bt:((nm.length:Nat):Int)+1=((got.length:Nat):Int):=by omega
       go_wp2_with fail
       go_quiet (fail)
       go_wp2_with fail
       go_roundw
       case rel=>exact u.o _ _ _ (a.o.trans (Fr.drewN _ _ _)) (if_pos aa.o) (by rw[x.o,Bool.or_false])
       case measure=>simp[intOf];omega
      ·have bu:((((nm.length:Nat):Int)+1)==((got.length:Nat):Int))=false:=beq_eq_false_iff_ne.2 (by omega)
       have M:Hi (nm++[58]≠got):=fun e=>by
        have:=congrArg List.length e
        simp at this;omega
       obtain⟨c,hc⟩:∃ c,(nm++[58])[got.length]?=some c:=⟨(nm++[58])[got.length]'(by simp;omega),by simp⟩;obtain⟨hj,bC⟩:=lI hc;have bv:=c.toNat_lt
       have x:Hi (yH got (hd r) (nm++[58])=decide (c.toNat=hd r)):=by
        show _=_;unfold yH;rw[I.o,hc];simp
       have aY:((got.length:Nat):Int)<((nm.length:Nat):Int)+1:=by omega
       clear hc;go_wp2_with fail
       go_quiet (fail)
       go_wp2_with fail;have aZ:=ab (d.o.ae (Fr.drewN Zero wr nq) (fun h=>h));have a0:=ab (a.o.trans (Fr.drewN Zero wr nq));generalize wr.drewN nq=w3 at *;refine(dj aZ.o aJ.o).mono ?_;rintro e w4 ⟨rfl,n4,e4⟩;obtain rfl:=e4.symm;have N:=ab (a0.o.trans (Fr.drewN Zero w3 n4));generalize w3.drewN n4=w4 at *;simp only[Bool.false_eq_true,if_false];cases G0 with
       | true =>
        go_wp2_with fail
        go_roundw
        case rel=>exact u.o _ _ _ N.o (if_neg M.o) (by rw[Bool.true_or])
        case measure=>simp[intOf];omega
       | false =>
        have bw:(((c.toNat:Nat):Int)==((hd r:Nat):Int))=decide (c.toNat=hd r):=by
         rw[Bool.eq_iff_iff];simp;omega
        by_cases F:c.toNat=hd r
        ·rw[decide_eq_true F] at x;have hq:(((c.toNat:Nat):Int)==((hd r:Nat):Int))=true:=beq_iff_eq.2 (by omega);go_wp2_with fail
         go_roundw
         case rel =>
          have:=u.o _ _ _ N.o (if_neg M.o) (by rw[x.o,Bool.false_or])
          first|exact this|simpa[F] using this
         case measure=>simp[intOf];omega
        ·rw[decide_eq_false F] at x;have hq:(((c.toNat:Nat):Int)==((hd r:Nat):Int))=false:=beq_eq_false_iff_ne.2 (by omega);go_wp2_with fail
         go_roundw
         case rel =>
          have:=u.o _ _ _ N.o (if_neg M.o) (by rw[x.o,Bool.false_or])
          first|exact this|simpa[F] using this
         case measure=>simp[intOf];omega
   ·have GB:i=t.names.length:=by omega
    subst GB;have hI:¬(t.names.length:Int)<(t.names.length:Int):=by omega
    have ac:(t.names.map bU).length=t.names.length:=aT.o;have a1:B<=wr.heap.size:=Nat.le_trans (Nat.le_trans S.o.hB am.o.fr.size) a.o.size;have O:=ab (am.o.trans (gD.quiet a.o HB.o.lt))
    by_cases hf:0<=ki (t.names.map bU) got t.names.length
    ·obtain⟨j,hj,ap,aq⟩:=BW _ hf
     have z:Hi (gZ (ay k) t l=((ay k (t.sub j) r).1.map (fun v=>(j,v)),(ay k (t.sub j) r).2)):=by
      show _=_;unfold gZ;rw[Q.o,Di (Eh aL.o aq)]
     rw[ap];have aY:(0:Int)<=(j:Int):=by omega
     have a2:Hi ((j:Int)=((UInt8.ofNat j).toNat:Int)):=ab (by rw[toNat_ofNat (by omega)]);clear hf ap aq Z;go_wp2_with fail;refine(jh q.o a1 _ (UInt8.ofNat j) a2.o (by omega)).mono ?_;rintro e w5 ⟨R,ar,rfl⟩;have ad:=ab (J.o.nZ q.o R);have P:=ab (O.o.trans R);have a3:=ab ar;have d1:=ad.o.lg X.o;have d2:=ad.o.of j (by rw[X.o];exact hj);have a4:Hi (DF w5 B db tab roots):=S.o.df.ae (S.o.ms.mH P.o);have a5:Hi (qY w5 B mb db s r (aF++[UInt8.ofNat j]) tab roots):=⟨a3.o,a4.o,S.o.hs,S.o.tl,Nat.le_trans S.o.hB P.o.fr.size⟩;have a6:=ab (T.o.sub j (by rw[<-HW.o.2.1];exact hj));have a7:=ab (HW.o.sub (i:=j) (by rw[<-HW.o.2.1];exact hj));have bx:(j:Int)<(t.names.length:Int):=by omega
     clear R ar c2;go_wp2_with fail;refine(aK.o w5 B mb db s r (aF++[UInt8.ofNat j]) tab roots _ (t.sub j) a5.o a6.o a7.o (by simp only[List.length_append,List.length_cons,List.length_nil];omega)).mono ?_;rintro e w6 ⟨au,r6,av,aw,ax,rfl,az,bl,aA,E⟩;have a8:=ab (P.o.trans au);have a9:=ab ax;have bb:=ab az;have bc:=ab aA;have ag:=ab E;clear au ax az aA E;go_wp2_with fail;refine bodyPost_ret (v:=.tuple #[]) (by simp[results,Tryz.results96,go_sem]) rfl ?_;refine⟨a8,r6,av,aw,a9,rfl,by rw[z.o];exact bb.o,by omega,fun h=>?_,fun h=>?_⟩
     ·obtain⟨v,f,A⟩:=bc.o h;exact⟨(j,v),by rw[z.o];simp[f],by rw[A];simp⟩
     ·obtain⟨f,A⟩:=ag.o h;refine⟨?_,by simp only[List.length_append,List.length_cons,List.length_nil] at A;omega⟩;rcases f with f|f
      ·left;rw[z.o];simp[f]
      ·exact .inr f
    ·obtain⟨aB,dH⟩:=BZ (ws:=t.names.map bU) (got:=got) t.names.length (by omega);have ah:=ab (FZ (ws:=t.names.map bU) (got:=got) (fun j hj=>dH j (by omega)));rw[aB];have b4:=d.o.gS;have bz:=d.o.free 4;clear hf aB dH Z;rcases hgo:lE (t.names.map bU) got (hd r) t.names.length with _|_
     ·have z:Hi (gZ (ay k) t l=(none,r)):=by
       show _=_;unfold gZ;rw[Q.o,Fx ah.o (by rw[ac];exact hgo)]
      obtain⟨ao,f,A,q3⟩:=q.o;have g:=ab (MS.oL f A q3 (f.mark true) (Fr.setCell (One mb) _ _ _ rfl));clear f A q3 hgo;go_wp2_with fail;refine bodyPost_ret (v:=.tuple #[]) (by simp[results,Tryz.results96,go_sem]) rfl ?_;exact⟨O.o.trans g.o.2,r,true,aF,g.o.1,rfl,by rw[z.o],by omega,fun h=>by simp at h,fun _=>⟨.inl (by rw[z.o]),by omega⟩⟩
     ·obtain⟨b,G,rfl⟩:∃ b G,r=b::G:=by
       rcases r with _|⟨b,G⟩
       ·have:hd []=0:=rfl
        rw[this,Ec m.o] at hgo;simp at hgo
       ·exact⟨b,G,rfl⟩
      have bd:Hi (cK (t.names.map bU) [] l=cK (t.names.map bU) (got++[b]) G):=Q.o.trans (Fy ah.o (by rw[ac];exact hgo));have b2:=d.o.fM;have bA:=d.o.free 2;obtain⟨hp,bj,aC,_⟩:=d.o.next;have bB:((pos s (b::G):Nat):Int)+1=((pos s G:Nat):Int):=by omega
      have ai:Hi (G.length<=s.size):=by show _<=_;have:=d.o.len;simp at this;omega
      obtain⟨ao,f,A,q3⟩:=q.o;have g:=ab (MS.oL f A q3 (f.move ai.o aC) (Fr.setCell (One mb) _ _ _ rfl));have be:=ab (J.o.nZ q.o g.o.2);have bf:=ab (Y.o.nZ q.o g.o.2);have bg:=ab HB.o.place;obtain⟨bE,E⟩:=g.o.1.block;have ak:=ab E.place;clear f A q3 hgo aC bj E;go_wp2_with fail;refine⟨⟨got++[b],G,by rw[aP.o];simp,bd,g.o.1,O.o.trans g.o.2,be,bf⟩,?_⟩;rw[bg.o,ak.o]
      have:=HB.o.len
      simp only[pos,List.length_cons] at this ⊢;omega
theorem EPost.map{α β:Type}{aF:Bs}{Hk:Nat}{p:Option α×Bs}{q:Option β×Bs}{f:α->Bs}{F:β->Bs}(h:EPost mb B db s aF ext w l p f e w')(h2:q.2=p.2)(hs:∀ a,p.1=some a->∃ b,q.1=some b/\F b=f a)(hn:p.1=none->q.1=none)(he:ext<=Hk):EPost mb B db s aF Hk w l q F e w':=by
 obtain⟨g,r,c,dT,i,j,k,m,n,d⟩:=h;refine⟨g,r,c,dT,i,j,by rw[h2];exact k,m,fun hb=>?_,fun hb=>⟨?_,by have:=(d hb).2;omega⟩⟩
 ·obtain⟨a,o,t⟩:=n hb;obtain⟨b,u,v⟩:=hs a o;exact⟨b,u,by rw[t,v]⟩
 ·rcases(d hb).1 with q|q
  ·exact .inl (hn q)
  ·exact .inr q
theorem EPost.pre{α:Type}{aF:Bs}{w1:World}{p:Option α×Bs}{f:α->Bs}(hF:gD mb w w1)(h:EPost mb B db s aF ext w1 l p f e w'):EPost mb B db s aF ext w l p f e w':=by
 obtain⟨a,h⟩:=h;exact⟨hF.trans a,h⟩
theorem EPost.end_{α:Type}{aF:Bs}{p:Option α×Bs}{f:α->Bs}(h:EPost mb B db s aF ext w l p f e w'):e=.returned (.tuple #[]):=by
 obtain⟨_,_,_,_,_,h,_⟩:=h;exact h
theorem qY.quiet{aF:Bs}(h:qY w B mb db s l aF tab roots)(hf:Fr Zero w w'):qY w' B mb db s l aF tab roots :=
 ⟨h.ms.quiet hf,h.df.ae hf.dV,h.hs,h.tl,Nat.le_trans h.hB hf.size⟩
theorem qY.next{l' aF dT:Bs}{bad:Bool}(h:qY w B mb db s l aF tab roots)(hf:gD mb w w')(hm:MS w' B mb db s l' bad dT)(hb:bad=false):qY w' B mb db s l' dT tab roots:=by
 subst hb;exact⟨hm,h.df.ae (h.ms.mH hf),h.hs,h.tl,Nat.le_trans h.hB hf.fr.size⟩
theorem qz{aF:Bs}(h:MS w B mb db s l true aF)(x:Int):
  Calls Tryz.prog 67 #[.pointer (some ⟨mb,0,none⟩),.int .i64 x] w fun e w'=>e=.returned (.tuple #[])/\w'=w:=by
 obtain⟨c,a⟩:=h.block;have b:=a.gS;clear h a;go_enter Tryz.func67,Tryz.ntmps67;go_wp2_with fail;refine bodyPost_ret (v:=.tuple #[]) (by simp[results,Tryz.results67,go_sem]) rfl ?_;exact⟨rfl,rfl⟩
theorem DI{aF:Bs}(h:qY w B mb db s l aF tab roots)(hI:Is tab x t)(hk:t.kind<=2)(hr:aF.length+8*l.length+600*(k+1)<=800000000):
  Calls Tryz.prog 67 #[.pointer (some ⟨mb,0,none⟩),.int .i64 x] w fun e w'=>EPost mb B db s aF (8*l.length+600*(k+1)) w l (ay (k+1) t l) (aG (k+1)) e w':=by
 obtain⟨F,p⟩:=h.ms.block;have D:=p.dM;have E:=p.gS;have f:=ab h;have q:=ab hI;have r:=p.lt;have g:s.size<=maxLen:=by unfold maxLen;have:=h.hs;omega
 have u:=ab g;clear h hI p g;go_enter Tryz.func67,Tryz.ntmps67;go_wp2_with fail;refine(fG f.o.df x t q.o f.o.hB f.o.tl).mono ?_;rintro e G ⟨(d:Hi _),A,o,C,a,rfl,aE,c⟩;obtain⟨H,I,rfl⟩:=c.2.1.shape;obtain⟨J,K,rfl⟩:=c.2.2.1.shape;obtain⟨L,M,rfl⟩:=c.2.2.2.shape;have i:=aE.kind;rw[i];clear aE c i;have m:Hi (ay (k+1) t l=((c9 (bQ t.kind) l).1.map (fun(n:Nat)=>fY t n),(c9 (bQ t.kind) l).2)):=ab (by simp only[ay];rw[if_pos hk]);obtain b|b|b:t.kind=0\/t.kind=1\/t.kind=2:=by omega
 all_goals
  rw[b] at m;rw[b];have j:=ab b;clear hk b;go_wp2_with fail;refine(y9 (f.o.ms.quiet (d.o.trans (Fr.alloc _ _ _))) u.o (by have:=f.o.hB;have:=d.o.size;simp;omega) _ (by decide) (by omega)).mono ?_;intro e N v;have y:=v.end_;subst y;have z:=ab (EPost.pre (gD.quiet (d.o.trans (Fr.alloc _ _ _)) r) v);clear v;go_wp2_with fail
  go_end0
  refine z.o.map (by rw[m.o]) (fun a ha=>⟨_,by rw[m.o];simp[ha];rfl,?_⟩) (fun hn=>by rw[m.o];simp[hn]) (by omega);show aG (k+1) ⟨t,_,_,_⟩=_;rw[cQ,if_pos (by rw[j.o];omega),j.o];simp
theorem GZ{aF:Bs}(h:qY w B mb db s l aF tab roots)(hI:Is tab x t)(hk:t.kind=3)(hr:aF.length+8*l.length+600*(k+1)<=800000000):
  Calls Tryz.prog 67 #[.pointer (some ⟨mb,0,none⟩),.int .i64 x] w fun e w'=>EPost mb B db s aF (8*l.length+600*(k+1)) w l (ay (k+1) t l) (aG (k+1)) e w':=by
 obtain⟨M,n⟩:=h.ms.block;have K:=n.dM;have L:=n.gS;have d:=ab h;have p:=ab hI;have q:=n.lt;have f:s.size<=maxLen:=by unfold maxLen;have:=h.hs;omega
 have r:=ab f;clear h hI n f;go_enter Tryz.func67,Tryz.ntmps67;go_wp2_with fail;refine(fG d.o.df x t p.o d.o.hB d.o.tl).mono ?_;rintro e z ⟨(m:Hi _),b,o,J,a,rfl,aE,c⟩;obtain⟨A,C,rfl⟩:=c.2.1.shape;obtain⟨D,E,rfl⟩:=c.2.2.1.shape;obtain⟨F,G,rfl⟩:=c.2.2.2.shape;have g:=aE.kind;rw[g];clear aE c g;have u:Hi (ay (k+1) t l=((cg l).1.map (fY t),(cg l).2)):=ab (by simp only[ay];rw[if_neg (by omega),if_pos hk]);rw[hk];have i:=ab hk;clear hk;go_wp2_with fail;have v:Hi (gD mb w (z.alloc (.cells #[.int .i64 3,.slice A (ints b.of).length C,.slice D (texts b.names).length E,.slice F (ints b.ats).length G] 183))):=gD.quiet (m.o.trans (Fr.alloc _ _ _)) q;have j:=ab (m.o.trans (Fr.alloc Zero z (.cells #[.int .i64 3,.slice A (ints b.of).length C,.slice D (texts b.names).length E,.slice F (ints b.ats).length G] 183)));refine(xa (d.o.ms.quiet j.o) r.o (Nat.le_trans d.o.hB j.o.size) (by omega)).mono ?_;intro e N y;have H:=y.end_;subst H;have I:=ab (EPost.pre v.o y);clear y;go_wp2_with fail
 go_end0
 refine I.o.map (by rw[u.o]) (fun a ha=>⟨_,by rw[u.o];simp[ha];rfl,?_⟩) (fun hn=>by rw[u.o];simp[hn]) (by omega);show aG (k+1) ⟨t,_,_,_⟩=_;rw[cQ,if_neg (by rw[i.o];omega),if_pos (by rw[i.o])]
 try rfl
theorem FJ{aF:Bs}(h:qY w B mb db s l aF tab roots)(hI:Is tab x t)(hk:t.kind=5)(hr:aF.length+8*l.length+600*(k+1)<=800000000):
  Calls Tryz.prog 67 #[.pointer (some ⟨mb,0,none⟩),.int .i64 x] w fun e w'=>EPost mb B db s aF (8*l.length+600*(k+1)) w l (ay (k+1) t l) (aG (k+1)) e w':=by
 obtain⟨M,n⟩:=h.ms.block;have K:=n.dM;have L:=n.gS;have f:=ab h;have p:=ab hI;have q:=n.lt;have g:s.size<=maxLen:=by unfold maxLen;have:=h.hs;omega
 have r:=ab g;clear h hI n g;go_enter Tryz.func67,Tryz.ntmps67;go_wp2_with fail;refine(fG f.o.df x t p.o f.o.hB f.o.tl).mono ?_;rintro e z ⟨(m:Hi _),b,o,J,a,rfl,aE,d⟩;obtain⟨A,C,rfl⟩:=d.2.1.shape;obtain⟨D,E,rfl⟩:=d.2.2.1.shape;obtain⟨F,G,rfl⟩:=d.2.2.2.shape;have i:=aE.kind;rw[i];clear aE d i;have u:Hi (ay (k+1) t l=((bM l).1.map (fC t),(bM l).2)):=ab (by simp only[ay];rw[if_neg (by omega),if_neg (by omega),if_neg (by omega),if_pos hk]);rw[hk];have c:=ab hk;clear hk;go_wp2_with fail;have v:Hi (gD mb w (z.alloc (.cells #[.int .i64 5,.slice A (ints b.of).length C,.slice D (texts b.names).length E,.slice F (ints b.ats).length G] 183))):=gD.quiet (m.o.trans (Fr.alloc _ _ _)) q;have j:=ab (m.o.trans (Fr.alloc Zero z (.cells #[.int .i64 5,.slice A (ints b.of).length C,.slice D (texts b.names).length E,.slice F (ints b.ats).length G] 183)));refine(BG (f.o.ms.quiet j.o) r.o (Nat.le_trans f.o.hB j.o.size) (by omega)).mono ?_;intro e N y;have H:=y.end_;subst H;have I:=ab (EPost.pre v.o y);clear y;go_wp2_with fail
 go_end0
 refine I.o.map (by rw[u.o]) (fun a ha=>⟨_,by rw[u.o];simp[ha];rfl,?_⟩) (fun hn=>by rw[u.o];simp[hn]) (by omega);show aG (k+1) ⟨t,_,_,_⟩=_;rw[cQ,if_neg (by rw[c.o];omega),if_neg (by rw[c.o];omega),if_neg (by rw[c.o];omega),if_pos (by rw[c.o];omega)]
 try rfl
theorem DJ{aF:Bs}(h:qY w B mb db s l aF tab roots)(hI:Is tab x t)(hk:t.kind=6)(hr:aF.length+8*l.length+600*(k+1)<=800000000):
  Calls Tryz.prog 67 #[.pointer (some ⟨mb,0,none⟩),.int .i64 x] w fun e w'=>EPost mb B db s aF (8*l.length+600*(k+1)) w l (ay (k+1) t l) (aG (k+1)) e w':=by
 obtain⟨M,n⟩:=h.ms.block;have K:=n.dM;have L:=n.gS;have f:=ab h;have p:=ab hI;have q:=n.lt;have g:s.size<=maxLen:=by unfold maxLen;have:=h.hs;omega
 have r:=ab g;clear h hI n g;go_enter Tryz.func67,Tryz.ntmps67;go_wp2_with fail;refine(fG f.o.df x t p.o f.o.hB f.o.tl).mono ?_;rintro e z ⟨(m:Hi _),b,o,J,a,rfl,aE,d⟩;obtain⟨A,C,rfl⟩:=d.2.1.shape;obtain⟨D,E,rfl⟩:=d.2.2.1.shape;obtain⟨F,G,rfl⟩:=d.2.2.2.shape;have i:=aE.kind;rw[i];clear aE d i;have u:Hi (ay (k+1) t l=((ep l).1.map (fC t),(ep l).2)):=ab (by simp only[ay];rw[if_neg (by omega),if_neg (by omega),if_neg (by omega),if_neg (by omega),if_pos hk]);rw[hk];have c:=ab hk;clear hk;go_wp2_with fail;have v:Hi (gD mb w (z.alloc (.cells #[.int .i64 6,.slice A (ints b.of).length C,.slice D (texts b.names).length E,.slice F (ints b.ats).length G] 183))):=gD.quiet (m.o.trans (Fr.alloc _ _ _)) q;have j:=ab (m.o.trans (Fr.alloc Zero z (.cells #[.int .i64 6,.slice A (ints b.of).length C,.slice D (texts b.names).length E,.slice F (ints b.ats).length G] 183)));refine(ze (f.o.ms.quiet j.o) r.o (Nat.le_trans f.o.hB j.o.size) (by omega)).mono ?_;intro e N y;have H:=y.end_;subst H;have I:=ab (EPost.pre v.o y);clear y;go_wp2_with fail
 go_end0
 refine I.o.map (by rw[u.o]) (fun a ha=>⟨_,by rw[u.o];simp[ha];rfl,?_⟩) (fun hn=>by rw[u.o];simp[hn]) (by omega);show aG (k+1) ⟨t,_,_,_⟩=_;rw[cQ,if_neg (by rw[c.o];omega),if_neg (by rw[c.o];omega),if_neg (by rw[c.o];omega),if_pos (by rw[c.o];omega)]
 try rfl
def fR:Bs->Bs×Bool->Bs×Bool
 | [],p=>p
 | b::wd,p=>fR wd (aA b.toNat p.1 p.2)
theorem y8(b:UInt8):∀(wd:Bs) (p:Bs×Bool),fR (wd++[b]) p=aA b.toNat (fR wd p).1 (fR wd p).2:=by
 intro wd
 induction wd with
 | nil=>intro p;rfl
 | cons c wd ih=>intro p;exact ih _
theorem s7(c:Nat)(l:Bs)(bad:Bool):(aA c l bad).1.length<=l.length:=by
 cases bad with
 | true=>simp[aA]
 | false =>
  rcases hq:bz c l with _|r
  ·simp[aA,hq]
  ·obtain⟨b,rfl,_⟩:=bp hq;simp[aA,hq]
theorem BE:∀(wd:Bs) (p:Bs×Bool),(fR wd p).1.length<=p.1.length:=by
 intro wd
 induction wd with
 | nil=>intro p;exact Nat.le_refl _
 | cons c wd ih=>intro p;exact Nat.le_trans (ih _) (s7 _ _ _)
def iZ(l:Bs):Bs:=if hd l=121 then dX else jx
theorem Cl(l:Bs):(cK [jx,dX] [] l).2=(fR (iZ l) (l,false)).1/\((fR (iZ l) (l,false)).2=false->(cK [jx,dX] [] l).1=some ((iZ l).length-2))/\((fR (iZ l) (l,false)).2=true->(cK [jx,dX] [] l).1=none):=by
 rcases l with _|⟨a,l⟩
 ·exact⟨by decide,by decide,by decide⟩
 ·by_cases j:a.toNat=121
  ·obtain rfl:a=121:=fI j;have k:iZ (121::l)=dX:=rfl;rw[k];rcases l with _|⟨b,l⟩
   ·exact⟨by decide,by decide,by decide⟩
   ·by_cases d:b.toNat=101
    ·obtain rfl:b=101:=fI d;rcases l with _|⟨c,l⟩
     ·exact⟨by decide,by decide,by decide⟩
     ·by_cases m:c.toNat=115
      ·obtain rfl:c=115:=fI m
       have:cK [jx,dX] [] (121::101::115::l)=(some 1,l):=by
        cases l<;>rfl
       rw[this];exact⟨rfl,fun _=>rfl,fun h=>by simp[fR,dX,aA,bz] at h⟩
      ·have f:¬c=115:=fun e=>m (by rw[e];rfl)
       have g:fR dX (121::101::c::l,false)=(c::l,true):=by
        simp[fR,dX,aA,bz,m]
       have i:cK [jx,dX] [] (121::101::c::l)=(none,c::l):=by
        simp[cK,jx,dX,List.findIdx?_cons];intro e;exact absurd e f
       rw[g,i];exact⟨rfl,fun h=>by simp at h,fun _=>rfl⟩
    ·have f:¬b=101:=fun e=>d (by rw[e];rfl)
     have g:fR dX (121::b::l,false)=(b::l,true):=by
      simp[fR,dX,aA,bz,d]
     have i:cK [jx,dX] [] (121::b::l)=(none,b::l):=by
      simp[cK,jx,dX,List.findIdx?_cons];intro e;exact absurd e f
     rw[g,i];exact⟨rfl,fun h=>by simp at h,fun _=>rfl⟩
  ·have k:iZ (a::l)=jx:=by simp[iZ,hd,j]
   have o:¬a=121:=fun e=>j (by rw[e];rfl)
   rw[k]
   by_cases n:a.toNat=110
   ·obtain rfl:a=110:=fI n;rcases l with _|⟨b,l⟩
    ·exact⟨by decide,by decide,by decide⟩
    ·by_cases d:b.toNat=111
     ·obtain rfl:b=111:=fI d
      have:cK [jx,dX] [] (110::111::l)=(some 0,l):=by
       cases l<;>rfl
      rw[this];exact⟨rfl,fun _=>rfl,fun h=>by simp[fR,jx,aA,bz] at h⟩
     ·have f:¬b=111:=fun e=>d (by rw[e];rfl)
      have g:fR jx (110::b::l,false)=(b::l,true):=by
       simp[fR,jx,aA,bz,d]
      have i:cK [jx,dX] [] (110::b::l)=(none,b::l):=by
       simp[cK,jx,dX,List.findIdx?_cons];intro e;exact absurd e f
      rw[g,i];exact⟨rfl,fun h=>by simp at h,fun _=>rfl⟩
   ·have f:¬a=110:=fun e=>n (by rw[e];rfl)
    have g:fR jx (a::l,false)=(a::l,true):=by
     simp[fR,jx,aA,bz,n]
    have i:cK [jx,dX] [] (a::l)=(none,a::l):=by
     simp[cK,jx,dX,List.findIdx?_cons];intro e;rcases e with e|e
     ·exact absurd e f
     ·exact absurd e o
    rw[g,i];exact⟨rfl,fun h=>by simp at h,fun _=>rfl⟩
theorem FL{aF:Bs}(h:qY w B mb db s l aF tab roots)(hI:Is tab x t)(hk:t.kind=4)(hr:aF.length+8*l.length+600*(k+1)<=800000000):
  Calls Tryz.prog 67 #[.pointer (some ⟨mb,0,none⟩),.int .i64 x] w fun e w'=>EPost mb B db s aF (8*l.length+600*(k+1)) w l (ay (k+1) t l) (aG (k+1)) e w':=by
 obtain⟨ov,p⟩:=h.ms.block;have h0:=p.dM;have h4:=p.gS;have D:=ab h;have L:=ab hI;have M:=p.lt;have E:s.size<=maxLen:=by unfold maxLen;have:=h.hs;omega
 have F:=ab E;clear h hI p E;go_enter Tryz.func67,Tryz.ntmps67;go_wp2_with fail;refine(fG D.o.df x t L.o D.o.hB D.o.tl).mono ?_;rintro e X ⟨(Y:Hi _),d,o,af,a,rfl,aE,r⟩;obtain⟨Z,qo,rfl⟩:=r.2.1.shape;obtain⟨pn,qn,rfl⟩:=r.2.2.1.shape;obtain⟨pa,qa,rfl⟩:=r.2.2.2.shape;have G:=aE.kind;rw[G];clear aE r G;have N:Hi (ay (k+1) t l=((cK [jx,dX] [] l).1.map (fun(n:Nat)=>fY t n),(cK [jx,dX] [] l).2)):=ab (by simp only[ay];rw[if_neg (by omega),if_neg (by omega),if_pos hk]);rw[hk];have u:=ab hk;have O:=ab (Cl l);clear hk;go_wp2_with fail;have H:=ab (Y.o.trans (Fr.alloc Zero X (.cells #[.int .i64 4,.slice Z (ints d.of).length qo,.slice pn (texts d.names).length qn,.slice pa (ints d.ats).length qa] 183)));obtain⟨ag,K⟩:=(D.o.ms.quiet H.o).block;refine(dj K F.o).mono ?_;rintro e w3 ⟨rfl,n3,e3⟩;obtain rfl:=e3.symm;have I:Hi (Fr Zero w ((X.alloc (.cells #[.int .i64 4,.slice Z (ints d.of).length qo,.slice pn (texts d.names).length qn,.slice pa (ints d.ats).length qa] 183)).drewN n3)):=H.o.trans (Fr.drewN _ _ _);generalize (X.alloc (.cells #[.int .i64 4,.slice Z (ints d.of).length qo,.slice pn (texts d.names).length qn,.slice pa (ints d.ats).length qa] 183)).drewN n3=w3 at *;have P:=ab (D.o.ms.quiet I.o);have Q:=ab (gD.quiet I.o M);clear K h0 h4;simp only[Bool.false_eq_true,if_false];have hh:=nL l
 have R:Hi ((hd l=121/\iZ l=dX)\/(hd l≠121/\iZ l=jx)):=by
  unfold iZ
  by_cases q:hd l=121
  ·exact .inl ⟨q,if_pos q⟩
  ·exact .inr ⟨q,if_neg q⟩
 generalize iZ l=wd at *;generalize hd l=c at *;rcases R.o with⟨hc,f⟩|⟨hc,f⟩
 case' inl =>
  subst hc;have m:Hi (2<=wd.length/\wd.length<=3/\∀ b∈wd,0<b.toNat):=by rw[f];exact⟨by decide,by decide,by decide⟩
  have v:(⟨#[121,101,115]⟩:ByteArray)=ba wd:=by rw[f];rfl
  clear f;go_wp2_with fail
 case' inr =>
  have hq:(((c:Nat):Int)==121)=false:=beq_eq_false_iff_ne.2 (by omega);have m:Hi (2<=wd.length/\wd.length<=3/\∀ b∈wd,0<b.toNat):=by rw[f];exact⟨by decide,by decide,by decide⟩
  have v:(⟨#[110,111]⟩:ByteArray)=ba wd:=by rw[f];rfl
  clear f hc;go_wp2_with fail
 all_goals
  try rw[v]
  clear v;have ac:=aI wd;have ad:=m.o.1;have ae:=m.o.2.1
  go_loopw [7] (fun iv wr=>∃ i:Nat,i<=wd.length/\iv=.int .i64 i/\Hi (MS wr B mb db s (fR (wd.take i) (l,false)).1 (fR (wd.take i) (l,false)).2 aF)/\Hi (gD mb w wr)) (fun iv _=>wd.length-(intOf iv).toNat)
  case atStart=>exact⟨0,by omega,rfl,P,Q⟩
  case round =>
   obtain⟨i,hi,rfl,A,C⟩:=hrel
   by_cases aa:i<wd.length
   ·have hI:(i:Int)<(wd.length:Int):=by omega
    obtain⟨b,p⟩:∃ b,wd[i]?=some b:=⟨wd[i],by simp⟩;obtain⟨hj,hg⟩:=lI p;have iQ:=m.o.2.2 b (List.mem_of_getElem? p);have S:=b.toNat_lt
    have T:Hi (fR (wd.take (i+1)) (l,false)=aA b.toNat (fR (wd.take i) (l,false)).1 (fR (wd.take i) (l,false)).2):=by
     obtain⟨hk,he⟩:=List.getElem?_eq_some_iff.1 p;show _=_;rw[List.take_succ_eq_append_getElem hk,he,y8]
    clear p;go_wp2_with fail;refine(j8 A.o F.o b.toNat iQ S).mono ?_;rintro e w5 ⟨j,g,rfl⟩;rw[<-T.o] at g;have y:=ab (C.o.trans j);have z:=ab g;clear j g;go_wp2_with fail
    go_roundw
    case rel=>exact⟨i+1,by omega,by go_num,z,y⟩
    case measure=>simp[intOf];omega
   ·have U:i=wd.length:=by omega
    subst U;have hI:¬(wd.length:Int)<(wd.length:Int):=by omega
    rw[List.take_length] at A;have J:(((wd.length:Nat):Int)-2)=(((UInt8.ofNat (wd.length-2)).toNat:Nat):Int):=by rw[toNat_ofNat (by omega)];omega
    have V:=ab J;have W:B<=wr.heap.size:=Nat.le_trans D.o.hB C.o.fr.size;clear J;go_wp2_with fail;refine(jh A.o W _ (UInt8.ofNat (wd.length-2)) V.o (by omega)).mono ?_;rintro e w5 ⟨j,g,rfl⟩;have y:=ab (C.o.trans j);have z:=ab g;clear j g;go_wp2_with fail
    go_end0
    obtain⟨q1,q2,q3⟩:=O.o;refine⟨y,_,_,aF++[UInt8.ofNat (wd.length-2)],z,rfl,by rw[N.o];exact q1.symm,BE _ _,fun h=>?_,fun h=>⟨.inl (by rw[N.o];simp[q3 h]),by simp;omega⟩⟩;refine⟨_,by rw[N.o];simp[q2 h];rfl,?_⟩;show _=aF++aG (k+1) ⟨t,_,_,_⟩;rw[cQ,if_neg (by rw[u.o];omega),if_neg (by rw[u.o];omega),if_pos (by rw[u.o])];simp
theorem IF:((7:Nat):Int)=7:=rfl
theorem IE:((8:Nat):Int)=8:=rfl
theorem ID:((9:Nat):Int)=9:=rfl
theorem Ia:((10:Nat):Int)=10:=rfl
theorem FK{aF:Bs}(hV:qS k)(h:qY w B mb db s l aF tab roots)(hI:Is tab x t)(hk:t.kind=7)(hW:c8 (k+1) t)(hr:aF.length+8*l.length+600*(k+1)<=800000000):
  Calls Tryz.prog 67 #[.pointer (some ⟨mb,0,none⟩),.int .i64 x] w fun e w'=>EPost mb B db s aF (8*l.length+600*(k+1)) w l (ay (k+1) t l) (aG (k+1)) e w':=by
 have G:=ab hW;have H:=ab hV;clear hW hV;obtain⟨X,z⟩:=h.ms.block;have T:=z.dM;have U:=z.gS;have y:=ab h;have A:=ab hI;have C:=z.lt;have q:s.size<=maxLen:=by unfold maxLen;have:=h.hs;omega
 have I:=ab q;clear h hI z q;go_enter Tryz.func67,Tryz.ntmps67;go_wp2_with fail;refine(fG y.o.df x t A.o y.o.hB y.o.tl).mono ?_;rintro e L ⟨p,j,o,M,a,rfl,aE,g⟩;have D:Hi (ay (k+1) t l=((dP (ay k (t.sub 0)) l).1.map (bE t 0),(dP (ay k (t.sub 0)) l).2)):=ab (by simp only[ay];rw[if_neg (by omega),if_neg (by omega),if_neg (by omega),if_neg (by omega),if_neg (by omega),if_pos hk]);have oY:t.subs.length=1:=G.o.2.2.2.2.1 (.inl hk);have b:j.of.length=1:=aE.len.trans oY;have r:=aE.kind;rw[r] at g ⊢;have m:=g.ae p.dV;obtain⟨N,O,rfl,v⟩:=T9.new m (by omega);obtain⟨P,Q,rfl⟩:=g.2.2.1.shape;obtain⟨R,S,rfl⟩:=g.2.2.2.shape;have n:=ab (aE.sub 0 (by omega));have c:=ab (p.trans (Fr.alloc Zero L (.cells #[.int .i64 t.kind,.slice (some ⟨N,0,none⟩) j.of.length O,.slice P (texts j.names).length Q,.slice R (ints j.ats).length S] 183)));have d:=ab v;have u:=ab b;rw[b] at d;rw[b] at c;rw[b];rw[hk] at d;rw[hk] at c;rw[hk];simp only[IF] at d c;have f:=ab hk;have E:=ab (G.o.sub (i:=0) (by omega));clear p aE g m r v b hk oY;have V:=d.o.lg u.o;have W:=d.o.of 0 (by have:=u.o;omega);go_wp2_with fail;refine(BH H.o (y.o.quiet c.o) _ (t.sub 0) n.o E.o (by omega)).mono ?_;intro e Y F;have J:=F.end_;subst J;have K:=ab (EPost.pre (gD.quiet c.o C) F);clear F;go_wp2_with fail
 go_end0
 refine K.o.map (by rw[D.o]) (fun a ha=>⟨_,by rw[D.o];simp[ha];rfl,?_⟩) (fun hn=>by rw[D.o];simp[hn]) (by omega);show aG (k+1) ⟨t,_,_,_⟩=_;rw[cQ,if_neg (by rw[f.o];omega),if_neg (by rw[f.o];omega),if_neg (by rw[f.o];omega),if_neg (by rw[f.o];omega),if_pos (by rw[f.o];omega)]
theorem BB{aF:Bs}(hV:qS k)(h:qY w B mb db s l aF tab roots)(hI:Is tab x t)(hk:t.kind=8)(hW:c8 (k+1) t)(hr:aF.length+8*l.length+600*(k+1)<=800000000):
  Calls Tryz.prog 67 #[.pointer (some ⟨mb,0,none⟩),.int .i64 x] w fun e w'=>EPost mb B db s aF (8*l.length+600*(k+1)) w l (ay (k+1) t l) (aG (k+1)) e w':=by
 have HW:=ab hW;have HV:=ab hV;clear hW hV;obtain⟨ov,C⟩:=h.ms.block;have h0:=C.dM;have h4:=C.gS;have U:=ab h;have ao:=ab hI;have ap:=C.lt;have V:s.size<=maxLen:=by unfold maxLen;have:=h.hs;omega
 have W:=ab V;clear h hI C V;go_enter Tryz.func67,Tryz.ntmps67;go_wp2_with fail;refine(fG U.o.df x t ao.o U.o.hB U.o.tl).mono ?_;rintro e w1 ⟨R,m,o,aQ,a,rfl,aE,D⟩;have M:Hi (ay (k+1) t l=((iB (ay k (t.sub 0)) l).1.map (bE t 0),(iB (ay k (t.sub 0)) l).2)):=ab (by simp only[ay];rw[if_neg (by omega),if_neg (by omega),if_neg (by omega),if_neg (by omega),if_neg (by omega),if_neg (by omega),if_pos hk]);have oY:t.subs.length=1:=HW.o.2.2.2.2.1 (.inr hk);have p:m.of.length=1:=aE.len.trans oY;have X:=aE.kind;rw[X] at D ⊢;have K:=D.ae R.dV;obtain⟨go,co,rfl,ag⟩:=T9.new K (by omega);obtain⟨pn,qn,rfl⟩:=D.2.2.1.shape;obtain⟨pa,qa,rfl⟩:=D.2.2.2.shape;have N:=ab (aE.sub 0 (by omega));have q:=ab (R.trans (Fr.alloc Zero w1 (.cells #[.int .i64 t.kind,.slice (some ⟨go,0,none⟩) m.of.length co,.slice pn (texts m.names).length qn,.slice pa (ints m.ats).length qa] 183)));have u:=ab ag;have Y:=ab p;rw[p] at u;rw[p] at q;rw[p];rw[hk] at u;rw[hk] at q;rw[hk];simp only[IE] at u q;have d:=ab hk;have aq:=ab (HW.o.sub (i:=0) (by omega));clear R aE D K X ag p hk oY;have O:=ab (U.o.quiet q.o);have Z:=ab (gD.quiet q.o ap);obtain⟨aR,ah⟩:=O.o.ms.block;have G:=ab ah;clear ah h0 h4;go_wp2_with fail;generalize w1.alloc (.cells #[.int .i64 8,.slice (some ⟨go,0,none⟩) 1 co,.slice pn (texts m.names).length qn,.slice pa (ints m.ats).length qa] 183)=w2 at *;refine(dj G.o W.o).mono ?_;rintro e w3 ⟨rfl,n3,e3⟩;obtain rfl:=e3.symm;have H:Hi (Fr Zero w2 (w2.drewN n3)):=Fr.drewN _ _ _;have j:=ab (O.o.quiet H.o);have aa:=ab (Z.o.trans (gD.quiet H.o G.o.lt));have ar:=ab (u.o.quiet H.o);have y:=ab (G.o.ae H.o (fun h=>h));generalize w2.drewN n3=w3 at *;clear O Z u G;simp only[Bool.false_eq_true,if_false];have hh:=nL l
 by_cases T:hd l=45
 ·obtain⟨b,r,rfl⟩:∃ b r,l=b::r:=by
   rcases l with _|⟨b,r⟩
   ·simp[hd] at T
   ·exact⟨b,r,rfl⟩
  have L:b.toNat=45:=T;have I:Hi (iB (ay k (t.sub 0)) (b::r)=(some [],r)):=ab (by simp[iB,bz,L]);rw[T];have g2:=y.o.fM;have aN:=y.o.free 2;have aO:=y.o.gj;have dJ:s.size<=1048576:=U.o.hs;obtain⟨hp,aL,ai,_⟩:=y.o.next;have aP:((pos s (b::r):Nat):Int)+1=((pos s r:Nat):Int):=by omega
  have au:Hi (r.length<=s.size):=by show _<=_;have:=y.o.len;simp at this;omega
  have f:Hi (MS (w3.setCell ⟨mb,2,none⟩ (.int .i64 (pos s r))) B mb db s r false aF/\gD mb w3 (w3.setCell ⟨mb,2,none⟩ (.int .i64 (pos s r)))):=by
   obtain⟨aS,F,q2,q3⟩:=j.o.ms;exact MS.oL F q2 q3 (F.move au.o ai) (Fr.setCell (One mb) _ _ _ rfl)
  have av:B<=(w3.setCell ⟨mb,2,none⟩ (.int .i64 (pos s r))).heap.size:=Nat.le_trans j.o.hB f.o.2.fr.size;clear ai aL T L;go_wp2_with fail;refine(jh f.o.1 av 0 0 rfl (by omega)).mono ?_;rintro e w5 ⟨g,n,rfl⟩;have J:=ab ((aa.o.trans f.o.2).trans g);have z:=ab n;clear g n;go_wp2_with fail;refine bodyPost_ret (v:=.tuple #[]) (by simp[results,Tryz.results67,go_sem]) rfl ?_;refine⟨J,r,false,aF++[0],z,rfl,by rw[M.o,I.o],by simp,fun _=>⟨_,by rw[M.o,I.o];rfl,?_⟩,fun h=>by simp at h⟩;show _=aF++aG (k+1) ⟨t,_,_,_⟩;rw[cQ,if_neg (by rw[d.o];omega),if_neg (by rw[d.o];omega),if_neg (by rw[d.o];omega),if_neg (by rw[d.o];omega),if_pos (by rw[d.o];omega)];rfl
 ·have hq:(((hd l:Nat):Int)==45)=false:=beq_eq_false_iff_ne.2 (by omega);have ac:Hi (bz 45 l=none):=ab (by rw[lW (by omega),if_neg T]);generalize hd l=c at *;clear T;go_wp2_with fail;refine(j8 j.o.ms W.o 43 (by omega) (by omega)).mono ?_;rintro e w4 ⟨E,S,rfl⟩;have aw:=ab (aa.o.trans E);have ax:=ab (ar.o.nZ j.o.ms E);have az:=ab (s7 43 l false);have P:Hi (∀ C:(aA 43 l false).2=false,qY w4 B mb db s (aA 43 l false).1 aF tab roots):=fun C=>j.o.next E S C
  have f:=ab S;have aC:B<=w4.heap.size:=Nat.le_trans j.o.hB E.fr.size;clear E S;go_wp2_with fail;refine(jh f.o aC 1 1 rfl (by omega)).mono ?_;rintro e w5 ⟨g,n,rfl⟩;have J:=ab (aw.o.trans g);have ad:=ab (ax.o.nZ f.o g);have Q:Hi (∀ C:(aA 43 l false).2=false,qY w5 B mb db s (aA 43 l false).1 (aF++[1]) tab roots):=fun C=>(P.o C).next g n C
  have z:=ab n;have c1:=ad.o.lg Y.o;have c2:=ad.o.of 0 (by have:=Y.o;omega);clear g n;rcases hq4:bz 43 l with _|l1
  ·have A:aA 43 l false=(l,true):=by simp[aA,hq4]
   rw[A] at z;have I:Hi (iB (ay k (t.sub 0)) l=(none,l)):=ab (by simp[iB,ac.o,hq4]);clear hq4 A Q P f;go_wp2_with fail;refine(qz z.o _).mono ?_;rintro e w6 ⟨rfl,e6⟩;obtain rfl:=e6.symm;go_wp2_with fail
   go_end0
   exact⟨J,l,true,aF++[1],z,rfl,by rw[M.o,I.o],by omega,fun h=>by simp at h,fun _=>⟨.inl (by rw[M.o,I.o];rfl),by simp;omega⟩⟩
  ·have A:aA 43 l false=(l1,false):=by simp[aA,hq4]
   rw[A] at Q az;have I:Hi (iB (ay k (t.sub 0)) l=((ay k (t.sub 0) l1).1.map (fun v=>[v]),(ay k (t.sub 0) l1).2)):=ab (by simp[iB,ac.o,hq4]);have aD:Hi (l1.length<l.length):=by show _<_;obtain⟨b,rfl,_⟩:=bp hq4;simp
   have k9:=aD.o;clear hq4 A P f;go_wp2_with fail;refine(HV.o w5 B mb db s l1 (aF++[1]) tab roots _ (t.sub 0) (Q.o (by first|rfl|trivial|simp)) N.o aq.o (by simp;omega)).mono ?_;rintro e w6 ⟨aj,r,aM,dT,ak,rfl,al,dK,am,an⟩;have aH:=ab (J.o.trans aj);have aI:=ab ak;have aJ:=ab al;have aK:=ab am;have af:=ab an;clear aj ak al am an;go_wp2_with fail
   go_end0
   refine⟨aH,r,aM,dT,aI,rfl,by rw[M.o,I.o];exact aJ.o,by omega,fun h=>?_,fun h=>?_⟩
   ·obtain⟨v,F,q2⟩:=aK.o h;refine⟨_,by rw[M.o,I.o];simp[F];rfl,?_⟩;show _=aF++aG (k+1) ⟨t,_,_,_⟩;rw[cQ,if_neg (by rw[d.o];omega),if_neg (by rw[d.o];omega),if_neg (by rw[d.o];omega),if_neg (by rw[d.o];omega),if_pos (by rw[d.o];omega),q2];simp[aB]
   ·obtain⟨F,q2⟩:=af.o h;refine⟨?_,by simp at q2;omega⟩;rcases F with F|F
    ·left;rw[M.o,I.o];simp[F]
    ·exact .inr F
def nw(rd:PT->Bs->Option PV×Bs)(ts:List PT)(acc:List PV)(l1:Bs):Option (List PV)×Bs:=match ts with
 | []=>(none,l1)
 | t::ts=>match rd t l1 with
  |(none,l2)=>(none,l2)
  |(some v,l2)=>bh rd ts 44 (acc++[v]) l2
theorem sK{rd:PT->Bs->Option PV×Bs}{ts:List PT}(cF:ts≠[])(ahead:Nat)(acc:List PV)(l:Bs):bh rd ts ahead acc l=match bz ahead l with|none=>(none,l)|some l1=>nw rd ts acc l1:=by
 rcases ts with _|⟨t,ts⟩
 ·exact absurd rfl cF
 ·simp only[bh,nw];rcases bz ahead l with _|l1<;>rfl
def pw(k:Nat)(t:PT)(l aF:Bs)(i:Nat)(bad:Bool)(r dT:Bs):Prop :=
 r.length<=l.length /\
 (bad=false->∃ vs:List PV,vs.length=i/\dT=aF++vs.flatMap (aG k)/\dT.length+8*r.length<=aF.length+8*l.length /\
   (i=0->bh (ay k) t.subs 123 [] l=nw (ay k) t.subs [] r)/\(0<i->bh (ay k) t.subs 123 [] l=bh (ay k) (t.subs.drop i) 44 vs r)) /\
 (bad=true->bh (ay k) t.subs 123 [] l=(none,r)/\dT.length<=aF.length+8*l.length+600*k)
theorem pw.start(cF:t.subs≠[])(l aF:Bs):pw k t l aF 0 (aA 123 l false).2 (aA 123 l false).1 aF:=by
 have e:=sK (rd:=ay k) cF 123 [] l;rcases hq:bz 123 l with _|a
 ·rw[hq] at e;exact⟨by simp[aA,hq],by simp[aA,hq],fun _=>⟨by rw[e];simp[aA,hq],by omega⟩⟩
 ·rw[hq] at e;obtain⟨b,rfl,_⟩:=bp hq;exact⟨by simp[aA,hq],fun _=>⟨[],rfl,by simp,by simp[aA,hq];omega,fun _=>by rw[e];simp[aA,hq],fun h=>by omega⟩,by simp[aA,hq]⟩
theorem xA(hi:i<t.subs.length):t.subs.drop i=t.sub i::t.subs.drop (i+1):=by
 rw[List.drop_eq_getElem_cons hi];simp[PT.sub,hi]
def RecM(k:Nat)(t:PT)(l aF:Bs)(i:Nat)(bad:Bool)(r dT:Bs):Prop :=
 r.length<=l.length/\(bad=true->bh (ay k) t.subs 123 [] l=(none,r)/\dT.length<=aF.length+8*l.length+600*k) /\
  (bad=false->∃ vs:List PV,vs.length=i/\dT=aF++vs.flatMap (aG k)/\dT.length+8*r.length<=aF.length+8*l.length/\bh (ay k) t.subs 123 [] l=nw (ay k) (t.subs.drop i) vs r)
theorem pw.first{aF:Bs}{bad:Bool}{dT:Bs}(h:pw k t l aF 0 bad r dT):RecM k t l aF 0 bad r dT:=by
 obtain⟨b,c,d⟩:=h;refine⟨b,d,fun hb=>?_⟩;obtain⟨e,a,f,g,i,_⟩:=c hb;obtain rfl:e=[]:=List.eq_nil_of_length_eq_zero a;exact⟨[],a,f,g,i rfl⟩
theorem pw.comma{aF:Bs}{bad:Bool}{dT:Bs}(h:pw k t l aF i bad r dT)(hi:0<i)(IU:i<t.subs.length):RecM k t l aF i (aA 44 r bad).2 (aA 44 r bad).1 dT:=by
 obtain⟨c,j,m⟩:=h;cases bad with
 | true =>
  obtain⟨d,e⟩:=m rfl;exact⟨by simpa[aA] using c,fun _=>⟨by simpa[aA] using d,e⟩,fun h=>by simp[aA] at h⟩
 | false =>
  obtain⟨f,d,e,n,_,a⟩:=j rfl;have a:=a hi;have g:=sK (rd:=ay k) (ts:=t.subs.drop i) (by rw[xA IU];simp) 44 f r;rw[g] at a;rcases hq:bz 44 r with _|o
  ·rw[hq] at a;exact⟨by simpa[aA,hq] using c,fun _=>⟨by simpa[aA,hq] using a,by omega⟩,fun h=>by simp[aA,hq] at h⟩
  ·rw[hq] at a;obtain⟨b,rfl,_⟩:=bp hq;simp only[List.length_cons] at c n;exact⟨by simp[aA,hq];omega,fun h=>by simp[aA,hq] at h,fun _=>⟨f,d,e,by simp[aA,hq];omega,by simpa[aA,hq] using a⟩⟩
theorem RecM.bad{aF:Bs}{dT:Bs}(h:RecM k t l aF i true r dT):pw k t l aF (i+1) true r dT:=⟨h.1,fun h=>by simp at h,h.2.1⟩
theorem RecM.good{aF:Bs}{wN:Bs}(h:RecM k t l aF i false r wN)(hi:i<t.subs.length)(hW:c8 k (t.sub i))
  {r' dT:Bs} {bd:Bool} (hr:r'=(ay k (t.sub i) r).2) (dK:r'.length<=r.length)
  (hg:bd=false->∃ v,(ay k (t.sub i) r).1=some v/\dT=wN++aG k v) (hb:bd=true->((ay k (t.sub i) r).1=none\/kj r')/\dT.length<=wN.length+(8*r.length+600*k)) :
  pw k t l aF (i+1) bd r' dT:=by
 obtain⟨p,_,g⟩:=h;obtain⟨j,m,n,q,b⟩:=g rfl;rw[xA hi] at b;simp only[nw] at b;rcases hp:ay k (t.sub i) r with⟨o,s⟩;rw[hp] at hr hg hb b;simp only at hr;subst hr;cases bd with
 | true =>
  obtain⟨a,w⟩:=hb rfl;refine⟨by omega,fun h=>by simp at h,fun _=>⟨?_,by omega⟩⟩;rw[b];rcases o with _|v
  ·rfl
  ·rcases a with a|a
   ·simp at a
   ·simp only;rcases t.subs.drop (i+1) with _|⟨u,x⟩
    ·simp only[bh,a.acc (c:=125) (by omega)]
    ·simp only[bh,a.acc (c:=44) (by omega)]
 | false =>
  obtain⟨v,e,f⟩:=hg rfl;simp only at e;subst e;have d:=wW hW hp;refine⟨by omega,fun _=>⟨j++[v],by simp[m],by rw[f,n];simp,by rw[f,List.length_append];omega,fun h=>by omega,fun _=>by rw[b]⟩,fun h=>by simp at h⟩
theorem pw.fin{aF:Bs}{bad:Bool}{dT:Bs}(h:pw k t l aF i bad r dT)(hi:0<i)(IU:i=t.subs.length):
  (aA 125 r bad).1.length<=l.length/\(aA 125 r bad).1=(bh (ay k) t.subs 123 [] l).2/\((aA 125 r bad).2=false->∃ vs,(bh (ay k) t.subs 123 [] l).1=some vs/\dT=aF++vs.flatMap (aG k))/\((aA 125 r bad).2=true->(bh (ay k) t.subs 123 [] l).1=none)/\dT.length<=aF.length+8*l.length+600*k:=by
 obtain⟨c,f,g⟩:=h;cases bad with
 | true =>
  obtain⟨d,e⟩:=g rfl;exact⟨by simpa[aA] using c,by simp[aA,d],by simp[aA],by simp[d],e⟩
 | false =>
  obtain⟨vs,d,e,j,_,a⟩:=f rfl;have a:=a hi;rw[IU,List.drop_length] at a;simp only[bh] at a;rcases hq:bz 125 r with _|m
  ·rw[hq] at a;exact⟨by simpa[aA,hq] using c,by simp[aA,hq,a],by simp[aA,hq],by simp[a],by omega⟩
  ·rw[hq] at a;obtain⟨b,rfl,_⟩:=bp hq;simp only[List.length_cons] at c j;exact⟨by simp[aA,hq];omega,by simp[aA,hq,a],fun _=>⟨vs,by simp[a],e⟩,by simp[aA,hq],by omega⟩
theorem BA{aF:Bs}(hV:qS k)(h:qY w B mb db s l aF tab roots)(hI:Is tab x t)(hk:t.kind=9)(hW:c8 (k+1) t)(hr:aF.length+8*l.length+600*(k+1)<=800000000):
  Calls Tryz.prog 67 #[.pointer (some ⟨mb,0,none⟩),.int .i64 x] w fun e w'=>EPost mb B db s aF (8*l.length+600*(k+1)) w l (ay (k+1) t l) (aG (k+1)) e w':=by
 have HW:=ab hW;have HV:=ab hV;clear hW hV;obtain⟨ov,hb⟩:=h.ms.block;have h0:=hb.dM;have h4:=hb.gS;have K:=ab h;have am:=ab hI;have an:=hb.lt;have S:s.size<=maxLen:=by unfold maxLen;have:=h.hs;omega
 have O:=ab S;clear h hI hb S;go_enter Tryz.func67,Tryz.ntmps67;go_wp2_with fail;refine(fG K.o.df x t am.o K.o.hB K.o.tl).mono ?_;rintro e w1 ⟨Q,c,o,aR,a,rfl,aE,p⟩;have HE:Hi (ay (k+1) t l=((bh (ay k) t.subs 123 [] l).1.map (bE t 0),(bh (ay k) t.subs 123 [] l).2)):=ab (by simp only[ay];rw[if_neg (by omega),if_neg (by omega),if_neg (by omega),if_neg (by omega),if_neg (by omega),if_neg (by omega),if_neg (by omega),if_pos hk]);have T:0<t.subs.length:=HW.o.2.2.2.1 (by omega);have aN:t.subs.length<=6:=HW.o.2.2.2.2.2.1.1;have v:c.of.length=t.subs.length:=aE.len;have U:=aE.kind;rw[U] at p ⊢;have L:=p.ae Q.dV;obtain⟨go,co,rfl,X⟩:=T9.new L (by omega);obtain⟨pn,qn,rfl⟩:=p.2.2.1.shape;obtain⟨pa,qa,rfl⟩:=p.2.2.2.shape;have P:Hi (∀ i,i<t.subs.length->Is tab (aj c.of i) (t.sub i)):=fun i hi=>aE.sub i hi
 have j:=ab (Q.trans (Fr.alloc Zero w1 (.cells #[.int .i64 t.kind,.slice (some ⟨go,0,none⟩) c.of.length co,.slice pn (texts c.names).length qn,.slice pa (ints c.ats).length qa] 183)));have y:=ab X;have z:=ab v;rw[hk] at y;rw[hk] at j;rw[hk];simp only[ID] at y j;have d:=ab hk;have ao:Hi (t.subs≠[]):=fun e=>by rw[e] at T;simp at T
 have ap:Hi (∀ i,i<t.subs.length->c8 k (t.sub i)):=fun i hi=>HW.o.sub (i:=i) hi
 have m:=ab (K.o.quiet j.o);have V:=ab (gD.quiet j.o an);rw[v] at y m V;rw[v];clear Q aE p L U X v hk h0 h4 j;go_wp2_with fail;generalize w1.alloc (.cells #[.int .i64 9,.slice (some ⟨go,0,none⟩) t.subs.length co,.slice pn (texts c.names).length qn,.slice pa (ints c.ats).length qa] 183)=w2 at *;refine(j8 m.o.ms O.o 123 (by omega) (by omega)).mono ?_;rintro e w3 ⟨E,Y,rfl⟩;have aq:=ab (pw.start (k:=k) ao.o l aF);have ar:=ab (V.o.trans E);have au:=ab (y.o.nZ m.o.ms E);have av:Hi (DF w3 B db tab roots):=m.o.df.ae (m.o.ms.mH E);have aw:=ab Y;clear E Y;go_wp2_with fail
 go_loopw [9] (fun iv wr=>∃(i:Nat) (g:Bool) (r dT:Bs),i<=t.subs.length/\iv=.int .i64 i/\Hi (pw k t l aF i g r dT)/\Hi (MS wr B mb db s r g dT)/\Hi (gD mb w wr)/\Hi (T9 wr B w1.heap.size c 9 go co (.slice pn (texts c.names).length qn) (.slice pa (ints c.ats).length qa))/\Hi (DF wr B db tab roots)) (fun iv _=>t.subs.length-(intOf iv).toNat)
 case atStart=>exact⟨0,_,_,aF,by omega,rfl,aq,aw,ar,au,av⟩
 case round =>
  obtain⟨i,g,r,wN,GB,rfl,R,u,F,G,Z⟩:=hrel;have c1:=G.o.lg z.o;have aO:B<=wr.heap.size:=Nat.le_trans K.o.hB F.o.fr.size
  by_cases b:i<t.subs.length
  ·have hI:(i:Int)<(t.subs.length:Int):=by omega
   have c2:=G.o.of i (by rw[z.o];exact b);have ax:=ab (P.o i b);have W:=ab (ap.o i b);rcases Nat.eq_zero_or_pos i with H|H
   case' inl =>
    subst H;have A:=ab R.o.first;have f:=u;have C:=F;have n:=G;have D:=Z;generalize wr=w4 at *;generalize r=r4 at *;generalize g=bad4 at *;go_wp2_with fail
   case' inr =>
    have aP:(0:Int)<(i:Int):=by omega
    have A:=ab (R.o.comma H b);clear H;go_wp2_with fail;refine(j8 u.o O.o 44 (by omega) (by omega)).mono ?_;rintro e w4 ⟨I,aa,rfl⟩;have C:=ab (F.o.trans I);have n:=ab (G.o.nZ u.o I);have D:Hi (DF w4 B db tab roots):=Z.o.ae (u.o.mH I);have f:=ab aa;generalize (aA 44 r g).1=r4 at *;generalize (aA 44 r g).2=bad4 at *;clear I aa c1 c2;have c1:=n.o.lg z.o;have c2:=n.o.of i (by rw[z.o];exact b);go_wp2_with fail
   all_goals
    cases bad4 with
    | true =>
     refine(qz f.o _).mono ?_;rintro e w6 ⟨rfl,e6⟩;obtain rfl:=e6.symm;go_wp2_with fail
     go_roundw
     case rel=>exact⟨_,true,r4,wN,by omega,by go_num,A.o.bad,f,C,n,D⟩
     case measure=>simp[intOf];omega
    | false =>
     have az:B<=w4.heap.size:=Nat.le_trans K.o.hB C.o.fr.size
     have aB:Hi (wN.length+8*r4.length<=aF.length+8*l.length):=by
      obtain⟨vs,_,_,q,_⟩:=A.o.2.2 rfl;exact q
     have aQ:=aB.o;refine(HV.o w4 B mb db s r4 wN tab roots _ _ ⟨f.o,D.o,K.o.hs,K.o.tl,az⟩ ax.o W.o (by omega)).mono ?_;rintro e w6 ⟨J,r6,ac,ad,af,rfl,ag,N,ah,ai⟩;have aC:=ab (A.o.good b W.o ag N ah ai);have aD:=ab (C.o.trans J);have aH:=ab (n.o.nZ f.o J);have aI:Hi (DF w6 B db tab roots):=D.o.ae (f.o.mH J);have aJ:=ab af;clear J af ag N ah ai;go_wp2_with fail
     go_roundw
     case rel=>exact⟨_,ac,r6,ad,by omega,by go_num,aC,aJ,aD,aH,aI⟩
     case measure=>simp[intOf];omega
  ·have M:i=t.subs.length:=by omega
   have hI:¬(i:Int)<(t.subs.length:Int):=by omega
   have aK:=ab (R.o.fin (by omega) M);clear M b;go_wp2_with fail;refine(j8 u.o O.o 125 (by omega) (by omega)).mono ?_;rintro e w5 ⟨ak,al,rfl⟩;have aL:=ab (F.o.trans ak);have aM:=ab al;clear ak al;go_wp2_with fail
   go_end0
   obtain⟨q1,q2,q3,q4,q5⟩:=aK.o;refine⟨aL,_,_,wN,aM,rfl,by rw[HE.o];exact q2,q1,fun h=>?_,fun h=>⟨.inl (by rw[HE.o];simp[q4 h]),by omega⟩⟩;obtain⟨vs,e1,e2⟩:=q3 h;refine⟨_,by rw[HE.o];simp[e1];rfl,?_⟩;show _=aF++aG (k+1) ⟨t,_,_,_⟩;rw[cQ,if_neg (by rw[d.o];omega),if_neg (by rw[d.o];omega),if_neg (by rw[d.o];omega),if_neg (by rw[d.o];omega),if_neg (by rw[d.o];omega),if_pos (by rw[d.o]),e2]
theorem BC{aF:Bs}(hV:qS k)(h:qY w B mb db s l aF tab roots)(hI:Is tab x t)(hk:t.kind=10)(hW:c8 (k+1) t)(hr:aF.length+8*l.length+600*(k+1)<=800000000):
  Calls Tryz.prog 67 #[.pointer (some ⟨mb,0,none⟩),.int .i64 x] w fun e w'=>EPost mb B db s aF (8*l.length+600*(k+1)) w l (ay (k+1) t l) (aG (k+1)) e w':=by
 have D:=ab hW;have R:=ab hV;clear hW hV;obtain⟨Y,C⟩:=h.ms.block;have W:=C.dM;have X:=C.gS;have A:=ab h;have E:=ab hI;have F:=C.lt;have q:s.size<=maxLen:=by unfold maxLen;have:=h.hs;omega
 have S:=ab q;clear h hI C q;go_enter Tryz.func67,Tryz.ntmps67;go_wp2_with fail;refine(fG A.o.df x t E.o A.o.hB A.o.tl).mono ?_;rintro e K ⟨n,c,o,V,a,rfl,aE,i⟩;have G:Hi (ay (k+1) t l=((gZ (ay k) t l).1.map (fun p=>bE t p.1 [p.2]),(gZ (ay k) t l).2)):=ab (by simp only[ay];rw[if_neg (by omega),if_neg (by omega),if_neg (by omega),if_neg (by omega),if_neg (by omega),if_neg (by omega),if_neg (by omega),if_neg (by omega)]);have H:0<t.subs.length:=D.o.2.2.2.1 (by omega);have I:t.subs.length<=6:=D.o.2.2.2.2.2.1.1;have r:c.of.length=t.subs.length:=aE.len;have u:=aE.kind;rw[u] at i ⊢;have d:=i.ae n.dV;obtain⟨L,M,rfl,y⟩:=T9.new d (by omega);have il:c.names.length=t.subs.length:=(aE.nml (by omega)).trans r
 have j:c.names=t.names:=by
  have:=aE.nms
  unfold kL at this;rw[if_neg (by intro h;rw[List.isEmpty_iff] at h;rw[h] at il;simp at il;omega)] at this;exact this
 obtain⟨N,O,rfl,z⟩:=N9.new d j (by rw[j] at il;omega);obtain⟨P,Q,rfl⟩:=i.2.2.2.shape;have v:=ab aE;have f:=ab (n.trans (Fr.alloc Zero K (.cells #[.int .i64 t.kind,.slice (some ⟨L,0,none⟩) c.of.length M,.slice (some ⟨N,0,none⟩) t.names.length O,.slice P (ints c.ats).length Q] 183)));have g:=ab y;have m:=ab (z.quiet (Fr.alloc Zero K (.cells #[.int .i64 t.kind,.slice (some ⟨L,0,none⟩) c.of.length M,.slice (some ⟨N,0,none⟩) t.names.length O,.slice P (ints c.ats).length Q] 183)));rw[hk] at g f m;rw[hk];simp only[Ia] at g f m;have b:=ab hk;clear n aE i d u y z r hk H I il j;go_wp2_with fail;refine(xd R.o (A.o.quiet f.o) b.o D.o v.o g.o.of g.o.lt m.o (by omega)).mono ?_;intro e Z J;have T:=J.end_;subst T;have U:=ab (EPost.pre (gD.quiet f.o F) J);clear J;go_wp2_with fail
 go_end0
 refine U.o.map (by rw[G.o]) (fun a ha=>⟨_,by rw[G.o];simp[ha];rfl,?_⟩) (fun hn=>by rw[G.o];simp[hn]) (by omega);show aG (k+1) ⟨t,_,_,_⟩=_;rw[cQ,if_neg (by rw[b.o];omega),if_neg (by rw[b.o];omega),if_neg (by rw[b.o];omega),if_neg (by rw[b.o];omega),if_neg (by rw[b.o];omega),if_neg (by rw[b.o];omega)];simp
theorem yY:∀ k,qS k:=by
 intro k
 induction k with
 | zero=>intro w B i j s l aF e c x t h a d;exact d.elim
 | succ k ih =>
  intro w B i j s l aF e c x t h a d b;have v:=d.1
  by_cases g:t.kind<=2
  ·exact DI h a g b
  obtain m|n|o|p|q|r|u|f:t.kind=3\/t.kind=4\/t.kind=5\/t.kind=6\/t.kind=7\/t.kind=8\/t.kind=9\/t.kind=10:=by omega
  ·exact GZ h a m b
  ·exact FL h a n b
  ·exact FJ h a o b
  ·exact DJ h a p b
  ·exact FK ih h a q d b
  ·exact BB ih h a r d b
  ·exact BA ih h a u d b
  ·exact BC ih h a f d b
theorem xz(hD:DF w w.heap.size db tab roots)(hp:0<roots.length)(hl:roots.length<=1000)(htl:tab.length<=1000000)(t:PT)(hI:Is tab (aj roots (roots.length-1)) t)(hW:c8 12 t)(s value:ByteArray)(hd:value.size<=1048576):
  Calls Tryz.prog 48 #[.pointer (some ⟨db,0,none⟩),.string value] w fun e w'=>jM w (gm s value (ay 12 t value.data.toList)) e w':=by
 have N:db<w.heap.size:=by
  obtain⟨g,au,R,_⟩:=hD.root hp;exact World.block_lt_of_cell? w _ R
 go_enter Tryz.func48,Tryz.ntmps48;go_wp2_with fail;have l:=ab (hD.ae (Fr.alloc (bk w.heap.size) w (.cells #[.pointer (some ⟨db,0,none⟩),.string value,.int .i64 0,.slice none 0 0,.bool false] 140)));refine(vR l.o hp hl).mono ?_;rintro e F ⟨rfl,x,S⟩;obtain rfl:=S.symm;have n:Hi (Fr Zero w ((w.alloc (.cells #[.pointer (some ⟨db,0,none⟩),.string value,.int .i64 0,.slice none 0 0,.bool false] 140)).drewN x)):=(Fr.alloc _ _ _).trans (Fr.drewN _ _ _)
 have A:Hi (MB ((w.alloc (.cells #[.pointer (some ⟨db,0,none⟩),.string value,.int .i64 0,.slice none 0 0,.bool false] 140)).drewN x) w.heap.size db value value.data.toList false (.slice none 0 0)):=by
  obtain⟨T,U⟩:=tA value;refine⟨by rw[Array.length_toList];exact Nat.le_refl _,T,?_⟩;rw[U];exact af rfl _
 have B:Hi (MS ((w.alloc (.cells #[.pointer (some ⟨db,0,none⟩),.string value,.int .i64 0,.slice none 0 0,.bool false] 140)).drewN x) w.heap.size w.heap.size db value value.data.toList false []) :=
  ⟨_,A.o,Nat.le_refl _,BO.nil _ _⟩
 have C:=ab (l.o.ae (Fr.drewN (bk w.heap.size) _ x));generalize (w.alloc (.cells #[.pointer (some ⟨db,0,none⟩),.string value,.int .i64 0,.slice none 0 0,.bool false] 140)).drewN x=F at *;have k9:value.data.toList.length<=1048576:=by rw[Array.length_toList];exact hd
 have I:Hi (qY F w.heap.size w.heap.size db value value.data.toList [] tab roots):=⟨B.o,C.o,hd,htl,n.o.size⟩;go_wp2_with fail;refine(yY 12 F w.heap.size w.heap.size db value value.data.toList [] tab roots _ t I.o hI hW (by simp only[List.length_nil];omega)).mono ?_;rintro e V ⟨ao,r,G,dT,Eb,rfl,H,dK,c,d⟩;have i:Hi (Fr Zero w V):=n.o.past (I.o.ms.mH ao);obtain⟨ov,a,_,f⟩:=Eb;have X:=a.fM;have Y:=a.dw;have Z:=a.gS;have O:=a.gj;rcases hp':ay 12 t value.data.toList with⟨p,W⟩;rw[hp'] at H c d;simp only at H;subst H;cases G with
 | true =>
  have k:Hi (gm s value (p,r)=(⟨#[]⟩,5,pos value r)):=by
   show _=_;refine uG ?_
   rintro⟨v,z⟩
   obtain⟨rfl,rfl⟩:=Prod.mk.inj z;rcases(d rfl).1 with h|⟨b,W,h,_⟩
   ·simp at h
   ·simp at h
  go_wp2
  go_quiet (fail)
  go_wp2;go_ret3;rw[hp',k.o];exact⟨i.o.trans (Fr.drewN _ _ _),rfl⟩
 | false =>
  obtain⟨v,z,y⟩:=c rfl;simp only at z;subst z;simp only[List.nil_append] at y;subst y;rcases r with _|⟨b,r⟩
  ·have J:=a.end;have D:¬((pos value []:Nat):Int)<(value.size:Int):=by omega
   obtain⟨oa,oc,rfl⟩:=f.len
   by_cases bZ:(aG 12 v).length<=1000
   ·have E:¬(1000:Int)<(((aG 12 v).length:Nat):Int):=by omega
    have k:Hi (gm s value (some v,[])=(ba (aG 12 v),0,0)):=ab (by unfold gm;simp only;rw[if_pos bZ]);have P:=f.conv;generalize aG 12 v=m at *;go_wp2;go_ret3;rw[hp',k.o];exact⟨i,rfl⟩
   ·have E:(1000:Int)<(((aG 12 v).length:Nat):Int):=by omega
    have k:Hi (gm s value (some v,[])=(⟨#[]⟩,1,0)):=ab (by unfold gm;simp only;rw[if_neg bZ]);generalize aG 12 v=m at *;go_wp2;go_ret3;rw[hp',k.o];exact⟨i,rfl⟩
  ·have Q:=a.next.1;have D:((pos value (b::r):Nat):Int)<(value.size:Int):=by omega
   have k:Hi (gm s value (some v,b::r)=(⟨#[]⟩,5,pos value (b::r))):=uG (by rintro⟨v',h⟩;simp at h);go_wp2
   go_quiet (fail)
   go_wp2;go_ret3;rw[hp',k.o];exact⟨i.o.trans (Fr.drewN _ _ _),rfl⟩
end Go.Proofs.YtpffifpbpmlhdaaGreatDoor
