import Derived.Test.YtpffifpbpmlhdaaGreatDoorBsParse
set_option maxHeartbeats 32000000
set_option maxRecDepth 100000
namespace Go.Proofs.YtpffifpbpmlhdaaGreatDoor
open Go.RowKit
variable {w w' W wq:World}{X Y:Nat->Prop}{v tv lv av rv o v' nv a:Value}{xs:List Value}{db n k B tb:Nat}{s:ByteArray}{bad:Bool}{ob:Obj}
structure RT where
 kind:Nat
 of:List Nat
 names:List ByteArray
 ats:List Nat
structure RV where
 k:Nat
 o:Value
 n:Value
 a:Value
def dZ(l:List RV):List Value:=l.flatMap fun r=>[.int .i64 r.k,r.o,r.n,r.a]
def ints(l:List Nat):List Value:=l.map fun(x:Nat)=>.int .i64 (x:Int)
def texts(l:List ByteArray):List Value:=l.map .string
theorem tX(l:List RV)(r:RV):dZ (l++[r])=dZ l++[.int .i64 r.k,r.o,r.n,r.a]:=by simp[dZ]
theorem vN(l:List RV):∀(j:Nat) (r:RV),l[j]?=some r->(dZ l)[j*4]?=some (.int .i64 r.k)/\(dZ l)[j*4+1]?=some r.o/\(dZ l)[j*4+2]?=some r.n/\(dZ l)[j*4+3]?=some r.a:=by
 induction l with
 | nil=>intro j p h;simp at h
 | cons q l ih =>
  intro j p h;cases j with
  | zero=>simp at h;subst h;exact⟨rfl,rfl,rfl,rfl⟩
  | succ j =>
   have b:l[j]?=some p:=by simpa using h
   have e:dZ (q::l)=.int .i64 q.k::q.o::q.n::q.a::dZ l:=rfl;rw[e,show(j+1)*4=j*4+1+1+1+1 by omega];exact ih j p b
def SL(w:World)(X:Nat->Prop)(e:TypeId)(v:Value)(xs:List Value):Prop:=w.ownsRow 0 e 1 v xs.length xs/\∀ g,v.ownBlock=some g->¬X g
def qW(w:World)(X:Nat->Prop)(r:RV)(t:RT):Prop:=r.k=t.kind/\SL w X 3 r.o (ints t.of)/\SL w X 9 r.n (texts t.names)/\SL w X 3 r.a (ints t.ats)
def mm(w:World)(X:Nat->Prop)(rows:List RV)(tab:List RT):Prop :=
 rows.length=tab.length/\∀(j:Nat) (r:RV) (t:RT),rows[j]?=some r->tab[j]?=some t->qW w X r t
theorem SL.ae{e:TypeId}(h:SL w X e v xs)(hf:Fr X w w'):SL w' X e v xs:=⟨ag h.1 hf h.2,h.2⟩
theorem SL.aY{e:TypeId}(h:SL w X e v xs)(od:∀ b,b<w.heap.size->Y b->X b):SL w Y e v xs:=⟨h.1,fun g hg hy=>h.2 g hg (od g (h.1.lt g hg).2 hy)⟩
theorem SL.nil(w:World)(X:Nat->Prop)(e:TypeId):SL w X e (.slice none 0 0) []:=⟨World.ownsRow_nil _ _ _ _,fun g hg=>by simp[Value.ownBlock] at hg⟩
theorem qW.ae{r:RV}{t:RT}(h:qW w X r t)(hf:Fr X w w'):qW w' X r t:=⟨h.1,h.2.1.ae hf,h.2.2.1.ae hf,h.2.2.2.ae hf⟩
theorem qW.aY{r:RV}{t:RT}(h:qW w X r t)(od:∀ b,b<w.heap.size->Y b->X b):qW w Y r t:=⟨h.1,h.2.1.aY od,h.2.2.1.aY od,h.2.2.2.aY od⟩
theorem mm.ae{rows:List RV}{tab:List RT}(h:mm w X rows tab)(hf:Fr X w w'):mm w' X rows tab:=⟨h.1,fun j r t hr ht=>(h.2 j r t hr ht).ae hf⟩
theorem mm.aY{rows:List RV}{tab:List RT}(h:mm w X rows tab)(od:∀ b,b<w.heap.size->Y b->X b):mm w Y rows tab:=⟨h.1,fun j r t hr ht=>(h.2 j r t hr ht).aY od⟩
theorem mm.snoc{rows:List RV}{tab:List RT}(h:mm w X rows tab){r:RV}{t:RT}(ht:qW w X r t):mm w X (rows++[r]) (tab++[t]):=by
 have b:=h.1;refine⟨by simp[b],fun j p q hp hq=>?_⟩
 by_cases c:j<rows.length
 ·rw[List.getElem?_append_left c] at hp;rw[List.getElem?_append_left (by omega)] at hq;exact h.2 j p q hp hq
 ·rw[List.getElem?_append_right (by omega)] at hp hq
  have a:j-rows.length=0:=by
   rcases Nat.eq_zero_or_pos (j-rows.length) with e|e
   ·exact e
   ·rw[List.getElem?_eq_none (by simp;omega)] at hp;cases hp
  rw[<-b,a] at hq;rw[a] at hp;simp at hp hq;subst hp hq;exact ht
def DB(w:World)(db:Nat)(s:ByteArray)(n:Nat)(bad:Bool)(tv lv av rv:Value):Prop :=
 w.heap[db]?=some (.cells #[.string s,.int .i64 n,tv,lv,av,rv,.bool bad] 162 (0,0))
section
variable {w w':World} {db:Nat} {s:ByteArray} {n:Nat} {bad:Bool} {tv lv av rv:Value}
theorem DB.dM(h:DB w db s n bad tv lv av rv):w.cell? ⟨db,0,none⟩=some (.string s):=by rw[cell_of_heap h];rfl
theorem DB.cE(h:DB w db s n bad tv lv av rv):w.cell? ⟨db,1,none⟩=some (.int .i64 n):=by rw[cell_of_heap h];rfl
theorem DB.fM(h:DB w db s n bad tv lv av rv):w.cell? ⟨db,2,none⟩=some tv:=by rw[cell_of_heap h];rfl
theorem DB.dw(h:DB w db s n bad tv lv av rv):w.cell? ⟨db,3,none⟩=some lv:=by rw[cell_of_heap h];rfl
theorem DB.gS(h:DB w db s n bad tv lv av rv):w.cell? ⟨db,4,none⟩=some av:=by rw[cell_of_heap h];rfl
theorem DB.n9(h:DB w db s n bad tv lv av rv):w.cell? ⟨db,5,none⟩=some rv:=by rw[cell_of_heap h];rfl
theorem DB.zR(h:DB w db s n bad tv lv av rv):w.cell? ⟨db,6,none⟩=some (.bool bad):=by rw[cell_of_heap h];rfl
theorem DB.free(h:DB w db s n bad tv lv av rv)(o:Nat):w.frozen? ⟨db,o,none⟩=false:=ak h
theorem DB.drewN(h:DB w db s n bad tv lv av rv)(k:Nat):DB (w.drewN k) db s n bad tv lv av rv:=h
theorem DB.Cn(h:DB w db s n bad tv lv av rv)(m:Nat):DB (w.setCell ⟨db,1,none⟩ (.int .i64 m)) db s m bad tv lv av rv:=by unfold DB;rw[heap_setCell_same h];rfl
theorem DB.Hx(h:DB w db s n bad tv lv av rv)(v:Value):DB (w.setCell ⟨db,2,none⟩ v) db s n bad v lv av rv:=by unfold DB;rw[heap_setCell_same h];rfl
theorem DB.Hw(h:DB w db s n bad tv lv av rv)(v:Value):DB (w.setCell ⟨db,3,none⟩ v) db s n bad tv v av rv:=by unfold DB;rw[heap_setCell_same h];rfl
theorem DB.set4(h:DB w db s n bad tv lv av rv)(v:Value):DB (w.setCell ⟨db,4,none⟩ v) db s n bad tv lv v rv:=by unfold DB;rw[heap_setCell_same h];rfl
theorem DB.I2(h:DB w db s n bad tv lv av rv)(v:Value):DB (w.setCell ⟨db,5,none⟩ v) db s n bad tv lv av v:=by unfold DB;rw[heap_setCell_same h];rfl
theorem DB.py(h:DB w db s n bad tv lv av rv)(b:Bool):DB (w.setCell ⟨db,6,none⟩ (.bool b)) db s n b tv lv av rv:=by unfold DB;rw[heap_setCell_same h];rfl
theorem DB.alloc(h:DB w db s n bad tv lv av rv)(o:Obj):DB (w.alloc o) db s n bad tv lv av rv:=by unfold DB;rw[Below.heap_alloc _ _ _ (lt_of_heap h)];exact h
theorem DB.ae(h:DB w db s n bad tv lv av rv)(hf:Fr X w w')(hx:¬X db):DB w' db s n bad tv lv av rv:=hf.ae h hx
theorem DB.ne(h:DB w db s n bad tv lv av rv){b:Nat}{c:Array Value}{t:TypeId}{f:Nat×Nat}(hb:w.heap[b]?=some (.cells c t f))(ht:t≠162):b≠db:=by
 intro a;subst a;unfold DB at h;rw[h] at hb;simp at hb;exact ht hb.2.1.symm
end
def iC(s:ByteArray)(n:Nat)(bad:Bool)(c:Nat):Bool:=!bad&&decide (aq s n=c)
theorem dU(h:DB w db s n bad tv lv av rv)(hs:s.size<=maxLen)(bZ:n<=s.size)(cI:Int)(c:Nat)(hc:cI=(c:Int))(BU:c<256):
  Calls Tryz.prog 159 #[.pointer (some ⟨db,0,none⟩),.int .u8 cI] w fun e w'=>e=.returned (.bool (iC s n bad c))/\∃ k,w'=w.drewN k:=by
 have g:=h.dM;have i:=h.cE;have j:=h.zR;have b:=hs;unfold maxLen at b;clear h;cases bad with
 | true =>
  have a:Hi (iC s n true c=false):=rfl;clear hc;go_enter Tryz.func159,Tryz.ntmps159;go_wp2
  go_quiet (fail)
  go_wp2;go_ret;rw[a.o];exact⟨rfl,_,rfl⟩
 | false =>
  by_cases d:n<s.size
  ·have f:((n:Nat):Int)<((s.size:Nat):Int):=by omega
   have a:Hi (iC s n false c=((s[n].toNat:Int)==cI)):=by
    show iC s n false c=_;unfold iC;rw[f9 d,hc];rw[Bool.eq_iff_iff];simp;omega
   clear hc;go_enter Tryz.func159,Tryz.ntmps159;go_wp2
   go_quiet (fail)
   go_wp2;go_ret;rw[a.o];exact⟨rfl,_,rfl⟩
  ·have hd:decide (((n:Nat):Int)<((s.size:Nat):Int))=false:=decide_eq_false (by omega)
   have a:Hi (iC s n false c=false):=by
    show iC s n false c=_;unfold iC;rw[kP d];simp;omega
   clear hc;go_enter Tryz.func159,Tryz.ntmps159;go_wp2
   go_quiet (fail)
   go_wp2;go_ret;rw[a.o];exact⟨rfl,_,rfl⟩
def dQ(s:ByteArray)(n:Nat)(bad:Bool)(c:Nat):Nat:=if iC s n bad c then n+1 else n
def fl(s:ByteArray)(n:Nat)(bad:Bool)(c:Nat):Bool:=if iC s n bad c then false else true
theorem lu(h:DB w db s n bad tv lv av rv)(hs:s.size<=maxLen)(bZ:n<=s.size)(cI:Int)(c:Nat)(hc:cI=(c:Int))(BU:c<256):
  Calls Tryz.prog 108 #[.pointer (some ⟨db,0,none⟩),.int .u8 cI] w fun e w'=>e=.returned (.tuple #[])/\Fr (One db) w w'/\DB w' db s (dQ s n bad c) (fl s n bad c) tv lv av rv/\dQ s n bad c<=s.size:=by
 have m:=ab h;have p:=ab (dU h hs bZ cI c hc BU);have g:=hs;unfold maxLen at g;clear h hc;go_enter Tryz.func108,Tryz.ntmps108;go_wp2_with fail;refine p.o.mono ?_;rintro e l ⟨rfl,k,b⟩;have a:DB l db s n bad tv lv av rv:=by rw[b];exact m
 have r:=a.cE;have t:=a.zR;have u:=a.free 1;have x:=a.free 6;have d:=ab a;have f:Hi (Fr (One db) w l):=by show Fr _ _ _;rw[b];exact Fr.drewN _ _ _
 clear b a;rcases hr:iC s n bad c with _|_
 ·have i:Hi (dQ s n bad c=n):=ab (by unfold dQ;rw[hr];rfl);have j:Hi (fl s n bad c=true):=ab (by unfold fl;rw[hr];rfl);clear hr;go_wp2;refine bodyPost_ret (v:=.tuple #[]) (by simp[results,Tryz.results108,go_sem]) rfl ?_;rw[i.o,j.o];exact⟨rfl,f.o.trans (Fr.setCell _ _ _ _ (show One db db from rfl)),d.o.py true,bZ⟩
 ·have i:Hi (dQ s n bad c=n+1):=ab (by unfold dQ;rw[hr];rfl)
  have j:Hi (fl s n bad c=bad):=by
   show _=_;unfold fl;rw[hr];unfold iC at hr;simp at hr;simp[hr.1]
  have q:n+1<=s.size:=by
   unfold iC at hr;simp at hr;exact bt (by omega)
  clear hr;go_wp2
  go_end0
  rw[i.o,j.o];exact⟨rfl,f.o.trans (Fr.setCell _ _ _ _ (show One db db from rfl)),d.o.Cn (n+1),q⟩
def d7(s:ByteArray)(n:Nat):Bool:=decide (97<=aq s n/\aq s n<=122)
def dA(s:ByteArray)(n:Nat):Bool:=decide (ah s n 6=n+6)&&d7 s (n+6)
def bg(s:ByteArray)(n:Nat)(bad:Bool):Nat:=if bad then n else ah s n 6
def cG(s:ByteArray)(n:Nat)(bad:Bool):Bool:=bad||dA s n||decide (ah s n 6=n)
def cM(s:ByteArray)(n:Nat)(bad:Bool):ByteArray:=if bad then ByteArray.empty else if dA s n then⟨#[]⟩ else ax s n
def qi(db:Nat)(w:World):Nat:=match w.cell? ⟨db,1,none⟩ with
 | some (.int _ q)=>q.toNat
 | _=>0
theorem DB.place(h:DB w db s n bad tv lv av rv):qi db w=n:=by
 unfold qi;rw[h.cE];simp
theorem vm(h:DB w db s n bad tv lv av rv)(hs:s.size<=maxLen)(bZ:n<=s.size):
  Calls Tryz.prog 157 #[.pointer (some ⟨db,0,none⟩)] w fun e w'=>e=.returned (.string (cM s n bad))/\Fr (One db) w w'/\DB w' db s (bg s n bad) (cG s n bad) tv lv av rv/\bg s n bad<=s.size:=by
 have L:=hs;unfold maxLen at L;have q:=h.cE;cases bad with
 | true =>
  have t:=h.dM;have u:=h.zR;have x:=h.free 6;have M:=ab h;clear h;go_enter Tryz.func157,Tryz.ntmps157;go_wp2;refine wp_loop_rounds 1 ?_;rw[rounds_succ];go_wp2
  go_quiet (fail)
  go_wp2;have T:((n:Nat):Int)<=((s.size:Nat):Int):=by omega
  clear t q u x;have a:DB ((w.drewN nq).setCell ⟨db,6,none⟩ (.bool true)) db s n true tv lv av rv:=(M.o.drewN nq).py true;have i:Hi (Fr (One db) w ((w.drewN nq).setCell ⟨db,6,none⟩ (.bool true))):=(Fr.refl _ _).trans ((Fr.drewN _ _ nq).trans (Fr.setCell _ _ _ _ (show One db db from rfl)));generalize (w.drewN nq).setCell ⟨db,6,none⟩ (.bool true)=w2 at *;have E:=a.dM;have F:=a.cE;have j:=ab a;clear a
  go_quiet (fail)
  go_wp2;go_ret;exact⟨rfl,i.o.trans (Fr.drewN _ _ _),j.o.drewN _,bZ⟩
 | false =>
  have M:=ab h;have B:Hi (bg s n false=ah s n 6):=rfl;clear h;go_enter Tryz.func157,Tryz.ntmps157;go_wp2;clear q
  go_loopw [2] (fun v wr=>v=.string ⟨#[]⟩/\∃ m:Nat,n<=m/\m<=n+6/\m<=s.size/\Hi (ah s n 6=ah s m (6-(m-n)))/\Hi (DB wr db s m false tv lv av rv)/\Hi (Fr (One db) w wr)) (fun _ wr=>s.size+1-qi db wr)
  case atStart=>exact⟨rfl,n,Nat.le_refl _,by omega,bZ,by rw[Nat.sub_self];rfl,M,Fr.refl _ _⟩
  case round =>
   obtain⟨rfl,m,W,X,k,J,d,A⟩:=hrel;have t:=d.o.dM;have q:=d.o.cE;have u:=d.o.zR;have x:=d.o.free 6;have G:=d.o.free 1;have N:=ab d.o.place;have U:((n:Nat):Int)<=((m:Nat):Int):=by omega
   by_cases C:m<s.size
   ·have R:((m:Nat):Int)<((s.size:Nat):Int):=by omega
    have H:=f9 C
    by_cases I:97<=s[m].toNat
    ·have O:(97:Int)<=((s[m].toNat:Nat):Int):=by omega
     by_cases K:s[m].toNat<=122
     ·have P:((s[m].toNat:Nat):Int)<=(122:Int):=by omega
      have y:Hi (97<=aq s m/\aq s m<=122):=by show _/\_;rw[H];exact⟨I,K⟩
      clear H
      by_cases r:m=n+6
      ·have D:(((m:Nat):Int)-((n:Nat):Int)==6)=true:=beq_iff_eq.2 (by omega)
       have Q:Hi (dA s n=true/\ah s n 6=m):=by
        have e:ah s n 6=m:=J.o.trans (by rw[show 6-(m-n)=0 by omega];rfl);refine⟨?_,e⟩;unfold dA d7;rw[e,<-r];simp[y.o]
       clear I K r;go_wp2
       go_quiet (fail)
       go_wp2;go_ret;have p:cM s n false=⟨#[]⟩:=by simp[cM,Q.o.1]
       have l:cG s n false=true:=by simp[cG,Q.o.1]
       rw[B.o,Q.o.2,p,l];exact⟨rfl,A.o.trans ((Fr.drewN _ _ _).trans (Fr.setCell _ _ _ _ (show One db db from rfl))),(d.o.drewN _).py true,k⟩
      ·have D:(((m:Nat):Int)-((n:Nat):Int)==6)=false:=beq_eq_false_iff_ne.2 (by omega);have V:=ab r;clear I K r;go_wp2
       go_quiet (fail)
       go_wp2
       go_roundw
       case rel =>
        have:=V.o
        refine⟨rfl,m+1,by omega,by omega,by omega,?_,(d.o.drewN _).Cn (m+1),A.o.trans ((Fr.drewN _ _ _).trans (Fr.setCell _ _ _ _ (show One db db from rfl)))⟩;show ah s n 6=_;rw[J.o,show 6-(m-n)=(6-(m+1-n))+1 by omega];exact lB s m _ y
       case measure =>
        have e:=((d.o.drewN nq).Cn (m+1)).place;rw[N.o];show s.size+1-qi db _<_;rw[show qi db ((wr.drewN nq).setCell ⟨db,1,none⟩ (.int .i64 ((m:Int)+1)))=m+1 from e];omega
     ·have P:decide (((s[m].toNat:Nat):Int)<=(122:Int))=false:=decide_eq_false (by omega);have f:Hi (¬(97<=aq s m/\aq s m<=122)):=by show ¬_;rw[H];omega
      clear H I K;have b:Hi (ah s n 6=m):=J.o.trans (gU s m _ f)
      have c:Hi (dA s n=false):=by
       show dA s n=false;unfold dA;rw[b.o]
       by_cases e:m=n+6
       ·unfold d7;rw[<-e];simp[f.o]
       ·simp[e]
      have p:Hi (cM s n false=s.extract n m):=by show cM s n false=_;simp[cM,c.o,ax,b.o]
      have z:((m:Nat):Int)<=((s.size:Nat):Int):=by omega
      by_cases g:m=n
      ·have D:(((m:Nat):Int)==((n:Nat):Int))=true:=beq_iff_eq.2 (by omega);have l:Hi (cG s n false=true):=by show cG s n false=_;simp[cG,c.o,b.o,g]
       clear g f c;go_wp2
       go_quiet (fail)
       go_wp2;clear t q u x G;have a:DB ((wr.drewN nq).setCell ⟨db,6,none⟩ (.bool true)) db s m true tv lv av rv:=(d.o.drewN nq).py true;have i:Hi (Fr (One db) w ((wr.drewN nq).setCell ⟨db,6,none⟩ (.bool true))):=A.o.trans ((Fr.drewN _ _ nq).trans (Fr.setCell _ _ _ _ (show One db db from rfl)));generalize (wr.drewN nq).setCell ⟨db,6,none⟩ (.bool true)=w2 at *;have E:=a.dM;have F:=a.cE;have j:=ab a;clear a
       go_quiet (fail)
       go_wp2;go_ret;rw[B.o,b.o,p.o,l.o];exact⟨rfl,i.o.trans (Fr.drewN _ _ _),j.o.drewN _,k⟩
      ·have D:(((m:Nat):Int)==((n:Nat):Int))=false:=beq_eq_false_iff_ne.2 (by omega);have l:Hi (cG s n false=false):=by show cG s n false=_;simp[cG,c.o,b.o,g]
       clear g f c;go_wp2
       go_quiet (fail)
       go_wp2;clear t q u x G;have a:DB ((wr.drewN nq).setCell ⟨db,6,none⟩ (.bool false)) db s m false tv lv av rv:=(d.o.drewN nq).py false;have i:Hi (Fr (One db) w ((wr.drewN nq).setCell ⟨db,6,none⟩ (.bool false))):=A.o.trans ((Fr.drewN _ _ nq).trans (Fr.setCell _ _ _ _ (show One db db from rfl)));generalize (wr.drewN nq).setCell ⟨db,6,none⟩ (.bool false)=w2 at *;have E:=a.dM;have F:=a.cE;have j:=ab a;clear a
       go_quiet (fail)
       go_wp2;go_ret;rw[B.o,b.o,p.o,l.o];exact⟨rfl,i.o.trans (Fr.drewN _ _ _),j.o.drewN _,k⟩
    ·have O:decide ((97:Int)<=((s[m].toNat:Nat):Int))=false:=decide_eq_false (by omega);have f:Hi (¬(97<=aq s m/\aq s m<=122)):=by show ¬_;rw[H];omega
     clear H I;have b:Hi (ah s n 6=m):=J.o.trans (gU s m _ f)
     have c:Hi (dA s n=false):=by
      show dA s n=false;unfold dA;rw[b.o]
      by_cases e:m=n+6
      ·unfold d7;rw[<-e];simp[f.o]
      ·simp[e]
     have p:Hi (cM s n false=s.extract n m):=by show cM s n false=_;simp[cM,c.o,ax,b.o]
     have z:((m:Nat):Int)<=((s.size:Nat):Int):=by omega
     by_cases g:m=n
     ·have D:(((m:Nat):Int)==((n:Nat):Int))=true:=beq_iff_eq.2 (by omega);have l:Hi (cG s n false=true):=by show cG s n false=_;simp[cG,c.o,b.o,g]
      clear g f c;go_wp2
      go_quiet (fail)
      go_wp2;clear t q u x G;have a:DB ((wr.drewN nq).setCell ⟨db,6,none⟩ (.bool true)) db s m true tv lv av rv:=(d.o.drewN nq).py true;have i:Hi (Fr (One db) w ((wr.drewN nq).setCell ⟨db,6,none⟩ (.bool true))):=A.o.trans ((Fr.drewN _ _ nq).trans (Fr.setCell _ _ _ _ (show One db db from rfl)));generalize (wr.drewN nq).setCell ⟨db,6,none⟩ (.bool true)=w2 at *;have E:=a.dM;have F:=a.cE;have j:=ab a;clear a
      go_quiet (fail)
      go_wp2;go_ret;rw[B.o,b.o,p.o,l.o];exact⟨rfl,i.o.trans (Fr.drewN _ _ _),j.o.drewN _,k⟩
     ·have D:(((m:Nat):Int)==((n:Nat):Int))=false:=beq_eq_false_iff_ne.2 (by omega);have l:Hi (cG s n false=false):=by show cG s n false=_;simp[cG,c.o,b.o,g]
      clear g f c;go_wp2
      go_quiet (fail)
      go_wp2;clear t q u x G;have a:DB ((wr.drewN nq).setCell ⟨db,6,none⟩ (.bool false)) db s m false tv lv av rv:=(d.o.drewN nq).py false;have i:Hi (Fr (One db) w ((wr.drewN nq).setCell ⟨db,6,none⟩ (.bool false))):=A.o.trans ((Fr.drewN _ _ nq).trans (Fr.setCell _ _ _ _ (show One db db from rfl)));generalize (wr.drewN nq).setCell ⟨db,6,none⟩ (.bool false)=w2 at *;have E:=a.dM;have F:=a.cE;have j:=ab a;clear a
      go_quiet (fail)
      go_wp2;go_ret;rw[B.o,b.o,p.o,l.o];exact⟨rfl,i.o.trans (Fr.drewN _ _ _),j.o.drewN _,k⟩
   ·have S:decide (m<s.size)=false:=decide_eq_false (by omega);have f:Hi (¬(97<=aq s m/\aq s m<=122)):=by show ¬_;rw[kP C];omega
    clear C;have b:Hi (ah s n 6=m):=J.o.trans (gU s m _ f)
    have c:Hi (dA s n=false):=by
     show dA s n=false;unfold dA;rw[b.o]
     by_cases e:m=n+6
     ·unfold d7;rw[<-e];simp[f.o]
     ·simp[e]
    have p:Hi (cM s n false=s.extract n m):=by show cM s n false=_;simp[cM,c.o,ax,b.o]
    have z:((m:Nat):Int)<=((s.size:Nat):Int):=by omega
    by_cases g:m=n
    ·have D:(((m:Nat):Int)==((n:Nat):Int))=true:=beq_iff_eq.2 (by omega);have l:Hi (cG s n false=true):=by show cG s n false=_;simp[cG,c.o,b.o,g]
     clear g f c;go_wp2
     go_quiet (fail)
     go_wp2;clear t q u x G;have a:DB ((wr.drewN nq).setCell ⟨db,6,none⟩ (.bool true)) db s m true tv lv av rv:=(d.o.drewN nq).py true;have i:Hi (Fr (One db) w ((wr.drewN nq).setCell ⟨db,6,none⟩ (.bool true))):=A.o.trans ((Fr.drewN _ _ nq).trans (Fr.setCell _ _ _ _ (show One db db from rfl)));generalize (wr.drewN nq).setCell ⟨db,6,none⟩ (.bool true)=w2 at *;have E:=a.dM;have F:=a.cE;have j:=ab a;clear a
     go_quiet (fail)
     go_wp2;go_ret;rw[B.o,b.o,p.o,l.o];exact⟨rfl,i.o.trans (Fr.drewN _ _ _),j.o.drewN _,k⟩
    ·have D:(((m:Nat):Int)==((n:Nat):Int))=false:=beq_eq_false_iff_ne.2 (by omega);have l:Hi (cG s n false=false):=by show cG s n false=_;simp[cG,c.o,b.o,g]
     clear g f c;go_wp2
     go_quiet (fail)
     go_wp2;clear t q u x G;have a:DB ((wr.drewN nq).setCell ⟨db,6,none⟩ (.bool false)) db s m false tv lv av rv:=(d.o.drewN nq).py false;have i:Hi (Fr (One db) w ((wr.drewN nq).setCell ⟨db,6,none⟩ (.bool false))):=A.o.trans ((Fr.drewN _ _ nq).trans (Fr.setCell _ _ _ _ (show One db db from rfl)));generalize (wr.drewN nq).setCell ⟨db,6,none⟩ (.bool false)=w2 at *;have E:=a.dM;have F:=a.cE;have j:=ab a;clear a
     go_quiet (fail)
     go_wp2;go_ret;rw[B.o,b.o,p.o,l.o];exact⟨rfl,i.o.trans (Fr.drewN _ _ _),j.o.drewN _,k⟩
theorem vq(nm:ByteArray):(([98,121,116,101]:List UInt8)==nm.toList)=decide (wd 0=nm):=by rw[<-fJ,ByteArray.toList_eq (wd 0)];rfl
theorem ya(nm:ByteArray):(([115,104,111,114,116]:List UInt8)==nm.toList)=decide (wd 1=nm):=by rw[<-fJ,ByteArray.toList_eq (wd 1)];rfl
theorem AE(nm:ByteArray):(([119,111,114,100]:List UInt8)==nm.toList)=decide (wd 2=nm):=by rw[<-fJ,ByteArray.toList_eq (wd 2)];rfl
theorem CF(nm:ByteArray):(([105,110,116]:List UInt8)==nm.toList)=decide (wd 3=nm):=by rw[<-fJ,ByteArray.toList_eq (wd 3)];rfl
theorem E4(nm:ByteArray):(([98,111,111,108]:List UInt8)==nm.toList)=decide (wd 4=nm):=by rw[<-fJ,ByteArray.toList_eq (wd 4)];rfl
theorem GV(nm:ByteArray):(([116,101,120,116]:List UInt8)==nm.toList)=decide (wd 5=nm):=by rw[<-fJ,ByteArray.toList_eq (wd 5)];rfl
theorem H8(nm:ByteArray):(([98,121,116,101,115]:List UInt8)==nm.toList)=decide (wd 6=nm):=by rw[<-fJ,ByteArray.toList_eq (wd 6)];rfl
theorem vo(nm:ByteArray)(w:World)(dH:∀ i,i<7->wd i≠nm):
  Calls Tryz.prog 158 #[.string nm] w fun e w'=>e=.returned (.int .i64 (-1))/\Fr Zero w w':=by
 have a:(([98,121,116,101]:List UInt8)==nm.toList)=false:=by rw[vq];exact decide_eq_false (dH 0 (by omega))
 have b:(([115,104,111,114,116]:List UInt8)==nm.toList)=false:=by rw[ya];exact decide_eq_false (dH 1 (by omega))
 have c:(([119,111,114,100]:List UInt8)==nm.toList)=false:=by rw[AE];exact decide_eq_false (dH 2 (by omega))
 have d:(([105,110,116]:List UInt8)==nm.toList)=false:=by rw[CF];exact decide_eq_false (dH 3 (by omega))
 have f:(([98,111,111,108]:List UInt8)==nm.toList)=false:=by rw[E4];exact decide_eq_false (dH 4 (by omega))
 have g:(([116,101,120,116]:List UInt8)==nm.toList)=false:=by rw[GV];exact decide_eq_false (dH 5 (by omega))
 have h:(([98,121,116,101,115]:List UInt8)==nm.toList)=false:=by rw[H8];exact decide_eq_false (dH 6 (by omega))
 clear dH;go_enter Tryz.func158,Tryz.ntmps158
 go_wp2
 refine wp_loop_rounds 8 ?_;rw[rounds_succ];go_wp2;rw[rounds_succ];go_wp2;rw[rounds_succ];go_wp2;rw[rounds_succ];go_wp2;rw[rounds_succ];go_wp2;rw[rounds_succ];go_wp2;rw[rounds_succ];go_wp2;rw[rounds_succ];go_wp2;go_ret;exact⟨rfl,Fr.alloc _ _ _⟩
theorem rC(w:World):
  Calls Tryz.prog 158 #[.string (wd 0)] w fun e w'=>e=.returned (.int .i64 0)/\Fr Zero w w':=by
 have a:(([98,121,116,101]:List UInt8)==(wd 0).toList)=true:=by rw[vq];exact decide_eq_true rfl
 generalize wd 0=nm at *;go_enter Tryz.func158,Tryz.ntmps158
 go_wp2
 refine wp_loop_rounds 8 ?_;rw[rounds_succ];go_wp2;go_ret;exact⟨rfl,Fr.alloc _ _ _⟩
theorem rA(w:World):
  Calls Tryz.prog 158 #[.string (wd 1)] w fun e w'=>e=.returned (.int .i64 1)/\Fr Zero w w':=by
 have a:(([98,121,116,101]:List UInt8)==(wd 1).toList)=false:=by rw[vq];exact decide_eq_false (gd 0 (by omega) 1 (by omega) (by omega))
 have b:(([115,104,111,114,116]:List UInt8)==(wd 1).toList)=true:=by rw[ya];exact decide_eq_true rfl
 generalize wd 1=nm at *;go_enter Tryz.func158,Tryz.ntmps158
 go_wp2
 refine wp_loop_rounds 8 ?_;rw[rounds_succ];go_wp2;rw[rounds_succ];go_wp2;go_ret;exact⟨rfl,Fr.alloc _ _ _⟩
theorem rz(w:World):
  Calls Tryz.prog 158 #[.string (wd 2)] w fun e w'=>e=.returned (.int .i64 2)/\Fr Zero w w':=by
 have a:(([98,121,116,101]:List UInt8)==(wd 2).toList)=false:=by rw[vq];exact decide_eq_false (gd 0 (by omega) 2 (by omega) (by omega))
 have b:(([115,104,111,114,116]:List UInt8)==(wd 2).toList)=false:=by rw[ya];exact decide_eq_false (gd 1 (by omega) 2 (by omega) (by omega))
 have c:(([119,111,114,100]:List UInt8)==(wd 2).toList)=true:=by rw[AE];exact decide_eq_true rfl
 generalize wd 2=nm at *;go_enter Tryz.func158,Tryz.ntmps158
 go_wp2
 refine wp_loop_rounds 8 ?_;rw[rounds_succ];go_wp2;rw[rounds_succ];go_wp2;rw[rounds_succ];go_wp2;go_ret;exact⟨rfl,Fr.alloc _ _ _⟩
theorem ry(w:World):
  Calls Tryz.prog 158 #[.string (wd 3)] w fun e w'=>e=.returned (.int .i64 3)/\Fr Zero w w':=by
 have a:(([98,121,116,101]:List UInt8)==(wd 3).toList)=false:=by rw[vq];exact decide_eq_false (gd 0 (by omega) 3 (by omega) (by omega))
 have b:(([115,104,111,114,116]:List UInt8)==(wd 3).toList)=false:=by rw[ya];exact decide_eq_false (gd 1 (by omega) 3 (by omega) (by omega))
 have c:(([119,111,114,100]:List UInt8)==(wd 3).toList)=false:=by rw[AE];exact decide_eq_false (gd 2 (by omega) 3 (by omega) (by omega))
 have d:(([105,110,116]:List UInt8)==(wd 3).toList)=true:=by rw[CF];exact decide_eq_true rfl
 generalize wd 3=nm at *;go_enter Tryz.func158,Tryz.ntmps158
 go_wp2
 refine wp_loop_rounds 8 ?_;rw[rounds_succ];go_wp2;rw[rounds_succ];go_wp2;rw[rounds_succ];go_wp2;rw[rounds_succ];go_wp2;go_ret;exact⟨rfl,Fr.alloc _ _ _⟩
theorem ru(w:World):
  Calls Tryz.prog 158 #[.string (wd 4)] w fun e w'=>e=.returned (.int .i64 4)/\Fr Zero w w':=by
 have a:(([98,121,116,101]:List UInt8)==(wd 4).toList)=false:=by rw[vq];exact decide_eq_false (gd 0 (by omega) 4 (by omega) (by omega))
 have b:(([115,104,111,114,116]:List UInt8)==(wd 4).toList)=false:=by rw[ya];exact decide_eq_false (gd 1 (by omega) 4 (by omega) (by omega))
 have c:(([119,111,114,100]:List UInt8)==(wd 4).toList)=false:=by rw[AE];exact decide_eq_false (gd 2 (by omega) 4 (by omega) (by omega))
 have d:(([105,110,116]:List UInt8)==(wd 4).toList)=false:=by rw[CF];exact decide_eq_false (gd 3 (by omega) 4 (by omega) (by omega))
 have f:(([98,111,111,108]:List UInt8)==(wd 4).toList)=true:=by rw[E4];exact decide_eq_true rfl
 generalize wd 4=nm at *;go_enter Tryz.func158,Tryz.ntmps158
 go_wp2
 refine wp_loop_rounds 8 ?_;rw[rounds_succ];go_wp2;rw[rounds_succ];go_wp2;rw[rounds_succ];go_wp2;rw[rounds_succ];go_wp2;rw[rounds_succ];go_wp2;go_ret;exact⟨rfl,Fr.alloc _ _ _⟩
theorem rp(w:World):
  Calls Tryz.prog 158 #[.string (wd 5)] w fun e w'=>e=.returned (.int .i64 5)/\Fr Zero w w':=by
 have a:(([98,121,116,101]:List UInt8)==(wd 5).toList)=false:=by rw[vq];exact decide_eq_false (gd 0 (by omega) 5 (by omega) (by omega))
 have b:(([115,104,111,114,116]:List UInt8)==(wd 5).toList)=false:=by rw[ya];exact decide_eq_false (gd 1 (by omega) 5 (by omega) (by omega))
 have c:(([119,111,114,100]:List UInt8)==(wd 5).toList)=false:=by rw[AE];exact decide_eq_false (gd 2 (by omega) 5 (by omega) (by omega))
 have d:(([105,110,116]:List UInt8)==(wd 5).toList)=false:=by rw[CF];exact decide_eq_false (gd 3 (by omega) 5 (by omega) (by omega))
 have f:(([98,111,111,108]:List UInt8)==(wd 5).toList)=false:=by rw[E4];exact decide_eq_false (gd 4 (by omega) 5 (by omega) (by omega))
 have g:(([116,101,120,116]:List UInt8)==(wd 5).toList)=true:=by rw[GV];exact decide_eq_true rfl
 generalize wd 5=nm at *;go_enter Tryz.func158,Tryz.ntmps158
 go_wp2
 refine wp_loop_rounds 8 ?_;rw[rounds_succ];go_wp2;rw[rounds_succ];go_wp2;rw[rounds_succ];go_wp2;rw[rounds_succ];go_wp2;rw[rounds_succ];go_wp2;rw[rounds_succ];go_wp2;go_ret;exact⟨rfl,Fr.alloc _ _ _⟩
theorem rm(w:World):
  Calls Tryz.prog 158 #[.string (wd 6)] w fun e w'=>e=.returned (.int .i64 6)/\Fr Zero w w':=by
 have a:(([98,121,116,101]:List UInt8)==(wd 6).toList)=false:=by rw[vq];exact decide_eq_false (gd 0 (by omega) 6 (by omega) (by omega))
 have b:(([115,104,111,114,116]:List UInt8)==(wd 6).toList)=false:=by rw[ya];exact decide_eq_false (gd 1 (by omega) 6 (by omega) (by omega))
 have c:(([119,111,114,100]:List UInt8)==(wd 6).toList)=false:=by rw[AE];exact decide_eq_false (gd 2 (by omega) 6 (by omega) (by omega))
 have d:(([105,110,116]:List UInt8)==(wd 6).toList)=false:=by rw[CF];exact decide_eq_false (gd 3 (by omega) 6 (by omega) (by omega))
 have f:(([98,111,111,108]:List UInt8)==(wd 6).toList)=false:=by rw[E4];exact decide_eq_false (gd 4 (by omega) 6 (by omega) (by omega))
 have g:(([116,101,120,116]:List UInt8)==(wd 6).toList)=false:=by rw[GV];exact decide_eq_false (gd 5 (by omega) 6 (by omega) (by omega))
 have h:(([98,121,116,101,115]:List UInt8)==(wd 6).toList)=true:=by rw[H8];exact decide_eq_true rfl
 generalize wd 6=nm at *;go_enter Tryz.func158,Tryz.ntmps158
 go_wp2
 refine wp_loop_rounds 8 ?_;rw[rounds_succ];go_wp2;rw[rounds_succ];go_wp2;rw[rounds_succ];go_wp2;rw[rounds_succ];go_wp2;rw[rounds_succ];go_wp2;rw[rounds_succ];go_wp2;rw[rounds_succ];go_wp2;go_ret;exact⟨rfl,Fr.alloc _ _ _⟩
def kindOf(nm:ByteArray):Int:=match cY nm with
 | some k=>(k:Int)
 | none=>-1
theorem nb(nm:ByteArray)(w:World):
  Calls Tryz.prog 158 #[.string nm] w fun e w'=>e=.returned (.int .i64 (kindOf nm))/\Fr Zero w w':=by
 unfold kindOf;rcases hk:cY nm with _|k
 ·exact vo nm w (kr hk)
 ·obtain⟨a,rfl⟩:=eY hk
  match k,a with
  | 0,_=>exact rC w
  | 1,_=>exact rA w
  | 2,_=>exact rz w
  | 3,_=>exact ry w
  | 4,_=>exact ru w
  | 5,_=>exact rp w
  | 6,_=>exact rm w
def bG(s:ByteArray)(n:Nat)(bad:Bool):Bool:=cG s n bad||(cY (cM s n bad)).isSome
theorem rR(nm:ByteArray):decide (0<=kindOf nm)=(cY nm).isSome:=by
 unfold kindOf;rcases cY nm with _|k
 ·rfl
 ·simp
theorem wU(h:DB w db s n bad tv lv av rv)(hs:s.size<=maxLen)(bZ:n<=s.size):
  Calls Tryz.prog 107 #[.pointer (some ⟨db,0,none⟩)] w fun e w'=>e=.returned (.string (cM s n bad))/\Fr (One db) w w'/\DB w' db s (bg s n bad) (bG s n bad) tv lv av rv/\bg s n bad<=s.size:=by
 have q:=ab h;clear h;go_enter Tryz.func107,Tryz.ntmps107;go_wp2_with fail;refine(vm q hs bZ).mono ?_;have k:Hi (bG s n bad=(cG s n bad||(cY (cM s n bad)).isSome)):=rfl;rintro e v ⟨rfl,(j:Hi _),f,eQ⟩;have g:=ab f;clear f;generalize l:cM s n bad=nm at *;have m:=ab l;clear l;go_wp2_with fail;refine(nb nm _).mono ?_;rintro e t ⟨rfl,ao⟩;have b:=ao.ae g.o (fun h=>h);have a:DB t db s (bg s n bad) (cG s n bad) tv lv av rv:=b;have p:=a.zR;have u:=a.free 6;have c:=ab (j.o.trans ao.dV);have d:=ab a;have r:=ab (rR nm);clear ao b a;rcases hb:cG s n bad with _|_
 ·rw[hb] at p;have i:Hi (bG s n bad=decide (0<=kindOf nm)):=ab (by rw[k.o,hb,r.o];rfl);clear hb;go_wp2;go_ret;rw[m.o,i.o];exact⟨rfl,c.o.trans (Fr.setCell _ _ _ _ (show One db db from rfl)),d.o.py _,eQ⟩
 ·rw[hb] at p;have i:Hi (bG s n bad=true):=ab (by rw[k.o,hb];rfl);clear hb;go_wp2;go_ret;rw[m.o,i.o];exact⟨rfl,c.o.trans (Fr.setCell _ _ _ _ (show One db db from rfl)),d.o.py _,eQ⟩
def DS(w:World)(X:Nat->Prop)(db:Nat)(s:ByteArray)(n:Nat)(bad:Bool)(tv lv av rv:Value)(tab:List RT):Prop :=
 DB w db s n bad tv lv av rv/\∃ rows:List RV,w.ownsRow 0 183 4 tv rows.length (dZ rows)/\mm w (XO X tv) rows tab
def Ch(db:Nat)(tv:Value):Nat->Prop:=fun k=>k=db\/tv.ownBlock=some k
theorem Tryz.Hy:(Tryz.prog.info? 183).map (fun i=>(i.zero,i.size,i.bytes))=some (some (.agg #[.int .i64 0,.slice none 0 0,.slice none 0 0,.slice none 0 0]),4,80):=by kernel_rfl
theorem qW.shape{r:RV}{t:RT}(h:qW w X r t):∀ v,(v=r.o\/v=r.n\/v=r.a)->∃ a n c,v=.slice a n c:=by
 have f:∀(e:TypeId) (v:Value) (b:List Value),SL w X e v b->∃ a n c,v=.slice a n c:=by
  intro e v b d;rcases d.1.2 with⟨h,_⟩|⟨g,au,i,h,_⟩
  ·exact⟨_,_,_,h⟩
  ·exact⟨_,_,_,h⟩
 rintro v (rfl|rfl|rfl)
 ·exact f _ _ _ h.2.1
 ·exact f _ _ _ h.2.2.1
 ·exact f _ _ _ h.2.2.2
theorem yT{x y z u:Value}{t:TypeId}(hk:w.heap.size=k)(he:w'.heap=(w.alloc (.cells #[x,y,z,u] t)).heap):∀(j:Nat) (q:Value),[x,y,z,u][j]?=some q->w'.cell? ((⟨k,0,none⟩:Addr).add j)=some q:=by
 subst hk;have h:w'.heap[w.heap.size]?=some (.cells #[x,y,z,u] t (0,0)):=by rw[he];exact af rfl _
 intro j q a
 match j,a with
 | 0,a=>simp at a;subst a;simp[Addr.add,World.cell?,h]
 | 1,a=>simp at a;subst a;simp[Addr.add,World.cell?,h]
 | 2,a=>simp at a;subst a;simp[Addr.add,World.cell?,h]
 | 3,a=>simp at a;subst a;simp[Addr.add,World.cell?,h]
 | j+4,a=>simp at a
theorem jS{o:Obj}(he:W.heap=(wq.alloc o).heap)(hD:DB wq db s n bad tv lv av rv)(hg:W.grownBy w' v.ownBlock)(cF:∀ g,v.ownBlock=some g->g≠db):DB w' db s n bad tv lv av rv:=by
 have a:W.heap[db]?=some (.cells #[.string s,.int .i64 n,tv,lv,av,rv,.bool bad] 162 (0,0)):=by rw[he];exact hD.alloc o
 exact(hg.block db (lt_of_heap a) (fun e=>cF db e.symm rfl)).trans a
theorem aO{base size:Nat}{e:TypeId}(hD:DB w db s n bad tv lv av rv)(h:w.ownsRow base e size v k xs)(he:e≠162):∀ g,v.ownBlock=some g->g≠db:=by
 intro g a;obtain⟨b,c⟩:=bH h a;exact hD.ne c he
theorem Gq{rows:List RV}{tab:List RT}{r:RV}{t:RT}{o:Obj}(he:W.heap=(wq.alloc o).heap)(xp:W.os=wq.os)(xm:W.tape=wq.tape)(xn:W.output=wq.output)
  (hX:X db) (hD:DB wq db s n bad tv lv av rv) (hO:wq.ownsRow 0 183 4 tv rows.length (dZ rows)) (hT:mm wq (XO X tv) rows tab) (ht:qW wq (XO X tv) r t)
  (iE:w'.ownsRow 0 183 4 v' (rows.length+1) (dZ rows++[.int .i64 r.k,r.o,r.n,r.a])) (hg:W.grownBy w' tv.ownBlock) (hv:∃ g au,v'=.slice (some ⟨g,0,none⟩) (rows.length+1) au/\(tv.ownBlock=some g\/W.heap.size<=g)) :
  DS (w'.setCell ⟨db,2,none⟩ v') X db s n bad v' lv av rv (tab++[t])/\Fr (Ch db tv) wq (w'.setCell ⟨db,2,none⟩ v')/\(∀ g,v'.ownBlock=some g->tv.ownBlock=some g\/wq.heap.size<=g):=by
 have xr:Fr Zero wq W:=⟨xp,xm,xn,by rw[he];simp,fun k hk _=>by rw[he];exact Below.heap_alloc _ _ _ hk⟩;have i:=xr.ae hD (fun h=>h);have cF:=aO hD hO (by decide);have l:=hT.ae (xr.dV (X:=XO X tv));have D6:=ht.ae (xr.dV (X:=XO X tv));have j:Fr (fun k=>tv.ownBlock=some k) W w':=Fr.grown hg (fun k e _=>e);have m:DB w' db s n bad tv lv av rv:=j.ae i (fun e=>cF db e rfl);have d:Fr (One db) w' (w'.setCell ⟨db,2,none⟩ v'):=Fr.setCell _ _ _ _ rfl;obtain⟨g,au,rfl,f⟩:=hv
 have p:g≠db:=by
  rcases f with h|h
  ·exact cF g h
  ·have:=lt_of_heap i;omega
 have q:∀ b,b<W.heap.size->(XO X tv b\/W.heap.size<=b)->XO X tv b:=fun b hb h=>by
  rcases h with h|h
  ·exact h
  ·omega
 have u:∀ b,b<w'.heap.size->XO X (.slice (some ⟨g,0,none⟩) (rows.length+1) au) b->(XO X tv b\/W.heap.size<=b):=fun b _ h=>by
  rcases h with h|h
  ·exact .inl (.inl h)
  ·simp[Value.ownBlock] at h;subst h;rcases f with h|h
   ·exact .inl (.inr h)
   ·exact .inr h
 have v:Fr (fun b=>XO X tv b\/W.heap.size<=b) W w':=Fr.grown hg (fun k e _=>.inl (.inr e));have w:mm w' (XO X (.slice (some ⟨g,0,none⟩) (rows.length+1) au)) (rows++[r]) (tab++[t]):=(((l.snoc D6).aY q).ae v).aY u;refine⟨⟨m.Hx _,rows++[r],?_,w.ae (d.one (.inl hX))⟩,?_,?_⟩
 ·rw[tX,List.length_append];exact ag iE d (fun x c e=>by simp[Value.ownBlock] at c;subst c;exact p e)
 ·exact(xr.dV (X:=Ch db tv)).trans ((j.mono (fun k _ e=>.inr e)).trans (d.mono (fun k _ e=>.inl e)))
 ·intro x c;simp[Value.ownBlock] at c;subst c;rcases f with h|h
  ·exact .inl h
  ·have:=xr.size;exact .inr (by omega)
theorem nV{tab:List RT}(h:DS w X db s n bad tv lv av rv tab)(hX:X db)(hl:tab.length<=1000000)(kI:Int)(r:RV)(t:RT)(hk:kI=(r.k:Int))(ht:qW w (XO X tv) r t):
  Calls Tryz.prog 160 #[.pointer (some ⟨db,0,none⟩),.agg #[.int .i64 kI,r.o,r.n,r.a]] w fun e w'=>e=.returned (.int .i64 tab.length)/\Fr (Ch db tv) w w'/\∃ tv',DS w' X db s n bad tv' lv av rv (tab++[t])/\(∀ g,tv'.ownBlock=some g->tv.ownBlock=some g\/w.heap.size<=g):=by
 subst hk;obtain⟨D,b,K,L⟩:=h;have dK:b.length=tab.length:=L.1;obtain⟨c,d,f,S⟩:=ht.shape r.o (.inl rfl);obtain⟨i,j,l,T⟩:=ht.shape r.n (.inr (.inl rfl));obtain⟨m,p,q,U⟩:=ht.shape r.a (.inr (.inr rfl));obtain⟨v,ro,rn,ra⟩:=r;simp only at S T U;subst S T U;have A:=ab dK;have dG:(b.length:Int)<=1000000:=by omega
 have W:=(D.alloc (.cells #[.int .i64 v,.slice c d f,.slice i j l,.slice m p q] 183)).fM;have Y:=((D.alloc (.cells #[.int .i64 v,.slice c d f,.slice i j l,.slice m p q] 183)).alloc (.cells #[.int .i64 v,.slice c d f,.slice i j l,.slice m p q] 183)).fM;have H:=ab (aO D K (by decide));have I:=ab ht;have Q:=ab D;have R:=ab K;have J:=ab L;clear D K L ht dK;have Z:Hi (b.length+1<=maxLen):=by show _<=_;have:=A.o;unfold maxLen;omega
 have m2:Hi ((b.length+1)*80<=140737488355328):=by show _<=_;have:=A.o;omega
 have m3:Hi (∀ u∈[Value.int .i64 v,.slice c d f,.slice i j l,.slice m p q],u.oneCell'=true):=by intro u V;simp at V;rcases V with rfl|rfl|rfl|rfl<;>rfl
 obtain⟨i0,hi,M,N,O⟩:=info_parts Tryz.Hy;go_enter Tryz.func160,Tryz.ntmps160;go_wp2
 go_region_law (refine eG rfl (.tmp 9) (.tmp 11) 158 rfl 0 183 i0 (.agg #[.int .i64 0,.slice none 0 0,.slice none 0 0,.slice none 0 0]) 4 80 Tryz.underlying158 hi M N O rfl (by decide) tv b.length (dZ b) (by simp[Act.eval]) (by exact bT (o:=.cells #[.int .i64 v,.slice c d f,.slice i j l,.slice m p q] 183) (R.o.alloc (.cells #[.int .i64 v,.slice c d f,.slice i j l,.slice m p q] 183)) (by rfl)) ⟨w.heap.size+1,0,none⟩ 1 1 (by omega) [.int .i64 v,.slice c d f,.slice i j l,.slice m p q] (by simp[Act.eval]) rfl (by exact yT (w:=w.alloc (.cells #[.int .i64 v,.slice c d f,.slice i j l,.slice m p q] 183)) (t:=183) (x:=.int .i64 v) (y:=.slice c d f) (z:=.slice i j l) (u:=.slice m p q) (by simp) (by rfl)) m3.o Z.o m2.o (Nat.zero_le _) ?_;intro v' w' iE C P;obtain⟨gn,E,rfl,F⟩:=P;have B:=jS (o:=.cells #[.int .i64 v,.slice c d f,.slice i j l,.slice m p q] 183) (by rfl) (Q.o.alloc (.cells #[.int .i64 v,.slice c d f,.slice i j l,.slice m p q] 183)) C H.o;have q2:=B.fM;have qf:=B.free 2;have G:=ab (Gq (r:=⟨v,.slice c d f,.slice i j l,.slice m p q⟩) (o:=.cells #[.int .i64 v,.slice c d f,.slice i j l,.slice m p q] 183) (by rfl) (by rfl) (by rfl) (by rfl) hX (Q.o.alloc (.cells #[.int .i64 v,.slice c d f,.slice i j l,.slice m p q] 183)) (R.o.alloc _) (J.o.ae (Fr.alloc _ _ _)) (I.o.ae (Fr.alloc _ _ _)) iE C ⟨gn,E,rfl,F⟩);clear iE C F B)
 all_goals
  have r2:=G.o.1.1.fM;go_wp2;go_ret;refine⟨by rw[<-A.o];rfl,(Fr.alloc _ _ _).trans G.o.2.1,_,G.o.1,fun g hg=>?_⟩
  ·rcases G.o.2.2 g hg with h|h
   ·exact .inl h
   ·simp at h;exact .inr (by omega)
structure RS where
 n:Nat
 bad:Bool
 tab:List RT
def cU(s:ByteArray)(c:Nat)(st:RS):RS:=⟨dQ s st.n st.bad c,fl s st.n st.bad c,st.tab⟩
def j4(st:RS)(t:RT):RS×Nat:=(⟨st.n,st.bad,st.tab++[t]⟩,st.tab.length)
def fO(rd:RS->RS×Nat)(s:ByteArray)(cR:Nat):Nat->RT->RS->RT×RS
 | 0,t,st=>(t,st)
 | k+1,t,st =>
  let r:=rd (cU s 58 ⟨bg s (st.n+1) false,bG s (st.n+1) false,st.tab⟩)
  let t':RT:=⟨t.kind,t.of++[r.2],t.names++[cM s (st.n+1) false],t.ats++[st.n+1]⟩
  if iC s r.1.n r.1.bad cR=true/\t.of.length+1≠6 then fO rd s cR k t' r.1 else(t',r.1)
def ic(rd:RS->RS×Nat)(s:ByteArray)(kind cR close:Nat)(st:RS):RS×Nat :=
 j4 (cU s close (fO rd s cR 6 ⟨kind,[],[],[]⟩ st).2) (fO rd s cR 6 ⟨kind,[],[],[]⟩ st).1
def bW(s:ByteArray):Nat->RS->RS×Nat
 | 0=>fun st=>(st,0)
 | f+1=>fun st =>
  if st.bad then(st,0) else
  if aq s st.n=91 then j4 (cU s 93 (bW s f ⟨st.n+1,false,st.tab⟩).1) ⟨7,[(bW s f ⟨st.n+1,false,st.tab⟩).2],[],[]⟩
  else if aq s st.n=63 then j4 (bW s f ⟨st.n+1,false,st.tab⟩).1 ⟨8,[(bW s f ⟨st.n+1,false,st.tab⟩).2],[],[]⟩
  else if aq s st.n=123 then ic (bW s f) s 9 44 125 st
  else if aq s st.n=60 then ic (bW s f) s 10 124 62 st
  else match cY (cM s st.n false) with
   | some k=>j4 ⟨bg s st.n false,cG s st.n false,st.tab⟩ ⟨k,[],[],[]⟩
   | none=>j4 ⟨bg s st.n false,cG s st.n false,st.tab⟩ ⟨11,[],[cM s st.n false],[st.n]⟩
theorem j7(s:ByteArray)(n:Nat)(bad:Bool)(c:Nat):n<=dQ s n bad c:=by unfold dQ;split<;>omega
theorem m9(s:ByteArray)(n:Nat)(bad:Bool):n<=bg s n bad:=by
 unfold bg
 have:=d6 s 6 n
 split<;>omega
def ES(rd:RS->RS×Nat):Prop:=∀ st,st.n<=(rd st).1.n/\(rd st).1.tab.length+st.n<=st.tab.length+(rd st).1.n+1
theorem vZ(rd:RS->RS×Nat)(iW:ES rd)(s:ByteArray)(cR:Nat):∀(k:Nat) (t:RT) (st:RS),st.n<=(fO rd s cR k t st).2.n/\(fO rd s cR k t st).2.tab.length+st.n<=st.tab.length+(fO rd s cR k t st).2.n:=by
 intro k
 induction k with
 | zero=>intro t st;exact⟨Nat.le_refl _,Nat.le_refl _⟩
 | succ k ih =>
  intro t st;have d:=iW (cU s 58 ⟨bg s (st.n+1) false,bG s (st.n+1) false,st.tab⟩);have f:=j7 s (bg s (st.n+1) false) (bG s (st.n+1) false) 58;have g:=m9 s (st.n+1) false
  have e:fO rd s cR (k+1) t st=if iC s (rd (cU s 58 ⟨bg s (st.n+1) false,bG s (st.n+1) false,st.tab⟩)).1.n (rd (cU s 58 ⟨bg s (st.n+1) false,bG s (st.n+1) false,st.tab⟩)).1.bad cR=true/\t.of.length+1≠6 then
    fO rd s cR k ⟨t.kind,t.of++[(rd (cU s 58 ⟨bg s (st.n+1) false,bG s (st.n+1) false,st.tab⟩)).2],t.names++[cM s (st.n+1) false],t.ats++[st.n+1]⟩ (rd (cU s 58 ⟨bg s (st.n+1) false,bG s (st.n+1) false,st.tab⟩)).1
    else(⟨t.kind,t.of++[(rd (cU s 58 ⟨bg s (st.n+1) false,bG s (st.n+1) false,st.tab⟩)).2],t.names++[cM s (st.n+1) false],t.ats++[st.n+1]⟩,(rd (cU s 58 ⟨bg s (st.n+1) false,bG s (st.n+1) false,st.tab⟩)).1):=rfl
  rw[e];have a:(cU s 58 ⟨bg s (st.n+1) false,bG s (st.n+1) false,st.tab⟩).n=dQ s (bg s (st.n+1) false) (bG s (st.n+1) false) 58:=rfl;have b:(cU s 58 ⟨bg s (st.n+1) false,bG s (st.n+1) false,st.tab⟩).tab=st.tab:=rfl;rw[a,b] at d;generalize rd (cU s 58 ⟨bg s (st.n+1) false,bG s (st.n+1) false,st.tab⟩)=r at *
  by_cases c:iC s r.1.n r.1.bad cR=true/\t.of.length+1≠6
  ·rw[if_pos c];have h:=ih ⟨t.kind,t.of++[r.2],t.names++[cM s (st.n+1) false],t.ats++[st.n+1]⟩ r.1;omega
  ·rw[if_neg c];show st.n<=r.1.n/\r.1.tab.length+st.n<=st.tab.length+r.1.n;omega
theorem nu(rd:RS->RS×Nat)(iW:ES rd)(s:ByteArray)(kind cR close:Nat)(st:RS):st.n<=(ic rd s kind cR close st).1.n/\(ic rd s kind cR close st).1.tab.length+st.n<=st.tab.length+(ic rd s kind cR close st).1.n+1:=by
 have h:=vZ rd iW s cR 6 ⟨kind,[],[],[]⟩ st;unfold ic j4 cU;have a:=j7 s (fO rd s cR 6 ⟨kind,[],[],[]⟩ st).2.n (fO rd s cR 6 ⟨kind,[],[],[]⟩ st).2.bad close;simp only[List.length_append,List.length_cons,List.length_nil];omega
theorem kG(s:ByteArray):∀ f,ES (bW s f):=by
 intro f
 induction f with
 | zero=>intro a;exact⟨Nat.le_refl _,Nat.le_succ _⟩
 | succ f ih =>
  intro a;have b:=ih ⟨a.n+1,false,a.tab⟩;simp only at b;simp only[bW]
  split
  ·exact⟨Nat.le_refl _,Nat.le_succ _⟩
  ·split
   ·have c:=j7 s (bW s f ⟨a.n+1,false,a.tab⟩).1.n (bW s f ⟨a.n+1,false,a.tab⟩).1.bad 93;simp only[j4,cU,List.length_append,List.length_cons,List.length_nil];omega
   ·split
    ·simp only[j4,List.length_append,List.length_cons,List.length_nil];omega
    ·split
     ·exact nu _ ih s 9 44 125 a
     ·split
      ·exact nu _ ih s 10 124 62 a
      ·have d:=m9 s a.n false
       split<;>(simp only[j4,List.length_append,List.length_cons,List.length_nil];omega)
theorem DS.other{tab:List RT}(h:DS w X db s n bad tv lv av rv tab)(hf:Fr Y w w')(Iw:∀ k,Y k->X k)(Jl:¬Y db)(Jk:∀ g,tv.ownBlock=some g->¬Y g):DS w' X db s n bad tv lv av rv tab:=by
 obtain⟨b,a,c,d⟩:=h;exact⟨hf.ae b Jl,a,ag c hf Jk,d.ae (hf.mono (fun k _ hk=>.inl (Iw k hk)))⟩
theorem DS.self{m:Nat}{bd:Bool}{tab:List RT}(h:DS w X db s n bad tv lv av rv tab)(hX:X db)(hf:Fr (One db) w w')(IX:DB w' db s m bd tv lv av rv):DS w' X db s m bd tv lv av rv tab:=by
 obtain⟨c,a,b,d⟩:=h;exact⟨IX,a,ag b hf (fun g hg e=>aO c b (by decide) g hg e),d.ae (hf.mono (fun k _ hk=>by have e:k=db:=hk;rw[e];exact .inl hX))⟩
theorem DS.cX{tab:List RT}(h:DS w X db s n bad tv lv av rv tab)(hf:Fr Zero w w'):DS w' X db s n bad tv lv av rv tab :=
 h.other (Y:=Zero) hf (fun _ h=>h.elim) (fun h=>h) (fun _ _ h=>h)
theorem DS.aY{tab:List RT}(h:DS w X db s n bad tv lv av rv tab)(od:∀ b,b<w.heap.size->Y b->X b):DS w Y db s n bad tv lv av rv tab:=by
 obtain⟨d,a,e,f⟩:=h;refine⟨d,a,e,f.aY (fun b hb c=>?_)⟩;rcases c with c|c
 ·exact .inl (od b hb c)
 ·exact .inr c
theorem DS.grow{tab:List RT}{vb:Option Nat}(h:DS w X db s n bad tv lv av rv tab)(hg:w.grownBy w' vb)(zo:∀ k,vb=some k->X k/\k≠db/\tv.ownBlock≠some k)(hY:∀ b,Y b->X b\/w.heap.size<=b):DS w' Y db s n bad tv lv av rv tab:=by
 obtain⟨j,a,l,m⟩:=h;have d:Fr (fun k=>vb=some k) w w':=Fr.grown hg (fun k e _=>e);refine⟨d.ae j (fun e=>(zo db e).2.1 rfl),a,ag l d (fun g hg' e=>(zo g e).2.2 hg'),?_⟩
 have f:mm w (fun b=>XO X tv b\/w.heap.size<=b) a tab:=m.aY (fun b hb h=>by
  rcases h with h|h
  ·exact h
  ·omega)
 have i:=f.ae (w':=w') (d.mono (fun k _ e=>.inl (.inl (zo k e).1)));refine i.aY (fun b _ c=>?_);rcases c with c|c
 ·rcases hY b c with h|h
  ·exact .inl (.inl h)
  ·exact .inr h
 ·exact .inl (.inr c)
theorem DS.ij{tab:List RT}(h:DS w X db s n bad tv lv av rv tab){base size:Nat}{e:TypeId}(ho:w.ownsRow base e size v k xs)(he:e≠183):∀ g,v.ownBlock=some g->tv.ownBlock≠some g:=by
 intro g c d;obtain⟨j,b,f,l⟩:=h;obtain⟨m,i⟩:=bH ho c;obtain⟨o,a⟩:=bH f d;rw[i] at a;simp at a;exact he a.2
theorem DS.lt{tab:List RT}(h:DS w X db s n bad tv lv av rv tab):∀ g,tv.ownBlock=some g->g<w.heap.size:=by
 obtain⟨c,a,b,d⟩:=h;exact fun g hg=>(b.lt g hg).2
structure TB(w:World)(B tb:Nat)(t:RT)(o nv a:Value):Prop where
 box:w.heap[tb]?=some (.cells #[.int .i64 t.kind,o,nv,a] 183 (0,0))
 so:w.ownsRow 0 3 1 o t.of.length (ints t.of)
 sn:w.ownsRow 0 9 1 nv t.names.length (texts t.names)
 sa:w.ownsRow 0 3 1 a t.ats.length (ints t.ats)
 ne:∀ g,o.ownBlock=some g->a.ownBlock≠some g
 base:B<=tb/\∀ g,(o.ownBlock=some g\/nv.ownBlock=some g\/a.ownBlock=some g)->B<=g
def XT(X:Nat->Prop)(tb:Nat)(o nv a:Value):Nat->Prop:=fun k=>X k\/k=tb\/o.ownBlock=some k\/nv.ownBlock=some k\/a.ownBlock=some k
theorem TB.nY{t:RT}(h:TB w B tb t o nv a):∀ g,(o.ownBlock=some g\/nv.ownBlock=some g\/a.ownBlock=some g)->g≠tb:=by
 intro g d e;subst e;have f:=h.box;rcases d with d|d|d
 ·obtain⟨c,b⟩:=bH h.so d;rw[f] at b;simp at b
 ·obtain⟨c,b⟩:=bH h.sn d;rw[f] at b;simp at b
 ·obtain⟨c,b⟩:=bH h.sa d;rw[f] at b;simp at b
theorem TB.lt{t:RT}(h:TB w B tb t o nv a):∀ g,(g=tb\/o.ownBlock=some g\/nv.ownBlock=some g\/a.ownBlock=some g)->g<w.heap.size:=by
 rintro g (rfl|b|b|b)
 ·exact lt_of_heap h.box
 ·exact(h.so.lt g b).2
 ·exact(h.sn.lt g b).2
 ·exact(h.sa.lt g b).2
theorem TB.ae{t:RT}(h:TB w B tb t o nv a)(hf:Fr Y w w')(hy:∀ g,(g=tb\/o.ownBlock=some g\/nv.ownBlock=some g\/a.ownBlock=some g)->¬Y g):TB w' B tb t o nv a :=
 ⟨hf.ae h.box (hy tb (.inl rfl)),ag h.so hf (fun g hg=>hy g (.inr (.inl hg))),ag h.sn hf (fun g hg=>hy g (.inr (.inr (.inl hg)))),ag h.sa hf (fun g hg=>hy g (.inr (.inr (.inr hg)))),h.ne,h.base⟩
theorem pM(l:List ByteArray)(x:ByteArray):texts (l++[x])=texts l++[.string x]:=by simp[texts]
theorem l8(l:List Nat)(x:Nat):ints (l++[x])=ints l++[.int .i64 x]:=by simp[ints]
theorem bL(l:List Nat):(ints l).length=l.length:=by simp[ints]
theorem dY(l:List ByteArray):(texts l).length=l.length:=by simp[texts]
theorem TB.cell{t:RT}(h:TB w B tb t o nv a):w.cell? ⟨tb,0,none⟩=some (.int .i64 t.kind)/\w.cell? ⟨tb,1,none⟩=some o/\w.cell? ⟨tb,2,none⟩=some nv/\w.cell? ⟨tb,3,none⟩=some a:=by
 refine⟨?_,?_,?_,?_⟩<;>(rw[cell_of_heap h.box];rfl)
theorem TB.free{t:RT}(h:TB w B tb t o nv a)(i:Nat):w.frozen? ⟨tb,i,none⟩=false:=ak h.box
theorem AR{tab:List RT}{t:RT}(x:Nat)(hT:TB W B tb t o nv a)(hS:DS W (XT X tb o nv a) db s n bad tv lv av rv tab)(Ah:∀ b,X b->b<B)(hX:X db)(rU:∀ g,tv.ownBlock=some g->g≠tb)
  (iE:w'.ownsRow 0 3 1 v' (t.ats.length+1) (ints t.ats++[.int .i64 x])) (hg:W.grownBy w' a.ownBlock) (hv:∃ g au,v'=.slice (some ⟨g,0,none⟩) (t.ats.length+1) au/\(a.ownBlock=some g\/W.heap.size<=g)) (hB:B<=W.heap.size) :
  TB (w'.setCell ⟨tb,3,none⟩ v') B tb ⟨t.kind,t.of,t.names,t.ats++[x]⟩ o nv v'/\DS (w'.setCell ⟨tb,3,none⟩ v') (XT X tb o nv v') db s n bad tv lv av rv tab/\Fr (fun k=>B<=k) W (w'.setCell ⟨tb,3,none⟩ v'):=by
 have r:Fr (fun k=>a.ownBlock=some k) W w':=Fr.grown hg (fun k e _=>e);have u:db≠tb:=by have:=Ah db hX;have:=hT.base.1;omega
 have j:∀ g,a.ownBlock=some g->g≠tb:=fun g c=>hT.nY g (.inr (.inr c))
 have m:w'.heap[tb]?=some (.cells #[.int .i64 t.kind,o,nv,a] 183 (0,0)):=r.ae hT.box (fun e=>j tb e rfl);have f:Fr (One tb) w' (w'.setCell ⟨tb,3,none⟩ v'):=Fr.setCell _ _ _ _ rfl;have l:∀ g,a.ownBlock=some g->B<=g:=fun g c=>hT.base.2 g (.inr (.inr c))
 have v:=hS.ij hT.sa (by decide);have p:=hT.lt;obtain⟨g,au,rfl,i⟩:=hv
 have q:g≠tb:=by
  rcases i with h|h
  ·exact j g h
  ·have:=p tb (.inl rfl);omega
 have w:B<=g:=by
  rcases i with h|h
  ·exact l g h
  ·omega
 have y:=ag (ag hT.so r (fun d c e=>hT.ne d c e)) f (fun d c e=>hT.nY d (.inl c) e);have z:=ag (ag hT.sn r (fun d c e=>by obtain⟨F,E⟩:=bH hT.sn c;obtain⟨G,D⟩:=bH hT.sa e;rw[E] at D;simp at D)) f (fun d c e=>hT.nY d (.inr (.inl c)) e);have A:=ag iE f (fun d c e=>by simp[Value.ownBlock] at c;subst c;exact q e);refine⟨⟨?_,y,z,by rw[l8,List.length_append];exact A,?_,hT.base.1,?_⟩,?_,?_⟩
 ·rw[heap_setCell_same m];rfl
 ·exact fun d c e=>by
   simp[Value.ownBlock] at e;subst e;rcases i with h|h
   ·exact hT.ne _ c h
   ·have:=p g (.inr (.inl c));omega
 ·intro d c;rcases c with h|h|h
  ·exact hT.base.2 d (.inl h)
  ·exact hT.base.2 d (.inr (.inl h))
  ·simp[Value.ownBlock] at h;subst h;exact w
 ·refine DS.other (Y:=One tb) (DS.grow hS hg (fun k e=>⟨(.inr (.inr (.inr (.inr e)))),?_,v k e⟩) (fun b hb=>?_)) f (fun k e=>by have C:k=tb:=e;rw[C];exact .inr (.inl rfl)) (fun e=>u e) (fun d c e=>rU d c e)
  ·have:=Ah db hX;have:=l k e;omega
  ·rcases hb with h|h|h|h|h
   ·exact .inl (.inl h)
   ·exact .inl (.inr (.inl h))
   ·exact .inl (.inr (.inr (.inl h)))
   ·exact .inl (.inr (.inr (.inr (.inl h))))
   ·simp[Value.ownBlock] at h;subst h;rcases i with h|h
    ·exact .inl (.inr (.inr (.inr (.inr h))))
    ·exact .inr h
 ·exact(r.mono (fun k _ e=>l k e)).trans (f.mono (fun k _ e=>by have C:k=tb:=e;have:=hT.base.1;omega))
theorem AQ{tab:List RT}{t:RT}(x:ByteArray)(hT:TB W B tb t o nv a)(hS:DS W (XT X tb o nv a) db s n bad tv lv av rv tab)(Ah:∀ b,X b->b<B)(hX:X db)(rU:∀ g,tv.ownBlock=some g->g≠tb)
  (iE:w'.ownsRow 0 9 1 v' (t.names.length+1) (texts t.names++[.string x])) (hg:W.grownBy w' nv.ownBlock) (hv:∃ g au,v'=.slice (some ⟨g,0,none⟩) (t.names.length+1) au/\(nv.ownBlock=some g\/W.heap.size<=g)) (hB:B<=W.heap.size) :
  TB (w'.setCell ⟨tb,2,none⟩ v') B tb ⟨t.kind,t.of,t.names++[x],t.ats⟩ o v' a/\DS (w'.setCell ⟨tb,2,none⟩ v') (XT X tb o v' a) db s n bad tv lv av rv tab/\Fr (fun k=>B<=k) W (w'.setCell ⟨tb,2,none⟩ v'):=by
 have r:Fr (fun k=>nv.ownBlock=some k) W w':=Fr.grown hg (fun k e _=>e);have u:db≠tb:=by have:=Ah db hX;have:=hT.base.1;omega
 have i:∀ g,nv.ownBlock=some g->g≠tb:=fun g c=>hT.nY g (.inr (.inl c))
 have m:w'.heap[tb]?=some (.cells #[.int .i64 t.kind,o,nv,a] 183 (0,0)):=r.ae hT.box (fun e=>i tb e rfl);have d:Fr (One tb) w' (w'.setCell ⟨tb,2,none⟩ v'):=Fr.setCell _ _ _ _ rfl;have j:∀ g,nv.ownBlock=some g->B<=g:=fun g c=>hT.base.2 g (.inr (.inl c))
 have v:=hS.ij hT.sn (by decide);have w:=hT.lt;obtain⟨g,au,rfl,l⟩:=hv
 have p:g≠tb:=by
  rcases l with h|h
  ·exact i g h
  ·have:=w tb (.inl rfl);omega
 have y:B<=g:=by
  rcases l with h|h
  ·exact j g h
  ·omega
 have z:=ag (ag hT.so r (fun f c e=>by obtain⟨F,D⟩:=bH hT.so c;obtain⟨G,q⟩:=bH hT.sn e;rw[D] at q;simp at q)) d (fun f c e=>hT.nY f (.inl c) e);have A:=ag (ag hT.sa r (fun f c e=>by obtain⟨F,D⟩:=bH hT.sa c;obtain⟨G,q⟩:=bH hT.sn e;rw[D] at q;simp at q)) d (fun f c e=>hT.nY f (.inr (.inr c)) e);have C:=ag iE d (fun f c e=>by simp[Value.ownBlock] at c;subst c;exact p e);refine⟨⟨?_,z,by rw[pM,List.length_append];exact C,A,?_,hT.base.1,?_⟩,?_,?_⟩
 ·rw[heap_setCell_same m];rfl
 ·exact hT.ne
 ·intro f c;rcases c with h|h|h
  ·exact hT.base.2 f (.inl h)
  ·simp[Value.ownBlock] at h;subst h;exact y
  ·exact hT.base.2 f (.inr (.inr h))
 ·refine DS.other (Y:=One tb) (DS.grow hS hg (fun k e=>⟨(.inr (.inr (.inr (.inl e)))),?_,v k e⟩) (fun b hb=>?_)) d (fun k e=>by have E:k=tb:=e;rw[E];exact .inr (.inl rfl)) (fun e=>u e) (fun f c e=>rU f c e)
  ·have:=Ah db hX;have:=j k e;omega
  ·rcases hb with h|h|h|h|h
   ·exact .inl (.inl h)
   ·exact .inl (.inr (.inl h))
   ·exact .inl (.inr (.inr (.inl h)))
   ·simp[Value.ownBlock] at h;subst h;rcases l with h|h
    ·exact .inl (.inr (.inr (.inr (.inl h))))
    ·exact .inr h
   ·exact .inl (.inr (.inr (.inr (.inr h))))
 ·exact(r.mono (fun k _ e=>j k e)).trans (d.mono (fun k _ e=>by have E:k=tb:=e;have:=hT.base.1;omega))
theorem AP{tab:List RT}{t:RT}(x:Nat)(hT:TB W B tb t o nv a)(hS:DS W (XT X tb o nv a) db s n bad tv lv av rv tab)(Ah:∀ b,X b->b<B)(hX:X db)(rU:∀ g,tv.ownBlock=some g->g≠tb)
  (iE:w'.ownsRow 0 3 1 v' (t.of.length+1) (ints t.of++[.int .i64 x])) (hg:W.grownBy w' o.ownBlock) (hv:∃ g au,v'=.slice (some ⟨g,0,none⟩) (t.of.length+1) au/\(o.ownBlock=some g\/W.heap.size<=g)) (hB:B<=W.heap.size) :
  TB (w'.setCell ⟨tb,1,none⟩ v') B tb ⟨t.kind,t.of++[x],t.names,t.ats⟩ v' nv a/\DS (w'.setCell ⟨tb,1,none⟩ v') (XT X tb v' nv a) db s n bad tv lv av rv tab/\Fr (fun k=>B<=k) W (w'.setCell ⟨tb,1,none⟩ v'):=by
 have r:Fr (fun k=>o.ownBlock=some k) W w':=Fr.grown hg (fun k e _=>e);have u:db≠tb:=by have:=Ah db hX;have:=hT.base.1;omega
 have j:∀ g,o.ownBlock=some g->g≠tb:=fun g c=>hT.nY g (.inl c)
 have m:w'.heap[tb]?=some (.cells #[.int .i64 t.kind,o,nv,a] 183 (0,0)):=r.ae hT.box (fun e=>j tb e rfl);have f:Fr (One tb) w' (w'.setCell ⟨tb,1,none⟩ v'):=Fr.setCell _ _ _ _ rfl;have l:∀ g,o.ownBlock=some g->B<=g:=fun g c=>hT.base.2 g (.inl c)
 have v:=hS.ij hT.so (by decide);have p:=hT.lt;obtain⟨g,au,rfl,i⟩:=hv
 have q:g≠tb:=by
  rcases i with h|h
  ·exact j g h
  ·have:=p tb (.inl rfl);omega
 have w:B<=g:=by
  rcases i with h|h
  ·exact l g h
  ·omega
 have y:=ag (ag hT.sn r (fun d c e=>by obtain⟨F,E⟩:=bH hT.sn c;obtain⟨G,D⟩:=bH hT.so e;rw[E] at D;simp at D)) f (fun d c e=>hT.nY d (.inr (.inl c)) e);have z:=ag (ag hT.sa r (fun d c e=>hT.ne d e c)) f (fun d c e=>hT.nY d (.inr (.inr c)) e);have A:=ag iE f (fun d c e=>by simp[Value.ownBlock] at c;subst c;exact q e);refine⟨⟨?_,by rw[l8,List.length_append];exact A,y,z,?_,hT.base.1,?_⟩,?_,?_⟩
 ·rw[heap_setCell_same m];rfl
 ·exact fun d c e=>by
   simp[Value.ownBlock] at c;subst c;rcases i with h|h
   ·exact hT.ne _ h e
   ·have:=p g (.inr (.inr (.inr e)));omega
 ·intro d c;rcases c with h|h|h
  ·simp[Value.ownBlock] at h;subst h;exact w
  ·exact hT.base.2 d (.inr (.inl h))
  ·exact hT.base.2 d (.inr (.inr h))
 ·refine DS.other (Y:=One tb) (DS.grow hS hg (fun k e=>⟨(.inr (.inr (.inl e))),?_,v k e⟩) (fun b hb=>?_)) f (fun k e=>by have C:k=tb:=e;rw[C];exact .inr (.inl rfl)) (fun e=>u e) (fun d c e=>rU d c e)
  ·have:=Ah db hX;have:=l k e;omega
  ·rcases hb with h|h|h|h|h
   ·exact .inl (.inl h)
   ·exact .inl (.inr (.inl h))
   ·simp[Value.ownBlock] at h;subst h;rcases i with h|h
    ·exact .inl (.inr (.inr (.inl h)))
    ·exact .inr h
   ·exact .inl (.inr (.inr (.inr (.inl h))))
   ·exact .inl (.inr (.inr (.inr (.inr h))))
 ·exact(r.mono (fun k _ e=>l k e)).trans (f.mono (fun k _ e=>by have C:k=tb:=e;have:=hT.base.1;omega))
def ko(w:World)(X:Nat->Prop)(db:Nat)(s:ByteArray)(tv lv av rv:Value)(r:RS×Nat)(e:Ending)(w':World):Prop :=
 e=.returned (.int .i64 r.2)/\Fr (Ch db tv) w w'/\r.1.n<=s.size/\∃ tv',DS w' X db s r.1.n r.1.bad tv' lv av rv r.1.tab/\(∀ g,tv'.ownBlock=some g->tv.ownBlock=some g\/w.heap.size<=g)
def nX(s:ByteArray)(f:Nat):Prop :=
 ∀(w:World) (X:Nat->Prop) (db n:Nat) (bad:Bool) (tv lv av rv:Value) (tab:List RT),DS w X db s n bad tv lv av rv tab->X db->(∀ b,X b->b<w.heap.size)->n<=s.size->(bad=true\/s.size<n+f)->tab.length+(s.size-n)<=5000 ->
  Calls Tryz.prog 109 #[.pointer (some ⟨db,0,none⟩)] w fun e w'=>ko w X db s tv lv av rv (bW s f ⟨n,bad,tab⟩) e w'
theorem Tryz.xZ:(Tryz.prog.info? 3).map (fun i=>(i.zero,i.size,i.bytes))=some (some (.int .i64 0),1,8):=by kernel_rfl
theorem Tryz.Aw:(Tryz.prog.info? 9).map (fun i=>(i.zero,i.size,i.bytes))=some (some (.string ⟨#[]⟩),1,16):=by kernel_rfl
theorem dp{x:Value}{t:TypeId}(hk:w.heap.size=k)(he:w'.heap=(w.alloc (.cells #[x] t)).heap):∀(j:Nat) (q:Value),[x][j]?=some q->w'.cell? ((⟨k,0,none⟩:Addr).add j)=some q:=by
 subst hk;have h:w'.heap[w.heap.size]?=some (.cells #[x] t (0,0)):=by rw[he];exact af rfl _
 intro j q a
 match j,a with
 | 0,a=>simp at a;subst a;simp[Addr.add,World.cell?,h]
 | j+1,a=>simp at a
def oV(tb:Nat)(w:World):Nat:=match w.cell? ⟨tb,1,none⟩ with
 | some (.slice _ n _)=>n
 | _=>0
theorem TB.ofLen{t:RT}(h:TB w B tb t o nv a):oV tb w=t.of.length:=by
 unfold Proofs.YtpffifpbpmlhdaaGreatDoor.oV;rw[h.cell.2.1];rcases h.so.2 with⟨rfl,e⟩|⟨g,au,b,rfl,_⟩
 ·exact e.symm
 ·rfl
theorem ti{o:Obj}(he:w'.heap=(w.alloc o).heap)(xp:w'.os=w.os)(xm:w'.tape=w.tape)(xn:w'.output=w.output):Fr Zero w w' :=
 ⟨xp,xm,xn,by rw[he];simp,fun k hk _=>by rw[he];exact Below.heap_alloc _ _ _ hk⟩
theorem Gb{tab:List RT}{t:RT}{x:Nat}(he:W.heap=(wq.alloc ob).heap)(xp:W.os=wq.os)(xm:W.tape=wq.tape)(xn:W.output=wq.output)
  (hT:TB wq B tb t o nv a) (hS:DS wq (XT X tb o nv a) db s n bad tv lv av rv tab) (Ah:∀ b,X b->b<B) (hX:X db) (rU:∀ g,tv.ownBlock=some g->g≠tb)
  (iE:w'.ownsRow 0 3 1 v' (t.ats.length+1) (ints t.ats++[.int .i64 x])) (hg:W.grownBy w' a.ownBlock) (hv:∃ g au,v'=.slice (some ⟨g,0,none⟩) (t.ats.length+1) au/\(a.ownBlock=some g\/W.heap.size<=g)) (hB:B<=wq.heap.size) :
  TB (w'.setCell ⟨tb,3,none⟩ v') B tb ⟨t.kind,t.of,t.names,t.ats++[x]⟩ o nv v'/\DS (w'.setCell ⟨tb,3,none⟩ v') (XT X tb o nv v') db s n bad tv lv av rv tab/\Fr (fun k=>B<=k) wq (w'.setCell ⟨tb,3,none⟩ v'):=by
 have c:=ti he xp xm xn;obtain⟨d,e,f⟩:=AR x (hT.ae c (fun _ _ h=>h)) (hS.cX c) Ah hX rU iE hg hv (Nat.le_trans hB c.size);exact⟨d,e,c.dV.trans f⟩
theorem Bx{tab:List RT}{t:RT}{x:ByteArray}(he:W.heap=(wq.alloc ob).heap)(xp:W.os=wq.os)(xm:W.tape=wq.tape)(xn:W.output=wq.output)
  (hT:TB wq B tb t o nv a) (hS:DS wq (XT X tb o nv a) db s n bad tv lv av rv tab) (Ah:∀ b,X b->b<B) (hX:X db) (rU:∀ g,tv.ownBlock=some g->g≠tb)
  (iE:w'.ownsRow 0 9 1 v' (t.names.length+1) (texts t.names++[.string x])) (hg:W.grownBy w' nv.ownBlock) (hv:∃ g au,v'=.slice (some ⟨g,0,none⟩) (t.names.length+1) au/\(nv.ownBlock=some g\/W.heap.size<=g)) (hB:B<=wq.heap.size) :
  TB (w'.setCell ⟨tb,2,none⟩ v') B tb ⟨t.kind,t.of,t.names++[x],t.ats⟩ o v' a/\DS (w'.setCell ⟨tb,2,none⟩ v') (XT X tb o v' a) db s n bad tv lv av rv tab/\Fr (fun k=>B<=k) wq (w'.setCell ⟨tb,2,none⟩ v'):=by
 have c:=ti he xp xm xn;obtain⟨d,e,f⟩:=AQ x (hT.ae c (fun _ _ h=>h)) (hS.cX c) Ah hX rU iE hg hv (Nat.le_trans hB c.size);exact⟨d,e,c.dV.trans f⟩
theorem GY{tab:List RT}{t:RT}{x:Nat}(he:W.heap=(wq.alloc ob).heap)(xp:W.os=wq.os)(xm:W.tape=wq.tape)(xn:W.output=wq.output)
  (hT:TB wq B tb t o nv a) (hS:DS wq (XT X tb o nv a) db s n bad tv lv av rv tab) (Ah:∀ b,X b->b<B) (hX:X db) (rU:∀ g,tv.ownBlock=some g->g≠tb)
  (iE:w'.ownsRow 0 3 1 v' (t.of.length+1) (ints t.of++[.int .i64 x])) (hg:W.grownBy w' o.ownBlock) (hv:∃ g au,v'=.slice (some ⟨g,0,none⟩) (t.of.length+1) au/\(o.ownBlock=some g\/W.heap.size<=g)) (hB:B<=wq.heap.size) :
  TB (w'.setCell ⟨tb,1,none⟩ v') B tb ⟨t.kind,t.of++[x],t.names,t.ats⟩ v' nv a/\DS (w'.setCell ⟨tb,1,none⟩ v') (XT X tb v' nv a) db s n bad tv lv av rv tab/\Fr (fun k=>B<=k) wq (w'.setCell ⟨tb,1,none⟩ v'):=by
 have c:=ti he xp xm xn;obtain⟨d,e,f⟩:=AP x (hT.ae c (fun _ _ h=>h)) (hS.cX c) Ah hX rU iE hg hv (Nat.le_trans hB c.size);exact⟨d,e,c.dV.trans f⟩
theorem oG{t:RT}{vb:Option Nat}(he:W.heap=(wq.alloc ob).heap)(hT:TB wq B tb t o nv a)(hg:W.grownBy w' vb)(cF:vb≠some tb):w'.heap[tb]?=some (.cells #[.int .i64 t.kind,o,nv,a] 183 (0,0)):=by
 have b:W.heap[tb]?=some (.cells #[.int .i64 t.kind,o,nv,a] 183 (0,0)):=by rw[he,Below.heap_alloc _ _ _ (lt_of_heap hT.box)];exact hT.box
 exact(hg.block tb (lt_of_heap b) (fun e=>cF e.symm)).trans b
theorem Fr.ve{a b c:World}(h:Fr X a b)(k:Fr Y b c)(hy:∀ i,i<a.heap.size->Y i->X i):Fr X a c :=
 ⟨k.os.trans h.os,k.tape.trans h.tape,k.output.trans h.output,Nat.le_trans h.size k.size,fun i hi hx=>(k.block i (Nat.lt_of_lt_of_le hi h.size) (fun e=>hx (hy i hi e))).trans (h.block i hi hx)⟩
theorem pU{f:Nat}{tab:List RT}(hT:nX s f)(h:DS w X db s n false tv lv av rv tab)(hX:X db)(aH:∀ b,X b->b<w.heap.size)(hs:s.size<=400)(hn:n+1<=s.size)(hf:s.size<n+1+f)(hl:tab.length+(s.size-n)<=5000)
  (kI bI cI:Int) (kind cR close:Nat) (hk:kI=(kind:Int)) (hb:bI=(cR:Int)) (hc:cI=(close:Int)) (GD:cR<256) (pC:close<256) :
  Calls Tryz.prog 161 #[.pointer (some ⟨db,0,none⟩),.agg #[.int .i64 kI,.slice none 0 0,.slice none 0 0,.slice none 0 0],.int .u8 bI,.int .u8 cI] w fun e w'=>ko w X db s tv lv av rv (ic (bW s f) s kind cR close ⟨n,false,tab⟩) e w':=by
 subst hk hb hc;have ad:s.size<=maxLen:=by unfold maxLen;omega
 have HT:=ab hT;have HX:=ab aH;have HS:=ab h;have bB:=ab h.lt;have bU:db<w.heap.size:=aH db hX;clear hT aH h;go_enter Tryz.func161,Tryz.ntmps161;go_wp2
 go_loopw [9] (fun mv wr=>∃(b:Bool) (t:RT) (c:RS) (o O a v:Value),mv=.bool b/\c.n<=s.size/\n<=c.n/\Hi (c.tab.length+(s.size-c.n)<=5000)/\Hi (t.kind=kind)/\t.of.length<=6 /\
   Hi (b=true->c.bad=false/\c.n+1<=s.size/\∃ k,k+1+t.of.length=6/\fO (bW s f) s cR 6 ⟨kind,[],[],[]⟩ ⟨n,false,tab⟩=fO (bW s f) s cR (k+1) t c) /\
   Hi (b=false->fO (bW s f) s cR 6 ⟨kind,[],[],[]⟩ ⟨n,false,tab⟩=(t,c)) /\
   Hi (t.names.length=t.of.length/\t.ats.length=t.of.length) /\
   Hi (TB wr w.heap.size w.heap.size t o O a)/\Hi (DS wr (XT X w.heap.size o O a) db s c.n c.bad v lv av rv c.tab)/\Hi (∀ g,v.ownBlock=some g->g≠w.heap.size)/\Hi (∀ g,v.ownBlock=some g->tv.ownBlock=some g\/w.heap.size<=g)/\Hi (Fr (Ch db tv) w wr)) (fun _ wr=>7-oV w.heap.size wr)
 case atStart =>
  refine⟨true,⟨kind,[],[],[]⟩,⟨n,false,tab⟩,.slice none 0 0,.slice none 0 0,.slice none 0 0,tv,rfl,by show n<=_;omega,Nat.le_refl _,hl,rfl,by simp,fun _=>⟨rfl,hn,5,rfl,rfl⟩,(fun h=>by cases h),⟨rfl,rfl⟩,⟨af rfl _,World.ownsRow_nil _ _ _ _,World.ownsRow_nil _ _ _ _,World.ownsRow_nil _ _ _ _,(fun g hg=>by simp[Value.ownBlock] at hg),Nat.le_refl _,(fun g hg=>by simp[Value.ownBlock] at hg)⟩,?_,(fun g hg=>by have:=bB g hg;omega),(fun g hg=>.inl hg),Fr.alloc _ _ _⟩;refine((DS.aY HS.o (fun b hb hy=>?_)).cX (Fr.alloc _ _ _));rcases hy with h|h|h|h|h
  ·exact h
  ·omega
  ·simp[Value.ownBlock] at h
  ·simp[Value.ownBlock] at h
  ·simp[Value.ownBlock] at h
 case round =>
  obtain⟨b,t,c,o,O,a,v,rfl,bK,bV,HL,aO,bX,HY,aP,U,y,V,W,z,HF⟩:=hrel;cases b with
  | false =>
   have HR:=ab (aP.o rfl);clear HY aP;go_wp2_with fail;refine(lu V.o.1 ad bK close close rfl pC).mono ?_;rintro e w1 ⟨rfl,al,bi,eQ⟩;have K:=ab (V.o.self (.inl hX) al bi)
   have oZ:∀ g,(g=w.heap.size\/o.ownBlock=some g\/O.ownBlock=some g\/a.ownBlock=some g)->¬One db g:=fun g hg e=>by
    have e':g=db:=e;rcases hg with h|h
    ·omega
    ·have:=y.o.base.2 g h;omega
   have d:=ab (y.o.ae al oZ);have aU:=ab (HF.o.trans (al.mono (fun k _ e=>.inl e)));have P:=d.o.cell;have t0:=P.1;have t1:=P.2.1;have t2:=P.2.2.1;have t3:=P.2.2.2
   have aA:Hi (∀ g,(o.ownBlock=some g\/O.ownBlock=some g\/a.ownBlock=some g)->¬XO X v g):=fun g hg hx=>by
    rcases hx with hx|hx
    ·have:=HX g hx;have:=d.o.base.2 g hg;omega
    ·rcases hg with h|h|h
     ·exact K.o.ij d.o.so (by decide) g h hx
     ·exact K.o.ij d.o.sn (by decide) g h hx
     ·exact K.o.ij d.o.sa (by decide) g h hx
   have aV:Hi (qW w1 (XO X v) ⟨t.kind,o,O,a⟩ t):=⟨rfl,⟨by rw[bL];exact d.o.so,fun g hg=>aA g (.inl hg)⟩,⟨by rw[dY];exact d.o.sn,fun g hg=>aA g (.inr (.inl hg))⟩,⟨by rw[bL];exact d.o.sa,fun g hg=>aA g (.inr (.inr hg))⟩⟩;clear al bi oZ P;go_wp2_with fail;refine(nV (K.o.aY (fun b _ hb=>.inl hb)) hX (by have:=HL.o;omega) t.kind ⟨t.kind,o,O,a⟩ t rfl aV).mono ?_;rintro e w2 ⟨rfl,(aj:Hi _),bM,bj,aq⟩;have bC:=ab bj;have aW:=ab aq;clear bj aq;go_wp2;go_ret
   have eR:ic (bW s f) s kind cR close ⟨n,false,tab⟩=(⟨dQ s c.n c.bad close,fl s c.n c.bad close,c.tab++[t]⟩,c.tab.length):=by
    unfold ic;rw[HR.o];rfl
   rw[eR];refine⟨rfl,?_,eQ,bM,bC,fun g hg=>?_⟩
   ·refine aU.o.ve aj.o (fun k hk hc=>?_);rcases hc with h|h
    ·exact .inl h
    ·rcases z.o k h with h'|h'
     ·exact .inr h'
     ·omega
   ·rcases aW.o g hg with h|h
    ·exact z.o g h
    ·have:=aU.o.size;exact .inr (by omega)
  | true =>
   obtain⟨ar,eQ,k,bY,dK⟩:=HY.o rfl;have aX:=ab y.o.ofLen;have M:=ab dK;clear dK HY aP;have N:=V.o.1;rw[ar] at N;have c1:=N.cE;have c6:=N.zR;have f1:=N.free 1;have bD:(c.n:Int)<1000:=by omega
   have P:=y.o.cell;have aB:=P.2.2.2;have E:=y.o.lt w.heap.size (.inl rfl);clear P ar;go_wp2;have ag:Fr (One db) wr (wr.setCell ⟨db,1,none⟩ (.int .i64 ((c.n:Int)+1))):=Fr.setCell _ _ _ _ rfl;have aC:DB (wr.setCell ⟨db,1,none⟩ (.int .i64 ((c.n:Int)+1))) db s (c.n+1) false v lv av rv:=N.Cn (c.n+1)
   have oZ:∀ g,(g=w.heap.size\/o.ownBlock=some g\/O.ownBlock=some g\/a.ownBlock=some g)->¬One db g:=fun g hg e=>by
    have e':g=db:=e;rcases hg with h|h
    ·omega
    ·have:=y.o.base.2 g h;omega
   have l:=ab (y.o.ae ag oZ);have aZ:=ab (V.o.self (.inl hX) ag aC);have aD:=ab (HF.o.trans (ag.mono (fun k _ e=>.inl e)));generalize wr.setCell ⟨db,1,none⟩ (.int .i64 ((c.n:Int)+1))=wq at *;clear c1 c6 f1 aB E N oZ ag;have c1:wq.cell? ⟨db,1,none⟩=some (.int .i64 ((c.n:Int)+1)):=aC.cE;have P:=l.o.cell;have aB:=P.2.2.2;have E:=l.o.lt w.heap.size (.inl rfl);have a0:Hi (w.heap.size<=wq.heap.size):=aD.o.size;have a1:Hi (a.ownBlock≠some w.heap.size):=fun e=>l.o.nY _ (.inr (.inr e)) rfl
   have ah:Hi (O.ownBlock≠some w.heap.size):=fun e=>l.o.nY _ (.inr (.inl e)) rfl
   have ai:Hi (o.ownBlock≠some w.heap.size):=fun e=>l.o.nY _ (.inl e) rfl
   clear P aC;have m1:Hi (t.ats.length+1<=maxLen):=by show _<=_;have:=U.o;unfold maxLen;omega
   have m2:Hi ((t.ats.length+1)*8<=140737488355328):=by show _<=_;have:=U.o;omega
   have m3:Hi (∀ u∈[Value.int .i64 ((c.n:Int)+1)],u.oneCell'=true):=by intro u hu;simp at hu;subst hu;rfl
   obtain⟨i0,A,B,C,D⟩:=info_parts Tryz.xZ
   go_region_law (refine eG rfl (.tmp 28) (.tmp 33) 160 rfl 0 3 i0 (.int .i64 0) 1 8 Tryz.underlying160 A B C D rfl (by decide) a t.ats.length (ints t.ats) (by simp[Act.eval]) (by exact bT (o:=.cells #[.int .i64 ((c.n:Int)+1)] 3) l.o.sa (by rfl)) ⟨wq.heap.size,0,none⟩ 1 1 (by omega) [.int .i64 ((c.n:Int)+1)] (by simp[Act.eval]) rfl (by exact dp (w:=wq) (t:=3) (x:=.int .i64 ((c.n:Int)+1)) rfl (by rfl)) m3.o m1.o m2.o (Nat.zero_le _) ?_;intro v' w' iE aQ bN;obtain⟨gn,Y,rfl,bk⟩:=bN;have j:=oG (ob:=.cells #[.int .i64 ((c.n:Int)+1)] 3) (by rfl) l.o aQ a1.o;have q3:=cell_of_heap (o:=3) j;have qf:=ak (o:=3) j;have HE:=ab (Gb (x:=c.n+1) (ob:=.cells #[.int .i64 ((c.n:Int)+1)] 3) (by rfl) (by rfl) (by rfl) (by rfl) l.o aZ.o HX.o hX W.o iE aQ ⟨gn,Y,rfl,bk⟩ a0.o);clear iE aQ bk j)
   all_goals
    obtain⟨bl,bm,ao⟩:=HE.o;have aE:=ab bl;have aF:=ab bm;have aj:=ab (aD.o.past ao);clear HE bl bm ao q3 qf;generalize w'.setCell ⟨w.heap.size,3,none⟩ (.slice (some ⟨gn,0,none⟩) (t.ats.length+1) Y)=w2 at *;generalize (Value.slice (some ⟨gn,0,none⟩) (t.ats.length+1) Y)=a2 at *;clear l aZ aD a0 a1 ai ah m1 m2 m3 A B C D y V HF c1 aB E;go_wp2_with fail;refine(wU aF.o.1 ad eQ).mono ?_;rintro e w3 ⟨rfl,am,bn,bO⟩
    have oZ:∀ g,(g=w.heap.size\/o.ownBlock=some g\/O.ownBlock=some g\/a2.ownBlock=some g)->¬One db g:=fun g hg e=>by
     have e':g=db:=e;rcases hg with h|h
     ·omega
     ·have:=aE.o.base.2 g h;omega
    have F:=ab (aE.o.ae am oZ);have a3:=ab (aF.o.self (.inl hX) am bn);have aG:=ab (aj.o.trans (am.mono (fun k _ e=>.inl e)));clear am bn oZ aE aF aj;generalize a4:cM s (c.n+1) false=nm at *;have bE:=ab a4;clear a4;have a5:Hi (w.heap.size<=w3.heap.size):=aG.o.size;have ah:Hi (O.ownBlock≠some w.heap.size):=fun e=>F.o.nY _ (.inr (.inl e)) rfl
    have bF:=F.o.cell.2.2.1;have E:=F.o.lt w.heap.size (.inl rfl);have m1:Hi (t.names.length+1<=maxLen):=by show _<=_;have:=U.o;unfold maxLen;omega
    have m2:Hi ((t.names.length+1)*16<=140737488355328):=by show _<=_;have:=U.o;omega
    have m3:Hi (∀ u∈[Value.string nm],u.oneCell'=true):=by intro u hu;simp at hu;subst hu;rfl
    obtain⟨i9,A,B,C,D⟩:=info_parts Tryz.Aw
    go_wp2_with (at_builtin;refine az _ rfl _ _ 159 rfl 0 9 i9 (.string ⟨#[]⟩) 1 16 Tryz.underlying159 A B C D rfl (by decide) O t.names.length (texts t.names) rfl (by exact bT (o:=.cells #[.string nm] 9) F.o.sn (by rfl)) ⟨w3.heap.size,0,none⟩ 1 1 (by omega) [.string nm] rfl rfl (by exact dp (w:=w3) (t:=9) (x:=.string nm) rfl (by rfl)) m3.o m1.o m2.o (Nat.zero_le _) ?_;intro v4 w4 bo aR bP;obtain⟨g4,Z,rfl,au⟩:=bP;have j:=oG (ob:=.cells #[.string nm] 9) (by rfl) F.o aR ah.o;have q2:=cell_of_heap (o:=2) j;have bH:=ak (o:=2) j;have a6:=ab (Bx (x:=nm) (ob:=.cells #[.string nm] 9) (by rfl) (by rfl) (by rfl) (by rfl) F.o a3.o HX.o hX W.o bo aR ⟨g4,Z,rfl,by simpa using au⟩ a5.o);clear bo aR au j)
    obtain⟨bp,bq,br⟩:=a6.o;have aI:=ab bp;have aJ:=ab bq;have a7:=ab (aG.o.past br);clear a6 bp bq br q2 bH;generalize w4.setCell ⟨w.heap.size,2,none⟩ (.slice (some ⟨g4,0,none⟩) (t.names.length+1) Z)=w5 at *;generalize (Value.slice (some ⟨g4,0,none⟩) (t.names.length+1) Z)=n2 at *;clear F a3 aG a5 ah m1 m2 m3 A B C D bF E;refine(lu aJ.o.1 ad bO 58 58 rfl (by omega)).mono ?_;rintro e w6 ⟨rfl,an,bs,bQ⟩
    have oZ:∀ g,(g=w.heap.size\/o.ownBlock=some g\/n2.ownBlock=some g\/a2.ownBlock=some g)->¬One db g:=fun g hg e=>by
     have e':g=db:=e;rcases hg with h|h
     ·omega
     ·have:=aI.o.base.2 g h;omega
    have m:=ab (aI.o.ae an oZ);have Q:=ab (aJ.o.self (.inl hX) an bs);have aK:=ab (a7.o.trans (an.mono (fun k _ e=>.inl e)));clear an bs oZ aI aJ a7;have bS:=Nat.le_trans (m9 s (c.n+1) false) (j7 s (bg s (c.n+1) false) (bG s (c.n+1) false) 58);go_wp2_with fail;refine(HT.o w6 (XT X w.heap.size o n2 a2) db _ _ v lv av rv c.tab Q (.inl hX) (fun b hb=>?_) bQ (.inr (by omega)) (by have:=HL.o;omega)).mono ?_
    ·rcases hb with h|h
     ·exact Nat.lt_of_lt_of_le (HX b h) aK.o.size
     ·exact m.o.lt b h
    have mV:=kG s f ⟨dQ s (bg s (c.n+1) false) (bG s (c.n+1) false) 58,fl s (bg s (c.n+1) false) (bG s (c.n+1) false) 58,c.tab⟩;simp only at mV
    have G:Hi (fO (bW s f) s cR (k+1) t c =
      if iC s (bW s f ⟨dQ s (bg s (c.n+1) false) (bG s (c.n+1) false) 58,fl s (bg s (c.n+1) false) (bG s (c.n+1) false) 58,c.tab⟩).1.n (bW s f ⟨dQ s (bg s (c.n+1) false) (bG s (c.n+1) false) 58,fl s (bg s (c.n+1) false) (bG s (c.n+1) false) 58,c.tab⟩).1.bad cR=true/\t.of.length+1≠6 then
      fO (bW s f) s cR k ⟨t.kind,t.of++[(bW s f ⟨dQ s (bg s (c.n+1) false) (bG s (c.n+1) false) 58,fl s (bg s (c.n+1) false) (bG s (c.n+1) false) 58,c.tab⟩).2],t.names++[cM s (c.n+1) false],t.ats++[c.n+1]⟩ (bW s f ⟨dQ s (bg s (c.n+1) false) (bG s (c.n+1) false) 58,fl s (bg s (c.n+1) false) (bG s (c.n+1) false) 58,c.tab⟩).1
      else(⟨t.kind,t.of++[(bW s f ⟨dQ s (bg s (c.n+1) false) (bG s (c.n+1) false) 58,fl s (bg s (c.n+1) false) (bG s (c.n+1) false) 58,c.tab⟩).2],t.names++[cM s (c.n+1) false],t.ats++[c.n+1]⟩,(bW s f ⟨dQ s (bg s (c.n+1) false) (bG s (c.n+1) false) 58,fl s (bg s (c.n+1) false) (bG s (c.n+1) false) 58,c.tab⟩).1)):=rfl
    rw[bE.o] at G;generalize bW s f ⟨dQ s (bg s (c.n+1) false) (bG s (c.n+1) false) 58,fl s (bg s (c.n+1) false) (bG s (c.n+1) false) 58,c.tab⟩=r at *;rintro e w7 ⟨rfl,aS,ap,aa,bu,ac⟩;have a8:=m.o.lt w.heap.size (.inl rfl)
    have H:=ab (m.o.ae aS (fun g hg e=>by
     rcases e with e|e
     ·rcases hg with h|h
      ·omega
      ·have:=m.o.base.2 g h;omega
     ·rcases hg with h|h|h|h
      ·exact W.o g e h
      ·exact Q.o.ij m.o.so (by decide) g h e
      ·exact Q.o.ij m.o.sn (by decide) g h e
      ·exact Q.o.ij m.o.sa (by decide) g h e))
    have L:Hi (∀ g,aa.ownBlock=some g->g≠w.heap.size):=fun g hg=>by
     rcases ac g hg with h|h
     ·exact W.o g h
     ·omega
    have I:Hi (∀ g,aa.ownBlock=some g->tv.ownBlock=some g\/w.heap.size<=g):=fun g hg=>by
     rcases ac g hg with h|h
     ·exact z.o g h
     ·exact .inr (by omega)
    have aL:Hi (Fr (Ch db tv) w w7):=aK.o.ve aS (fun i A hc=>by
     rcases hc with h|h
     ·exact .inl h
     ·rcases z.o i h with h'|h'
      ·exact .inr h'
      ·omega)
    have a9:=ab bu;clear aS bu ac m Q aK W z a8;have ba:Hi (w.heap.size<=w7.heap.size):=aL.o.size;have ai:Hi (o.ownBlock≠some w.heap.size):=fun e=>H.o.nY _ (.inl e) rfl
    have bb:=H.o.cell.2.1;have E:=H.o.lt w.heap.size (.inl rfl);have m1:Hi (t.of.length+1<=maxLen):=by show _<=_;unfold maxLen;omega
    have m2:Hi ((t.of.length+1)*8<=140737488355328):=by show _<=_;omega
    have m3:Hi (∀ u∈[Value.int .i64 (r.2:Int)],u.oneCell'=true):=by intro u hu;simp at hu;subst hu;rfl
    obtain⟨i3,A,B,C,D⟩:=info_parts Tryz.xZ
    go_wp2_with (at_builtin;refine az _ rfl _ _ 160 rfl 0 3 i3 (.int .i64 0) 1 8 Tryz.underlying160 A B C D rfl (by decide) o t.of.length (ints t.of) rfl (by exact bT (o:=.cells #[.int .i64 (r.2:Int)] 3) H.o.so (by rfl)) ⟨w7.heap.size,0,none⟩ 1 1 (by omega) [.int .i64 (r.2:Int)] rfl rfl (by exact dp (w:=w7) (t:=3) (x:=.int .i64 (r.2:Int)) rfl (by rfl)) m3.o m1.o m2.o (Nat.zero_le _) ?_;intro v8 w8 bv aT bR;obtain⟨g8,aw,rfl,ax⟩:=bR;have j:=oG (ob:=.cells #[.int .i64 (r.2:Int)] 3) (by rfl) H.o aT ai.o;have q1:=cell_of_heap (o:=1) j;have bJ:=ak (o:=1) j;have bc:=ab (GY (x:=r.2) (ob:=.cells #[.int .i64 (r.2:Int)] 3) (by rfl) (by rfl) (by rfl) (by rfl) H.o a9.o HX.o hX L.o bv aT ⟨g8,aw,rfl,by simpa using ax⟩ ba.o);clear bv aT ax j)
    obtain⟨bw,bx,bz⟩:=bc.o;have bd:=ab bw;have aM:=ab bx;have be:=ab (aL.o.past bz);clear bc bw bx bz q1 bJ;generalize w8.setCell ⟨w.heap.size,1,none⟩ (.slice (some ⟨g8,0,none⟩) (t.of.length+1) aw)=w9 at *;clear H a9 aL ba ai m1 m2 m3 A B C D bb E;refine(dU aM.o.1 ad ap cR cR rfl GD).mono ?_;rintro e bA ⟨rfl,kk,ay⟩;have hz:Fr Zero w9 bA:=by rw[ay];exact Fr.drewN _ _ _
    have p:=ab (bd.o.ae hz (fun _ _ h=>h));have R:=ab (aM.o.cX hz);have S:=ab (be.o.trans hz.dV);have bb:=p.o.cell.2.1;clear ay hz bd aM be
    have T:Hi ((t.names++[nm]).length=(t.of++[r.2]).length/\(t.ats++[c.n+1]).length=(t.of++[r.2]).length):=by
     have:=U.o
     show _/\_;simp only[List.length_append,List.length_cons,List.length_nil];omega
    have aN:Hi (t.of.length+1<=6):=by show _<=_;omega
    have J:Hi (7-oV w.heap.size bA<7-oV w.heap.size wr):=by
     show _<_;rw[p.o.ofLen,aX.o];simp only[List.length_append,List.length_cons,List.length_nil];omega
    by_cases h6:t.of.length+1=6
    ·have hq:((t.of.length:Int)+1==6)=true:=beq_iff_eq.2 (by omega);have q:Hi (fO (bW s f) s cR 6 ⟨kind,[],[],[]⟩ ⟨n,false,tab⟩=(⟨t.kind,t.of++[r.2],t.names++[nm],t.ats++[c.n+1]⟩,r.1)):=M.o.trans (G.o.trans (by rw[if_neg (by omega)]));clear h6 G M;go_wp2
     go_roundw
     case rel=>exact⟨false,⟨t.kind,t.of++[r.2],t.names++[nm],t.ats++[c.n+1]⟩,r.1,_,n2,a2,aa,rfl,ap,by omega,(by have:=HL.o;show _<=_;omega),aO,(by simp only[List.length_append,List.length_cons,List.length_nil];exact aN),(fun h=>by cases h),(fun _=>q),T,p,R,L,I,S⟩
     case measure=>exact J
    ·have hq:((t.of.length:Int)+1==6)=false:=beq_eq_false_iff_ne.2 (by omega);rcases A:iC s r.1.n r.1.bad cR with _|_
     ·have q:Hi (fO (bW s f) s cR 6 ⟨kind,[],[],[]⟩ ⟨n,false,tab⟩=(⟨t.kind,t.of++[r.2],t.names++[nm],t.ats++[c.n+1]⟩,r.1)):=M.o.trans (G.o.trans (by rw[if_neg (by rw[A];simp)]));clear h6 G M A;go_wp2
      go_roundw
      case rel=>exact⟨false,⟨t.kind,t.of++[r.2],t.names++[nm],t.ats++[c.n+1]⟩,r.1,_,n2,a2,aa,rfl,ap,by omega,(by have:=HL.o;show _<=_;omega),aO,(by simp only[List.length_append,List.length_cons,List.length_nil];exact aN),(fun h=>by cases h),(fun _=>q),T,p,R,L,I,S⟩
      case measure=>exact J
     ·have q:Hi (fO (bW s f) s cR 6 ⟨kind,[],[],[]⟩ ⟨n,false,tab⟩=fO (bW s f) s cR k ⟨t.kind,t.of++[r.2],t.names++[nm],t.ats++[c.n+1]⟩ r.1):=M.o.trans (G.o.trans (by rw[if_pos ⟨A,h6⟩]))
      have bf:r.1.bad=false/\r.1.n+1<=s.size:=by
       unfold iC at A;simp at A;exact⟨A.1,bt (by omega)⟩
      have bh:=ab bf;have H6:=ab h6;clear h6 G M A bf;go_wp2
      go_roundw
      case rel =>
       have:=H6.o
       exact⟨true,⟨t.kind,t.of++[r.2],t.names++[nm],t.ats++[c.n+1]⟩,r.1,_,n2,a2,aa,rfl,ap,by omega,(by have:=HL.o;show _<=_;omega),aO,(by simp only[List.length_append,List.length_cons,List.length_nil];exact aN),(fun _=>⟨bh.o.1,bh.o.2,k-1,(by simp only[List.length_append,List.length_cons,List.length_nil];omega),(by rw[show k-1+1=k by omega];exact q)⟩),(fun h=>by cases h),T,p,R,L,I,S⟩
      case measure=>exact J
theorem ll{c:Nat}(h:aq s n=c):iC s n false c=true:=by simp[iC,h]
theorem cx{c:Nat}(h:¬aq s n=c):iC s n false c=false:=by simp[iC,h]
theorem DS.drew{tab:List RT}(h:DS w X db s n bad tv lv av rv tab)(hw:∃ k,w'=w.drewN k):DS w' X db s n bad tv lv av rv tab/\Fr Zero w w':=by
 obtain⟨k,rfl⟩:=hw;exact⟨h.cX (Fr.drewN _ _ _),Fr.drewN _ _ _⟩
theorem ko.after{w0:World}{r:RS×Nat}{e:Ending}(h:ko w0 X db s tv lv av rv r e w')(hf:Fr Zero w w0):ko w X db s tv lv av rv r e w':=by
 obtain⟨b,c,d,a,f,i⟩:=h
 exact⟨b,hf.dV.trans c,d,a,f,fun g hg=>by
  rcases i g hg with h|h
  ·exact .inl h
  ·have:=hf.size;exact .inr (by omega)⟩
theorem SL.one(e:TypeId)(x:Value)(hx:¬X w.heap.size):SL (w.alloc (.cells #[x] e)) X e (.slice (some ⟨w.heap.size,0,none⟩) 1 1) [x] :=
 ⟨⟨rfl,.inr ⟨w.heap.size,1,_,rfl,Nat.zero_le _,af rfl _,Nat.le_refl _,by unfold maxLen;omega,rfl,rfl⟩⟩,fun g hg=>by simp[Value.ownBlock] at hg;subst hg;exact hx⟩
theorem SL.GR(hk:w.heap.size=k)(e:TypeId)(x:Value)(hx:¬X k):SL (w.alloc (.cells #[x] e)) X e (.slice (some ⟨k,0,none⟩) 1 1) [x]:=by
 subst hk;exact SL.one e x hx
theorem Db{tab:List RT}(h:DS w X db s n true tv lv av rv tab)(bZ:n<=s.size):
  Calls Tryz.prog 109 #[.pointer (some ⟨db,0,none⟩)] w fun e w'=>ko w X db s tv lv av rv (⟨n,true,tab⟩,0) e w':=by
 have b:=h.1.zR;go_enter Tryz.func109,Tryz.ntmps109;go_wp2;go_ret;exact⟨rfl,Fr.refl _ _,bZ,tv,h,fun g hg=>.inl hg⟩
theorem sG{f:Nat}(hT:nX s f)(hs:s.size<=400):nX s (f+1):=by
 intro w X db n ar tv lv av rv a h hX aH bZ ao hl;have c:s.size<=maxLen:=by unfold maxLen;omega
 have c6:=h.1.zR;cases ar with
 | true =>
  go_enter Tryz.func109,Tryz.ntmps109;go_wp2;go_ret;exact⟨rfl,Fr.refl _ _,bZ,tv,h,fun g hg=>.inl hg⟩
 | false =>
  have ai:s.size<n+1+f:=by rcases ao with h|h;cases h;omega
  by_cases S:aq s n=91
  ·have y1:Hi (iC s n false 91=true):=ll S;have y2:Hi (iC s n false 63=false):=cx (by omega);have y3:Hi (iC s n false 123=false):=cx (by omega);have y4:Hi (iC s n false 60=false):=cx (by omega);have eQ:n+1<=s.size:=bt (by omega)
   have HR:Hi (bW s (f+1) ⟨n,false,a⟩=j4 (cU s 93 (bW s f ⟨n+1,false,a⟩).1) ⟨7,[(bW s f ⟨n+1,false,a⟩).2],[],[]⟩):=by
    show _=_;simp only[bW];rw[if_neg (by simp),if_pos S]
   go_enter Tryz.func109,Tryz.ntmps109;go_wp2_with fail;refine(dU h.1 c bZ 91 91 rfl (by omega)).mono ?_;rintro e w1 ⟨rfl,q⟩;obtain⟨t,u⟩:=h.drew q;have J:Hi (Fr Zero w w1):=(Fr.refl Zero w).trans u;rw[y1.o];go_wp2_with fail;refine(dU t.1 c bZ 63 63 rfl (by omega)).mono ?_;rintro e w2 ⟨rfl,v⟩;obtain⟨x,y⟩:=t.drew v;have K:Hi (Fr Zero w w2):=J.o.trans y;rw[y2.o];go_wp2_with fail;refine(dU x.1 c bZ 123 123 rfl (by omega)).mono ?_;rintro e w3 ⟨rfl,z⟩;obtain⟨A,B⟩:=x.drew z;have L:Hi (Fr Zero w w3):=K.o.trans B;rw[y3.o];go_wp2_with fail;refine(dU A.1 c bZ 60 60 rfl (by omega)).mono ?_;rintro e V ⟨rfl,C⟩;obtain⟨D,E⟩:=A.drew C;have G:Hi (Fr Zero w V):=L.o.trans E;rw[y4.o];have k1:=D.1.cE;have f1:=D.1.free 1;have aa:(n:Int)<1000:=by omega
   go_wp2_with fail;have T:Fr (One db) V (V.setCell ⟨db,1,none⟩ (.int .i64 ((n:Int)+1))):=Fr.setCell _ _ _ _ rfl;have aj:=ab (D.self hX T (D.1.Cn (n+1)));have M:=ab ((G.o.dV (X:=Ch db tv)).trans (T.mono (fun k _ e=>.inl e)));generalize V.setCell ⟨db,1,none⟩ (.int .i64 ((n:Int)+1))=wq at *;refine(hT wq X db (n+1) false tv lv av rv a aj hX (fun b hb=>Nat.lt_of_lt_of_le (aH b hb) M.o.size) eQ (.inr (by omega)) (by omega)).mono ?_;have mV:=kG s f ⟨n+1,false,a⟩;simp only at mV;generalize bW s f ⟨n+1,false,a⟩=r at *;rintro e w5 ⟨rfl,O,af,an,Q,R⟩;have ac:=ab Q;have P:=ab R;have ag:=ab (M.o.trans O);go_wp2_with fail;refine(lu ac.o.1 c af 93 93 rfl (by omega)).mono ?_;rintro e w6 ⟨rfl,W,ap,ak⟩;have N:=ab (ac.o.self hX W ap);have F:=ab (ag.o.trans (W.mono (fun k _ e=>.inl e)));go_wp2_with fail;have ah:Hi (∀ b,X b->b<w6.heap.size):=fun b hb=>Nat.lt_of_lt_of_le (aH b hb) F.o.size
   have ad:Hi (¬XO X an w6.heap.size):=fun h=>by
    rcases h with h|h
    ·have:=ah.o _ h;omega
    ·have:=N.o.lt _ h;omega
   refine(nV (N.o.cX (Fr.alloc _ _ _)) hX (by omega) 7 ⟨7,.slice (some ⟨w6.heap.size,0,none⟩) 1 1,.slice none 0 0,.slice none 0 0⟩ ⟨7,[r.2],[],[]⟩ rfl ⟨rfl,SL.one _ _ ad,SL.nil _ _ _,SL.nil _ _ _⟩).mono ?_;rintro e w7 ⟨rfl,(Y:Hi _),Z,I,j⟩;have H:=ab j;go_wp2;go_ret;rw[HR.o];refine⟨rfl,?_,ak,Z,I,fun g hg=>?_⟩
   ·refine F.o.ve ((Fr.alloc _ _ _).trans Y.o) (fun i hi hc=>?_);rcases hc with h|h
    ·exact .inl h
    ·rcases P.o i h with h'|h'
     ·exact .inr h'
     ·have:=M.o.size;omega
   ·rcases H.o g hg with h|h
    ·rcases P.o g h with h'|h'
     ·exact .inl h'
     ·have:=M.o.size;exact .inr (by omega)
    ·have:=F.o.size;simp at h;exact .inr (by omega)
  ·by_cases c2:aq s n=63
   ·have y1:Hi (iC s n false 91=false):=cx S;have y2:Hi (iC s n false 63=true):=ll c2;have y3:Hi (iC s n false 123=false):=cx (by omega);have y4:Hi (iC s n false 60=false):=cx (by omega);have eQ:n+1<=s.size:=bt (by omega)
    have HR:Hi (bW s (f+1) ⟨n,false,a⟩=j4 (bW s f ⟨n+1,false,a⟩).1 ⟨8,[(bW s f ⟨n+1,false,a⟩).2],[],[]⟩):=by
     show _=_;simp only[bW];rw[if_neg (by simp),if_neg S,if_pos c2]
    go_enter Tryz.func109,Tryz.ntmps109;go_wp2_with fail;refine(dU h.1 c bZ 91 91 rfl (by omega)).mono ?_;rintro e w1 ⟨rfl,q⟩;obtain⟨t,u⟩:=h.drew q;have J:Hi (Fr Zero w w1):=(Fr.refl Zero w).trans u;rw[y1.o];go_wp2_with fail;refine(dU t.1 c bZ 63 63 rfl (by omega)).mono ?_;rintro e w2 ⟨rfl,v⟩;obtain⟨x,y⟩:=t.drew v;have K:Hi (Fr Zero w w2):=J.o.trans y;rw[y2.o];go_wp2_with fail;refine(dU x.1 c bZ 123 123 rfl (by omega)).mono ?_;rintro e w3 ⟨rfl,z⟩;obtain⟨A,B⟩:=x.drew z;have L:Hi (Fr Zero w w3):=K.o.trans B;rw[y3.o];go_wp2_with fail;refine(dU A.1 c bZ 60 60 rfl (by omega)).mono ?_;rintro e V ⟨rfl,C⟩;obtain⟨D,E⟩:=A.drew C;have G:Hi (Fr Zero w V):=L.o.trans E;rw[y4.o];have k1:=D.1.cE;have f1:=D.1.free 1;have aa:(n:Int)<1000:=by omega
    go_wp2_with fail;have T:Fr (One db) V (V.setCell ⟨db,1,none⟩ (.int .i64 ((n:Int)+1))):=Fr.setCell _ _ _ _ rfl;have aj:=ab (D.self hX T (D.1.Cn (n+1)));have M:=ab ((G.o.dV (X:=Ch db tv)).trans (T.mono (fun k _ e=>.inl e)));generalize V.setCell ⟨db,1,none⟩ (.int .i64 ((n:Int)+1))=wq at *;refine(hT wq X db (n+1) false tv lv av rv a aj hX (fun b hb=>Nat.lt_of_lt_of_le (aH b hb) M.o.size) eQ (.inr (by omega)) (by omega)).mono ?_;have mV:=kG s f ⟨n+1,false,a⟩;simp only at mV;generalize bW s f ⟨n+1,false,a⟩=r at *;rintro e w5 ⟨rfl,O,af,an,Q,R⟩;have ac:=ab Q;have P:=ab R;have ag:=ab (M.o.trans O);go_wp2_with fail;have N:=ac;have F:=ag;have ak:=af;have ah:Hi (∀ b,X b->b<w5.heap.size):=fun b hb=>Nat.lt_of_lt_of_le (aH b hb) F.o.size
    have ad:Hi (¬XO X an w5.heap.size):=fun h=>by
     rcases h with h|h
     ·have:=ah.o _ h;omega
     ·have:=N.o.lt _ h;omega
    refine(nV (N.o.cX (Fr.alloc _ _ _)) hX (by omega) 8 ⟨8,.slice (some ⟨w5.heap.size,0,none⟩) 1 1,.slice none 0 0,.slice none 0 0⟩ ⟨8,[r.2],[],[]⟩ rfl ⟨rfl,SL.one _ _ ad,SL.nil _ _ _,SL.nil _ _ _⟩).mono ?_;rintro e w7 ⟨rfl,(Y:Hi _),Z,I,j⟩;have H:=ab j;go_wp2;go_ret;rw[HR.o];refine⟨rfl,?_,ak,Z,I,fun g hg=>?_⟩
    ·refine F.o.ve ((Fr.alloc _ _ _).trans Y.o) (fun i hi hc=>?_);rcases hc with h|h
     ·exact .inl h
     ·rcases P.o i h with h'|h'
      ·exact .inr h'
      ·have:=M.o.size;omega
    ·rcases H.o g hg with h|h
     ·rcases P.o g h with h'|h'
      ·exact .inl h'
      ·have:=M.o.size;exact .inr (by omega)
     ·have:=F.o.size;simp at h;exact .inr (by omega)
   ·by_cases c3:aq s n=123
    ·have y1:Hi (iC s n false 91=false):=cx S;have y2:Hi (iC s n false 63=false):=cx c2;have y3:Hi (iC s n false 123=true):=ll c3;have y4:Hi (iC s n false 60=false):=cx (by omega);have eQ:n+1<=s.size:=bt (by omega)
     have HR:Hi (bW s (f+1) ⟨n,false,a⟩=ic (bW s f) s 9 44 125 ⟨n,false,a⟩):=by
      show _=_;simp only[bW];rw[if_neg (by simp),if_neg S,if_neg c2,if_pos c3]
     go_enter Tryz.func109,Tryz.ntmps109;go_wp2_with fail;refine(dU h.1 c bZ 91 91 rfl (by omega)).mono ?_;rintro e w1 ⟨rfl,q⟩;obtain⟨t,u⟩:=h.drew q;have J:Hi (Fr Zero w w1):=(Fr.refl Zero w).trans u;rw[y1.o];go_wp2_with fail;refine(dU t.1 c bZ 63 63 rfl (by omega)).mono ?_;rintro e w2 ⟨rfl,v⟩;obtain⟨x,y⟩:=t.drew v;have K:Hi (Fr Zero w w2):=J.o.trans y;rw[y2.o];go_wp2_with fail;refine(dU x.1 c bZ 123 123 rfl (by omega)).mono ?_;rintro e w3 ⟨rfl,z⟩;obtain⟨A,B⟩:=x.drew z;have L:Hi (Fr Zero w w3):=K.o.trans B;rw[y3.o];go_wp2_with fail;refine(dU A.1 c bZ 60 60 rfl (by omega)).mono ?_;rintro e V ⟨rfl,C⟩;obtain⟨D,E⟩:=A.drew C;have G:Hi (Fr Zero w V):=L.o.trans E;rw[y4.o];have k1:=D.1.cE;have f1:=D.1.free 1;have aa:(n:Int)<1000:=by omega
     go_wp2_with fail;refine(pU hT D hX (fun b hb=>Nat.lt_of_lt_of_le (aH b hb) G.o.size) hs eQ ai hl 9 44 125 9 44 125 rfl rfl rfl (by omega) (by omega)).mono ?_;generalize ic (bW s f) s 9 44 125 ⟨n,false,a⟩=r at *;intro e w5 hP;obtain rfl:=hP.1;have al:=ab (hP.after G.o);go_wp2;go_ret;rw[HR.o];exact al
    ·by_cases c4:aq s n=60
     ·have y1:Hi (iC s n false 91=false):=cx S;have y2:Hi (iC s n false 63=false):=cx c2;have y3:Hi (iC s n false 123=false):=cx c3;have y4:Hi (iC s n false 60=true):=ll c4;have eQ:n+1<=s.size:=bt (by omega)
      have HR:Hi (bW s (f+1) ⟨n,false,a⟩=ic (bW s f) s 10 124 62 ⟨n,false,a⟩):=by
       show _=_;simp only[bW];rw[if_neg (by simp),if_neg S,if_neg c2,if_neg c3,if_pos c4]
      go_enter Tryz.func109,Tryz.ntmps109;go_wp2_with fail;refine(dU h.1 c bZ 91 91 rfl (by omega)).mono ?_;rintro e w1 ⟨rfl,q⟩;obtain⟨t,u⟩:=h.drew q;have J:Hi (Fr Zero w w1):=(Fr.refl Zero w).trans u;rw[y1.o];go_wp2_with fail;refine(dU t.1 c bZ 63 63 rfl (by omega)).mono ?_;rintro e w2 ⟨rfl,v⟩;obtain⟨x,y⟩:=t.drew v;have K:Hi (Fr Zero w w2):=J.o.trans y;rw[y2.o];go_wp2_with fail;refine(dU x.1 c bZ 123 123 rfl (by omega)).mono ?_;rintro e w3 ⟨rfl,z⟩;obtain⟨A,B⟩:=x.drew z;have L:Hi (Fr Zero w w3):=K.o.trans B;rw[y3.o];go_wp2_with fail;refine(dU A.1 c bZ 60 60 rfl (by omega)).mono ?_;rintro e V ⟨rfl,C⟩;obtain⟨D,E⟩:=A.drew C;have G:Hi (Fr Zero w V):=L.o.trans E;rw[y4.o];have k1:=D.1.cE;have f1:=D.1.free 1;have aa:(n:Int)<1000:=by omega
      go_wp2_with fail;refine(pU hT D hX (fun b hb=>Nat.lt_of_lt_of_le (aH b hb) G.o.size) hs eQ ai hl 10 124 62 10 124 62 rfl rfl rfl (by omega) (by omega)).mono ?_;generalize ic (bW s f) s 10 124 62 ⟨n,false,a⟩=r at *;intro e w5 hP;obtain rfl:=hP.1;have al:=ab (hP.after G.o);go_wp2;go_ret;rw[HR.o];exact al
     ·have y1:Hi (iC s n false 91=false):=cx S;have y2:Hi (iC s n false 63=false):=cx c2;have y3:Hi (iC s n false 123=false):=cx c3;have y4:Hi (iC s n false 60=false):=cx c4
      have HR:Hi (bW s (f+1) ⟨n,false,a⟩=match cY (cM s n false) with
        | some k=>j4 ⟨bg s n false,cG s n false,a⟩ ⟨k,[],[],[]⟩
        | none=>j4 ⟨bg s n false,cG s n false,a⟩ ⟨11,[],[cM s n false],[n]⟩):=by
       show _=_;simp only[bW];rw[if_neg (by simp),if_neg S,if_neg c2,if_neg c3,if_neg c4]
      go_enter Tryz.func109,Tryz.ntmps109;go_wp2_with fail;refine(dU h.1 c bZ 91 91 rfl (by omega)).mono ?_;rintro e w1 ⟨rfl,q⟩;obtain⟨t,u⟩:=h.drew q;have J:Hi (Fr Zero w w1):=(Fr.refl Zero w).trans u;rw[y1.o];go_wp2_with fail;refine(dU t.1 c bZ 63 63 rfl (by omega)).mono ?_;rintro e w2 ⟨rfl,v⟩;obtain⟨x,y⟩:=t.drew v;have K:Hi (Fr Zero w w2):=J.o.trans y;rw[y2.o];go_wp2_with fail;refine(dU x.1 c bZ 123 123 rfl (by omega)).mono ?_;rintro e w3 ⟨rfl,z⟩;obtain⟨A,B⟩:=x.drew z;have L:Hi (Fr Zero w w3):=K.o.trans B;rw[y3.o];go_wp2_with fail;refine(dU A.1 c bZ 60 60 rfl (by omega)).mono ?_;rintro e V ⟨rfl,C⟩;obtain⟨D,E⟩:=A.drew C;have G:Hi (Fr Zero w V):=L.o.trans E;rw[y4.o];have k1:=D.1.cE;have f1:=D.1.free 1;have aa:(n:Int)<1000:=by omega
      go_wp2_with fail;refine(vm D.1 c bZ).mono ?_;rintro e w5 ⟨rfl,O,Q,af⟩;have ac:=ab (D.self hX O Q);have ag:=ab ((G.o.dV (X:=Ch db tv)).trans (O.mono (fun k _ e=>.inl e)));generalize cM s n false=nm at *;go_wp2_with fail;refine(nb nm _).mono ?_;rintro e w6 ⟨rfl,W⟩;have N:=ab (ac.o.cX W);have F:=ab (ag.o.trans W.dV);have ah:Hi (∀ b,X b->b<w6.heap.size):=fun b hb=>Nat.lt_of_lt_of_le (aH b hb) F.o.size
      have ad:Hi (∀ k,w6.heap.size<=k->¬XO X tv k):=fun k hk h=>by
       rcases h with h|h
       ·have:=ah.o _ h;omega
       ·have:=N.o.lt _ h;omega
      unfold kindOf;rcases hk:cY nm with _|k
      ·have am:Hi (bW s (f+1) ⟨n,false,a⟩=j4 ⟨bg s n false,cG s n false,a⟩ ⟨11,[],[nm],[n]⟩):=HR.o.trans (by rw[hk]);go_wp2_with fail;refine(nV ((N.o.cX (Fr.alloc _ _ _)).cX (Fr.alloc _ _ _)) hX (by omega) 11 ⟨11,.slice none 0 0,.slice (some ⟨w6.heap.size,0,none⟩) 1 1,.slice (some ⟨w6.heap.size+1,0,none⟩) 1 1⟩ ⟨11,[],[nm],[n]⟩ rfl ⟨rfl,SL.nil _ _ _,(SL.one _ _ (ad _ (Nat.le_refl _))).ae (Fr.alloc _ _ _),SL.GR (by simp) _ _ (ad _ (by omega))⟩).mono ?_;rintro e w7 ⟨rfl,(Y:Hi _),Z,I,j⟩;have H:=ab j;go_wp2;go_ret;rw[am.o];refine⟨rfl,F.o.trans ((Fr.alloc _ _ _).trans ((Fr.alloc _ _ _).trans Y.o)),af,Z,I,fun g hg=>?_⟩;rcases H.o g hg with h|h
       ·exact .inl h
       ·have:=F.o.size;simp at h;exact .inr (by omega)
      ·have au:=(eY hk).1;have am:Hi (bW s (f+1) ⟨n,false,a⟩=j4 ⟨bg s n false,cG s n false,a⟩ ⟨k,[],[],[]⟩):=HR.o.trans (by rw[hk]);go_wp2_with fail;refine(nV N.o hX (by omega) k ⟨k,.slice none 0 0,.slice none 0 0,.slice none 0 0⟩ ⟨k,[],[],[]⟩ rfl ⟨rfl,SL.nil _ _ _,SL.nil _ _ _,SL.nil _ _ _⟩).mono ?_;rintro e w7 ⟨rfl,(Y:Hi _),Z,I,j⟩;have H:=ab j;go_wp2;go_ret;rw[am.o];refine⟨rfl,F.o.trans Y.o,af,Z,I,fun g hg=>?_⟩;rcases H.o g hg with h|h
       ·exact .inl h
       ·have:=F.o.size;exact .inr (by omega)
theorem Dc(hs:s.size<=400):∀ f,nX s (f+1):=by
 intro f
 induction f with
 | zero =>
  refine sG ?_ hs;intro w X e n c g i j k d h l aH bZ a m;rcases a with b|b
  ·subst b;exact Db h bZ
  ·omega
 | succ f ih=>exact sG ih hs
end Go.Proofs.YtpffifpbpmlhdaaGreatDoor
