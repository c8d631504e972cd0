import Derived.Deep.LoopGhost
import Derived.RegionTactic
import Derived.Test.YtpffifpbpmlhdaaGreatDoorBsDDigs
import Derived.Test.YtpffifpbpmlhdaaGreatDoorBsVInt
import Derived.Test.YtpffifpbpmlhdaaGreatDoorBsPure
set_option maxHeartbeats 32000000
set_option maxRecDepth 100000
namespace Go.Proofs.YtpffifpbpmlhdaaGreatDoor
open Go.RowKit
variable {w w':World}{B db x k tb rb kd go co:Nat}{tab:List RT}{roots:List Nat}{v nv wv o av:Value}{t:PT}{r l:Bs}{s:ByteArray}{bad:Bool}
def DF(w:World)(B db:Nat)(tab:List RT)(roots:List Nat):Prop :=
 ∃(w0:World) (X:Nat->Prop) (s:ByteArray) (n:Nat) (tv lv av rv:Value) (lines:List ByteArray) (ats:List Nat) (B0:Nat),w0.heap.size<=B/\Fr (bk B) w0 w/\DS w0 X db s n false tv lv av rv tab/\LD w0 B0 lv av rv lines ats roots
theorem DF.ae(h:DF w B db tab roots)(hf:Fr (bk B) w w'):DF w' B db tab roots:=by
 obtain⟨c,X,s,n,d,e,f,g,a,b,B0,i,j,k,l⟩:=h;exact⟨c,X,s,n,d,e,f,g,a,b,B0,i,j.trans hf,k,l⟩
theorem Fr.qT{w0:World}(hB:w0.heap.size<=B)(hf:Fr (bk B) w0 w){a:Addr}(h:w0.cell? a=some v):w.cell? a=some v:=by
 have b:=World.block_lt_of_cell? w0 _ h;rw[hf.cell b (fun e=>by unfold bk at e;omega)];exact h
theorem DF.row(h:DF w B db tab roots)(hx:x<tab.length):
  ∃(g au:Nat) (o nv a:Value),w.cell? ⟨db,2,none⟩=some (.slice (some ⟨g,0,none⟩) tab.length au)/\w.cell? ⟨g,x*4,none⟩=some (.int .i64 (rowAt tab x).kind)/\w.cell? ⟨g,x*4+1,none⟩=some o/\w.cell? ⟨g,x*4+2,none⟩=some nv/\w.cell? ⟨g,x*4+3,none⟩=some a /\
   qW w (bk B) ⟨(rowAt tab x).kind,o,nv,a⟩ (rowAt tab x):=by
 obtain⟨t,X,s,n,u,v,y,z,e,j,B0,d,c,i,A⟩:=h;obtain⟨g,au,o,nv,a,k,l,m,p,q,r,_⟩:=i.row hx;have f:=i.1.fM;rw[k] at f;exact⟨g,au,o,nv,a,c.qT d f,c.qT d l,c.qT d m,c.qT d p,c.qT d q,(r.aY (Y:=bk B) (fun b hb hy=>by unfold bk at hy;omega)).ae c⟩
theorem DF.root(h:DF w B db tab roots)(hp:0<roots.length):
  ∃(g au:Nat),w.cell? ⟨db,5,none⟩=some (.slice (some ⟨g,0,none⟩) roots.length au)/\∀ i,i<roots.length->w.cell? ⟨g,i,none⟩=some (.int .i64 (aj roots i:Nat)):=by
 obtain⟨o,X,s,n,p,q,r,t,a,f,B0,c,d,j,k⟩:=h;have b:=k.sr;have e:=j.1.n9;rcases b.2 with⟨_,u⟩|⟨g,au,l,m,_⟩
 ·omega
 ·subst m;exact⟨g,au,d.qT c e,fun i hi=>d.qT c ((fK b hi).trans (j6 _ i hi))⟩
structure ER(tab:List RT)(row:RT)(t:PT):Prop where
 kind:row.kind=t.kind
 no:row.kind≠11
 nms:kL row=t.names
 len:row.of.length=t.subs.length
 nml:9<=row.kind->row.names.length=row.of.length
 sub:∀ i,i<t.subs.length->Is tab (aj row.of i) (t.sub i)
theorem Is.lt(h:Is tab x t):x<tab.length:=by cases h<;>assumption
def gz(l:List (Bs×Int)):List Value:=l.flatMap fun p=>[.string (ba p.1),.int .i64 p.2]
def cj(l:List (Bs×Bs)):List Value:=l.flatMap fun p=>[.string (ba p.1),.string (ba p.2)]
theorem mx(l:List (Bs×Int))(p:Bs×Int):gz (l++[p])=gz l++[.string (ba p.1),.int .i64 p.2]:=by simp[gz]
theorem mq(l:List (Bs×Bs))(p:Bs×Bs):cj (l++[p])=cj l++[.string (ba p.1),.string (ba p.2)]:=by simp[cj]
theorem fi(l:List (Bs×Bs)):(cj l).length=l.length*2:=by
 induction l with
 | nil=>rfl
 | cons p l ih=>simp only[cj,List.flatMap_cons,List.length_append,List.length_cons,List.length_nil] at ih ⊢;omega
theorem ku(a b:List (Bs×Bs)):cj (a++b)=cj a++cj b:=by simp[cj]
structure KB(w:World)(tb db:Nat)(s:ByteArray)(l:Bs)(bad:Bool)(nv wv:Value):Prop where
 len:l.length<=s.size
 tail:tl s (pos s l)=l
 block:w.heap[tb]?=some (.cells #[.pointer (some ⟨db,0,none⟩),.string s,.int .i64 (pos s l),.bool bad,nv,wv] 108 (0,0))
section
variable {w w':World} {tb db:Nat} {s:ByteArray} {l:Bs} {bad:Bool} {nv wv:Value}
theorem KB.dM(h:KB w tb db s l bad nv wv):w.cell? ⟨tb,0,none⟩=some (.pointer (some ⟨db,0,none⟩)):=by rw[cell_of_heap h.block];rfl
theorem KB.cE(h:KB w tb db s l bad nv wv):w.cell? ⟨tb,1,none⟩=some (.string s):=by rw[cell_of_heap h.block];rfl
theorem KB.fM(h:KB w tb db s l bad nv wv):w.cell? ⟨tb,2,none⟩=some (.int .i64 (pos s l)):=by rw[cell_of_heap h.block];rfl
theorem KB.dw(h:KB w tb db s l bad nv wv):w.cell? ⟨tb,3,none⟩=some (.bool bad):=by rw[cell_of_heap h.block];rfl
theorem KB.gS(h:KB w tb db s l bad nv wv):w.cell? ⟨tb,4,none⟩=some nv:=by rw[cell_of_heap h.block];rfl
theorem KB.n9(h:KB w tb db s l bad nv wv):w.cell? ⟨tb,5,none⟩=some wv:=by rw[cell_of_heap h.block];rfl
theorem KB.free(h:KB w tb db s l bad nv wv)(o:Nat):w.frozen? ⟨tb,o,none⟩=false:=ak h.block
theorem KB.lt(h:KB w tb db s l bad nv wv):tb<w.heap.size:=lt_of_heap h.block
theorem KB.ae(h:KB w tb db s l bad nv wv){X:Nat->Prop}(hf:Fr X w w')(hx:¬X tb):KB w' tb db s l bad nv wv:=⟨h.len,h.tail,hf.ae h.block hx⟩
theorem KB.gj(_h:KB w tb db s l bad nv wv):pos s l<=s.size:=Nat.sub_le _ _
theorem KB.next{b:UInt8}(h:KB w tb db s (b::r) bad nv wv):pos s (b::r)<s.size/\pos s r=pos s (b::r)+1/\tl s (pos s r)=r/\(∀ hn:pos s (b::r)<s.size,s[pos s (b::r)]=b):=by
 have e:=h.len;have c:=h.tail;simp only[List.length_cons] at e;have d:pos s (b::r)<s.size:=by simp only[pos,List.length_cons];omega
 have a:pos s r=pos s (b::r)+1:=by simp only[pos,List.length_cons];omega
 rw[tQ d] at c;simp only[List.cons.injEq] at c;exact⟨d,a,by rw[a];exact c.2,fun _=>c.1⟩
theorem KB.end(h:KB w tb db s [] bad nv wv):pos s []=s.size:=by have:=h.len;simp[pos]
theorem KB.move(h:KB w tb db s l bad nv wv)(hl:r.length<=s.size)(ht:tl s (pos s r)=r):KB (w.setCell ⟨tb,2,none⟩ (.int .i64 (pos s r))) tb db s r bad nv wv:=by
 refine⟨hl,ht,?_⟩;rw[heap_setCell_same h.block];rfl
theorem KB.mark(h:KB w tb db s l bad nv wv)(b:Bool):KB (w.setCell ⟨tb,3,none⟩ (.bool b)) tb db s l b nv wv:=by
 refine⟨h.len,h.tail,?_⟩;rw[heap_setCell_same h.block];rfl
theorem KB.I3(h:KB w tb db s l bad nv wv)(v:Value):KB (w.setCell ⟨tb,4,none⟩ v) tb db s l bad v wv:=by
 refine⟨h.len,h.tail,?_⟩;rw[heap_setCell_same h.block];rfl
theorem KB.ways(h:KB w tb db s l bad nv wv)(v:Value):KB (w.setCell ⟨tb,5,none⟩ v) tb db s l bad nv v:=by
 refine⟨h.len,h.tail,?_⟩;rw[heap_setCell_same h.block];rfl
end
def KS(w:World)(B tb db:Nat)(s:ByteArray)(l:Bs)(bad:Bool)(ar:List (Bs×Int))(ways:List (Bs×Bs)):Prop :=
 ∃ nv wv,KB w tb db s l bad nv wv/\B<=tb/\w.ownsRow B 273 2 nv ar.length (gz ar)/\w.ownsRow B 104 2 wv ways.length (cj ways)
theorem gI{base n:Nat}{e ty:TypeId}{xs:List Value}{cs:Array Value}{fz:Nat×Nat}(h:w.ownsRow base e k v n xs)(hb:w.heap[tb]?=some (.cells cs ty fz))(cF:e≠ty):v.ownBlock≠some tb:=fun hg=>by
 rcases h.2 with⟨rfl,_⟩|⟨g,au,cur,rfl,_,hg2,_⟩
 ·simp[Value.ownBlock] at hg
 ·simp[Value.ownBlock] at hg;subst hg;rw[hb] at hg2;simp at hg2;exact cF hg2.2.1.symm
theorem KS.cells{bd:Bool}{ar:List (Bs×Int)}{ways:List (Bs×Bs)}(h:KS w B tb db s l bad ar ways)
  (hk:∀ nv wv,KB w tb db s l bad nv wv->KB w' tb db s r bd nv wv) (hf:Fr (One tb) w w'):KS w' B tb db s r bd ar ways:=by
 obtain⟨nv,wv,a,d,b,c⟩:=h;exact⟨nv,wv,hk nv wv a,d,ag b hf (fun g hg e=>gI b a.block (by decide) (by rw[hg];exact congrArg some e)),ag c hf (fun g hg e=>gI c a.block (by decide) (by rw[hg];exact congrArg some e))⟩
def KX(w:World)(tb:Nat):Nat->Prop:=fun k=>k=tb\/(∃ v,w.cell? ⟨tb,4,none⟩=some v/\v.ownBlock=some k)\/(∃ v,w.cell? ⟨tb,5,none⟩=some v/\v.ownBlock=some k)
structure gR(tb:Nat)(w w':World):Prop where
 fr:Fr (KX w tb) w w'
 own:∀ k,k<w.heap.size->KX w' tb k->KX w tb k
theorem gR.refl(tb:Nat)(w:World):gR tb w w:=⟨Fr.refl _ _,fun _ _ h=>h⟩
theorem gR.trans{a b c:World}(h:gR tb a b)(k:gR tb b c):gR tb a c :=
 ⟨⟨k.fr.os.trans h.fr.os,k.fr.tape.trans h.fr.tape,k.fr.output.trans h.fr.output,Nat.le_trans h.fr.size k.fr.size,fun i hi hx=>(k.fr.block i (Nat.lt_of_lt_of_le hi h.fr.size) (fun e=>hx (h.own i hi e))).trans (h.fr.block i hi hx)⟩,
  fun i hi e=>h.own i hi (k.own i (Nat.lt_of_lt_of_le hi h.fr.size) e)⟩
theorem KX.same(h4:w'.cell? ⟨tb,4,none⟩=w.cell? ⟨tb,4,none⟩)(h5:w'.cell? ⟨tb,5,none⟩=w.cell? ⟨tb,5,none⟩)(k:Nat):KX w' tb k↔KX w tb k:=by
 unfold KX;rw[h4,h5]
theorem gR.quiet(hf:Fr Zero w w')(hb:tb<w.heap.size):gR tb w w' :=
 ⟨hf.dV,fun k _ h=>(KX.same (hf.cell hb (fun h=>h)) (hf.cell hb (fun h=>h)) k).1 h⟩
theorem gR.cells{I0:Nat}{s':ByteArray}{bd:Bool}(h:KB w tb db s l bad nv wv)(h':KB w' tb I0 s' r bd nv wv)(hf:Fr (One tb) w w'):gR tb w w' :=
 ⟨hf.mono (fun _k _ e=>.inl e),fun k _ e=>(KX.same (h'.gS.trans h.gS.symm) (h'.n9.trans h.n9.symm) k).1 e⟩
theorem KX.of(h:KB w tb db s l bad nv wv)(hk:KX w tb k):k=tb\/nv.ownBlock=some k\/wv.ownBlock=some k:=by
 rcases hk with e|⟨v,a,b⟩|⟨v,a,b⟩
 ·exact .inl e
 ·rw[h.gS] at a;simp at a;subst a;exact .inr (.inl b)
 ·rw[h.n9] at a;simp at a;subst a;exact .inr (.inr b)
theorem KS.from{ar:List (Bs×Int)}{ways:List (Bs×Bs)}(h:KS w B tb db s l bad ar ways)(hk:KX w tb k):B<=k:=by
 obtain⟨d,f,a,g,b,c⟩:=h;rcases KX.of a hk with e|e|e
 ·omega
 ·exact(b.lt k e).1
 ·exact(c.lt k e).1
theorem KS.mH{ar:List (Bs×Int)}{ways:List (Bs×Bs)}(h:KS w B tb db s l bad ar ways)(hf:gR tb w w'):Fr (bk B) w w' :=
 hf.fr.mono (fun _ _ e=>h.from e)
theorem KS.lt{ar:List (Bs×Int)}{ways:List (Bs×Bs)}(h:KS w B tb db s l bad ar ways):tb<w.heap.size:=by
 obtain⟨b,c,a,_⟩:=h;exact a.lt
theorem KS.len{ar:List (Bs×Int)}{ways:List (Bs×Bs)}(h:KS w B tb db s l bad ar ways):l.length<=s.size:=by
 obtain⟨b,c,a,_⟩:=h;exact a.len
theorem KS.quiet{ar:List (Bs×Int)}{ways:List (Bs×Bs)}(h:KS w B tb db s l bad ar ways)(hf:Fr Zero w w'):KS w' B tb db s l bad ar ways:=by
 obtain⟨a,b,c,d,e,f⟩:=h;exact⟨a,b,c.ae hf (fun h=>h),d,ag e hf (fun g _ h=>h),ag f hf (fun g _ h=>h)⟩
def kW(tb B db:Nat)(s:ByteArray)(ar:List (Bs×Int))(ways:List (Bs×Bs))(w:World)(p:Option Nat×Bs)(e:Ending)(w':World):Prop :=
 gR tb w w'/\KS w' B tb db s p.2 p.1.isNone ar ways/\∃ n:Nat,e=.returned (.int .i64 n)/\n<=40000/\∀ x,p.1=some x->n=x
def TX(tb:Nat)(w:World):Nat->Prop:=fun k=>k=tb\/w.heap.size<=k
theorem KS.oL{bd:Bool}{ar:List (Bs×Int)}{ways:List (Bs×Bs)}(h1:KB w tb db s l bad nv wv)(hB:B<=tb)
  (h3:w.ownsRow B 273 2 nv ar.length (gz ar)) (h4:w.ownsRow B 104 2 wv ways.length (cj ways)) (hb:KB w' tb db s r bd nv wv) (hf:Fr (TX tb w) w w') :
  KS w' B tb db s r bd ar ways/\gR tb w w':=by
 refine⟨⟨nv,wv,hb,hB,ag h3 hf (fun g hg e=>?_),ag h4 hf (fun g hg e=>?_)⟩,⟨hf.mono (fun k hk e=>?_),fun k _ e=>(KX.same (hb.gS.trans h1.gS.symm) (hb.n9.trans h1.n9.symm) k).1 e⟩⟩
 ·rcases e with e|e
  ·exact gI h3 h1.block (by decide) (by rw[hg];exact congrArg some e)
  ·have:=(h3.lt g hg).2;omega
 ·rcases e with e|e
  ·exact gI h4 h1.block (by decide) (by rw[hg];exact congrArg some e)
  ·have:=(h4.lt g hg).2;omega
 ·rcases e with e|e
  ·exact .inl e
  ·omega
theorem zk(hb:KB w tb db s l true nv wv)(most:Int):
  Calls Tryz.prog 131 #[.pointer (some ⟨tb,0,none⟩),.int .i64 most] w fun e w'=>Fr (One tb) w w'/\KB w' tb db s l true nv wv/\e=.returned (.int .i64 0):=by
 have b:=hb.dw;have c:=hb.free 3;go_enter Tryz.func131,Tryz.ntmps131;go_wp2
 go_quiet (fail)
 go_wp2;go_ret;exact⟨(Fr.drewN _ _ nq).trans (Fr.setCell _ _ _ _ (show One tb tb from rfl)),(hb.ae (Fr.drewN Zero _ nq) (fun h=>h)).mark true,rfl⟩
theorem DY(hb:KB w tb db s l false nv wv)(hs:s.size<=maxLen)(m:Nat)(_hm:m<=256):
  Calls Tryz.prog 131 #[.pointer (some ⟨tb,0,none⟩),.int .i64 m] w fun e w'=>Fr (One tb) w w'/\KB w' tb db s (aK m l).2 (aK m l).1.isNone nv wv/\e=.returned (.int .i64 ((aK m l).1.getD 0:Nat)):=by
 have t:=hb.cE;have u:=hb.fM;have v:=hb.dw;have x:=hb.free 3;have y:=hb.free 2;have i:=ab hb;unfold maxLen at hs;have z:=hb.gj;rcases l with _|⟨b,r⟩
 ·have A:=hb.end;have B:((s.size:Nat):Int)<=((pos s []:Nat):Int):=by omega
  clear hb A;go_enter Tryz.func131,Tryz.ntmps131;go_wp2
  go_quiet (fail)
  go_wp2;go_ret;exact⟨(Fr.drewN _ _ nq).trans (Fr.setCell _ _ _ _ (show One tb tb from rfl)),(i.o.ae (Fr.drewN Zero _ nq) (fun h=>h)).mark true,rfl⟩
 ·obtain⟨F,p,q,a⟩:=hb.next;have a:=a F;have C:((pos s (b::r):Nat):Int)<((s.size:Nat):Int):=by omega
  have j:decide (s.size<=pos s (b::r))=false:=decide_eq_false (by omega);have D:=b.toNat_lt;clear hb
  by_cases d:b.toNat<m
  ·have f:decide (m<=(s[pos s (b::r)]).toNat)=false:=decide_eq_false (by rw[a];omega);have k:Hi (aK m (b::r)=(some b.toNat,r)):=ab (by simp[aK,d]);clear a;go_enter Tryz.func131,Tryz.ntmps131;go_wp2
   go_quiet (fail)
   go_wp2;have g:((pos s (b::r):Nat):Int)+1=((pos s r:Nat):Int):=by omega
   rw[g];have c:KB ((w.drewN nq).setCell ⟨tb,2,none⟩ (.int .i64 (pos s r))) tb db s r false nv wv:=(i.o.ae (Fr.drewN Zero _ nq) (fun h=>h)).move (by have:=i.o.len;simp at this;omega) q;have E:Hi (Fr (One tb) w ((w.drewN nq).setCell ⟨tb,2,none⟩ (.int .i64 (pos s r)))):=(Fr.drewN _ _ nq).trans (Fr.setCell _ _ _ _ (show One tb tb from rfl));generalize (w.drewN nq).setCell ⟨tb,2,none⟩ (.int .i64 (pos s r))=w2 at *;have G:=c.cE;have H:=c.fM;have n:=ab c;clear c t u v x y;have I:((pos s r:Nat):Int)-1=((pos s (b::r):Nat):Int):=by omega
   clear g p j f
   go_quiet (fail)
   go_wp2;go_ret;rw[k.o];exact⟨E.o.trans (Fr.drewN _ _ _),n.o.ae (Fr.drewN Zero _ _) (fun h=>h),rfl⟩
  ·have f:m<=(s[pos s (b::r)]).toNat:=by rw[a];omega
   have k:Hi (aK m (b::r)=(none,b::r)):=ab (by simp[aK,d]);clear a;go_enter Tryz.func131,Tryz.ntmps131;go_wp2
   go_quiet (fail)
   go_wp2;go_ret;rw[k.o];exact⟨(Fr.drewN _ _ nq).trans (Fr.setCell _ _ _ _ (show One tb tb from rfl)),(i.o.ae (Fr.drewN Zero _ nq) (fun h=>h)).mark true,rfl⟩
theorem Fr.tx(h:Fr (One tb) w w'):Fr (TX tb w) w w':=h.mono (fun _ _ e=>.inl e)
theorem s9{ar:List (Bs×Int)}{ways:List (Bs×Bs)}(h:KS w B tb db s l true ar ways)(most:Int):
  Calls Tryz.prog 131 #[.pointer (some ⟨tb,0,none⟩),.int .i64 most] w fun e w'=>gR tb w w'/\KS w' B tb db s l true ar ways/\e=.returned (.int .i64 0):=by
 obtain⟨i,j,a,b,c,d⟩:=h;refine(zk a most).mono ?_;rintro e w' ⟨f,kc,g⟩
 have:=KS.oL a b c d kc f.tx
 exact⟨this.2,this.1,g⟩
theorem gO{ar:List (Bs×Int)}{ways:List (Bs×Bs)}(h:KS w B tb db s l false ar ways)(hs:s.size<=maxLen)(m:Nat)(hm:m<=256):
  Calls Tryz.prog 131 #[.pointer (some ⟨tb,0,none⟩),.int .i64 m] w fun e w'=>gR tb w w'/\KS w' B tb db s (aK m l).2 (aK m l).1.isNone ar ways/\e=.returned (.int .i64 ((aK m l).1.getD 0:Nat)):=by
 obtain⟨i,j,a,b,c,d⟩:=h;refine(DY a hs m hm).mono ?_;rintro e w' ⟨f,kc,g⟩
 have:=KS.oL a b c d kc f.tx
 exact⟨this.2,this.1,g⟩
theorem hZ(p st:Bs)(w:World)(hl:p.length+st.length+1<=1000000):
  Calls Tryz.prog 135 #[.string (ba p),.string (ba st)] w fun e w'=>e=.returned (.string (ba (under p st)))/\w'=w:=by
 rcases p with _|⟨b,r⟩
 ·have c:(ba []).toList.isEmpty=true:=by rw[ByteArray.toList_eq,dk];rfl
  go_enter Tryz.func135,Tryz.ntmps135;go_wp2_with fail;go_ret;exact⟨rfl,rfl⟩
 ·have c:(ba (b::r)).toList.isEmpty=false:=by
   rw[ByteArray.toList_eq,dk];rfl
  have g:ba (b::r)++⟨#[47]⟩=ba (b::(r++[47])):=bD (b::r) [47];have h:ba (b::(r++[47]))++ba st=ba (b::(r++([47]++st))):=(bD (b::(r++[47])) st).trans (by simp);have d:=aI (b::r);have i:=aI st;have a:=aI (b::(r++[47]));simp only[List.length_append,List.length_cons,List.length_nil] at d a hl;have a:(ba (b::(r++[47]))).size=r.length+2:=a;have j:¬(9223372036854775807<r.length+1+1):=by omega
  have k:¬(9223372036854775807<r.length+2+st.length):=by omega
  have f:Hi (under (b::r) st=b::(r++([47]++st))):=ab (by simp[under]);go_enter Tryz.func135,Tryz.ntmps135;go_wp2_with fail;go_ret;rw[f.o];exact⟨rfl,rfl⟩
theorem jK(n:Int)(h1:-9223372036854775808<=n)(h2:n<=9223372036854775807)(w:World):
  Calls Tryz.prog 136 #[.int .i64 n] w fun e w'=>e=.returned (.string (ba (gq n)))/\Fr Zero w w':=by
 have f:Hi (r9 n.natAbs n.natAbs []):=⟨by omega,by simp⟩
 by_cases j:n<0
 ·have k:=Fi h1 j;go_enter Tryz.func136,Tryz.ntmps136;go_wp2_with fail
  go_loopw [3,4] (fun uv sv wr=>∃(m:Nat) (a:Bs),uv=.int .u64 m/\sv=.string (ba a)/\a.length<=20/\m<10^20/\Hi (r9 n.natAbs m a)/\Hi (Fr Zero w wr)) (fun uv _ _=>(intOf uv).toNat)
  case atStart=>exact⟨_,[],rfl,rfl,by simp,by omega,f,Fr.refl _ _⟩
  case round =>
   obtain⟨m,a,rfl,rfl,s,u,h,i⟩:=hrel;have t:=aI a
   by_cases l:9<m
   ·have c:=lF (48+m%10) (by omega) wr wr.heap.size (48+(m:Int)%10) (by omega) rfl;have b:=ab (h.o.more l);generalize UInt8.ofNat (48+m%10)=d at c b;have p:ba [d]++ba a=ba (d::a):=bD _ _;have q:(ba [d]).size=1:=aI _;have r:¬(9223372036854775807<1+a.length):=by omega
    go_wp2_with fail
    go_roundw
    case rel =>
     exact⟨m/10,d::a,by go_num,rfl,b.o.len,b.o.1,b,i.o.trans (Fr.alloc _ _ _)⟩
    case measure=>simp[intOf];omega
   ·have c:=lF (48+m) (by omega) wr wr.heap.size (48+(m:Int)) (by omega) rfl;have g:=ab (h.o.last (by omega));generalize UInt8.ofNat (48+m)=d at c g;have p:ba [d]++ba a=ba (d::a):=bD _ _;have v:⟨#[45]⟩++ba (d::a)=ba (45::d::a):=bD [45] _;have q:(ba [d]).size=1:=aI _;have x:(ba (d::a)).size=a.length+1:=aI _;have r:¬(9223372036854775807<1+a.length):=by omega
    have y:¬(9223372036854775807<1+(a.length+1)):=by omega
    go_wp2_with fail;go_ret;refine⟨?_,i.o.trans (Fr.alloc _ _ _)⟩;unfold gq;rw[if_pos j,g.o];rfl
 ·have k:=Fh j h2;go_enter Tryz.func136,Tryz.ntmps136;go_wp2_with fail
  go_loopw [3,4] (fun uv sv wr=>∃(m:Nat) (a:Bs),uv=.int .u64 m/\sv=.string (ba a)/\a.length<=20/\m<10^20/\Hi (r9 n.natAbs m a)/\Hi (Fr Zero w wr)) (fun uv _ _=>(intOf uv).toNat)
  case atStart=>exact⟨_,[],rfl,rfl,by simp,by omega,f,Fr.refl _ _⟩
  case round =>
   obtain⟨m,a,rfl,rfl,s,u,h,i⟩:=hrel;have t:=aI a
   by_cases l:9<m
   ·have c:=lF (48+m%10) (by omega) wr wr.heap.size (48+(m:Int)%10) (by omega) rfl;have b:=ab (h.o.more l);generalize UInt8.ofNat (48+m%10)=d at c b;have p:ba [d]++ba a=ba (d::a):=bD _ _;have q:(ba [d]).size=1:=aI _;have r:¬(9223372036854775807<1+a.length):=by omega
    go_wp2_with fail
    go_roundw
    case rel =>
     exact⟨m/10,d::a,by go_num,rfl,b.o.len,b.o.1,b,i.o.trans (Fr.alloc _ _ _)⟩
    case measure=>simp[intOf];omega
   ·have c:=lF (48+m) (by omega) wr wr.heap.size (48+(m:Int)) (by omega) rfl;have g:=ab (h.o.last (by omega));generalize UInt8.ofNat (48+m)=d at c g;have p:ba [d]++ba a=ba (d::a):=bD _ _;have q:(ba [d]).size=1:=aI _;have r:¬(9223372036854775807<1+a.length):=by omega
    go_wp2_with fail;go_ret;refine⟨?_,i.o.trans (Fr.alloc _ _ _)⟩;unfold gq;rw[if_neg (by omega),g.o];rfl
theorem KS.block{ar:List (Bs×Int)}{ways:List (Bs×Bs)}(h:KS w B tb db s l bad ar ways):∃ nv wv,KB w tb db s l bad nv wv:=by
 obtain⟨nv,wv,a,_⟩:=h;exact⟨nv,wv,a⟩
theorem mU{ar:List (Bs×Int)}{ways:List (Bs×Bs)}(h:KS w B tb db s l false ar ways)(hs:s.size<=maxLen):
  Calls Tryz.prog 134 #[.pointer (some ⟨tb,0,none⟩)] w fun e w'=>kW tb B db s ar ways w (bj l) e w':=by
 go_enter Tryz.func134,Tryz.ntmps134;go_wp2_with fail;refine(gO h hs 256 (by omega)).mono ?_;rintro e y ⟨(j:Hi _),a,rfl⟩;rcases l with _|⟨b,l⟩
 ·have kV:=a.block;obtain⟨H,I,g⟩:=kV;have z:(((aK 256 []).1.getD 0:Nat):Int)=0:=rfl;rw[z];go_wp2_with fail;go_ret;exact⟨j,a,0,rfl,by omega,fun x hx=>by simp[bj] at hx⟩
 ·have K:=b.toNat_lt;have A:aK 256 (b::l)=(some b.toNat,l):=by simp only[aK];rw[if_pos (by omega)]
  rw[A] at a;rw[A];simp only[Option.getD_some,Option.isNone_some] at a ⊢;obtain⟨H,I,g⟩:=a.block;have L:=g.cE;have M:=g.fM;have N:=g.dw;have O:=g.free 3;have P:=g.gj;unfold maxLen at hs
  by_cases E:b.toNat<128
  ·have k:Hi (bj (b::l)=(some b.toNat,l)):=ab (by simp only[bj];rw[if_pos (by omega)]);go_wp2_with fail;go_ret;rw[show kW tb B db s ar ways w (bj (b::l))=kW tb B db s ar ways w (some b.toNat,l) by rw[k.o]];exact⟨j,a,b.toNat,rfl,by omega,fun x hx=>by simpa using hx⟩
  ·have W:decide (((b.toNat:Nat):Int)<128)=false:=decide_eq_false (by omega);rcases l with _|⟨c,r⟩
   ·have X:=g.end;have k:Hi (bj [b]=(none,[])):=ab (by simp only[bj];rw[if_neg (by omega)]);go_wp2_with fail
    go_quiet (fail)
    go_wp2_with fail;refine(gO (a.quiet (Fr.drewN _ _ _)) (by unfold maxLen;omega) 256 (by omega)).mono ?_;rintro e S ⟨ao,d,rfl⟩;have n:=ab ((j.o.trans (gR.quiet (Fr.drewN _ _ _) g.lt)).trans ao);have z:(((aK 256 []).1.getD 0:Nat):Int)=0:=rfl;rw[z];go_wp2_with fail;go_ret;rw[show kW tb B db s ar ways w (bj [b])=kW tb B db s ar ways w (none,[]) by rw[k.o]];exact⟨n,d,b.toNat-128,(by have:((b.toNat-128:Nat):Int)=(b.toNat:Int)-128:=(by omega);rw[this];rfl),by omega,fun x hx=>by simp at hx⟩
   ·obtain⟨T,U,V,t⟩:=g.next;have t:=t T;have Q:=c.toNat_lt;have R:((pos s (c::r):Nat):Int)<((s.size:Nat):Int):=by omega
    by_cases f:c.toNat=0\/300<b.toNat-128+128*c.toNat
    ·have k:Hi (bj (b::c::r)=(none,c::r)):=ab (by simp only[bj];rw[if_neg (by omega),if_pos f])
     have u:∀ nq:Nat,kW tb B db s ar ways w (none,c::r) (.returned (.int .i64 0)) ((y.drewN nq).setCell ⟨tb,3,none⟩ (.bool true)):=fun n1=>by
      have C:KB ((y.drewN n1).setCell ⟨tb,3,none⟩ (.bool true)) tb db s (c::r) true H I:=(g.ae (Fr.drewN Zero _ n1) (fun h=>h)).mark true;have F:Fr (One tb) y ((y.drewN n1).setCell ⟨tb,3,none⟩ (.bool true)):=(Fr.drewN _ _ n1).trans (Fr.setCell _ _ _ _ (show One tb tb from rfl));exact⟨j.o.trans (gR.cells g C F),a.cells (fun _ _ hk=>(hk.ae (Fr.drewN Zero _ n1) (fun h=>h)).mark true) F,0,rfl,by omega,fun x hx=>by simp at hx⟩
     by_cases G:c.toNat=0
     ·have qU:(((c.toNat:Nat):Int)==0)=true:=beq_iff_eq.2 (by omega);go_wp2_with fail
      go_quiet (fail)
      go_wp2_with fail
      go_quiet (fail)
      go_wp2_with fail;go_ret;rw[show kW tb B db s ar ways w (bj (b::c::r))=kW tb B db s ar ways w (none,c::r) by rw[k.o]];exact u _
     ·have qU:(((c.toNat:Nat):Int)==0)=false:=beq_eq_false_iff_ne.2 (by omega);have D:300<((b.toNat:Nat):Int)-128+128*((c.toNat:Nat):Int):=by omega
      go_wp2_with fail
      go_quiet (fail)
      go_wp2_with fail
      go_quiet (fail)
      go_wp2_with fail;go_ret;rw[show kW tb B db s ar ways w (bj (b::c::r))=kW tb B db s ar ways w (none,c::r) by rw[k.o]];exact u _
    ·have k:Hi (bj (b::c::r)=(some (b.toNat-128+128*c.toNat),r)):=ab (by simp only[bj];rw[if_neg (by omega),if_neg f]);have qU:(((c.toNat:Nat):Int)==0)=false:=beq_eq_false_iff_ne.2 (by omega);have D:decide (300<((b.toNat:Nat):Int)-128+128*((c.toNat:Nat):Int))=false:=decide_eq_false (by omega);go_wp2_with fail
     go_quiet (fail)
     go_wp2_with fail
     go_quiet (fail)
     go_wp2_with fail;refine(gO (a.quiet (Fr.drewN _ _ _)) (by unfold maxLen;omega) 256 (by omega)).mono ?_;rintro e S ⟨ao,d,rfl⟩;have n:=ab ((j.o.trans (gR.quiet (Fr.drewN _ _ _) g.lt)).trans ao);have q:aK 256 (c::r)=(some c.toNat,r):=by simp only[aK];rw[if_pos (by omega)]
     rw[q] at d;rw[q];simp only[Option.getD_some,Option.isNone_some] at d ⊢;go_wp2_with fail;go_ret;rw[show kW tb B db s ar ways w (bj (b::c::r))=kW tb B db s ar ways w (some (b.toNat-128+128*c.toNat),r) by rw[k.o]];refine⟨n,d,b.toNat-128+128*c.toNat,?_,by omega,fun x hx=>by simpa using hx⟩
     have:((b.toNat-128+128*c.toNat:Nat):Int)=(b.toNat:Int)-128+128*(c.toNat:Int):=by omega
     rw[this];rfl
theorem Is.isRow(h:Is tab x t)(hk:(rowAt tab x).kind≠11):ER tab (rowAt tab x) t:=by
 cases h with
 | name _ h _ _ _=>exact absurd h hk
 | row _ h1 h2 h3 h4 h6 h5=>exact⟨h2,h1,h3,h4,h6,h5⟩
theorem Is.down(h:Is tab x t)(hk:(rowAt tab x).kind=11):∃ y,(rowAt tab x).of=[y]/\y<x/\Is tab y t:=by
 cases h with
 | name _ _ h1 h2 h3=>exact⟨_,h1,h2,h3⟩
 | row _ h _ _ _ _ _=>exact absurd hk h
theorem SL.shape{X:Nat->Prop}{e:TypeId}{xs:List Value}(h:SL w X e v xs):∃ p c,v=.slice p xs.length c:=by
 rcases h.1.2 with⟨rfl,a⟩|⟨g,au,b,rfl,_⟩
 ·exact⟨none,0,by rw[a]⟩
 ·exact⟨_,_,rfl⟩
theorem fw{fn:Func}{p:Tmp}{t1:TypeId}(h:fn.results=#[.cell p t1])(tmps:Array Value)(P:Program)(w:World):
  (results fn tmps).run P w=((asAddr (tmps.getD p undef)).run P w).andThen fun a w₁=>(loadVar t1 a).run P w₁:=by
 simp only[results,h];simp[Sem.run_bind,Result.andThen]
theorem fG(hD:DF w B db tab roots)(x:Nat)(t:PT)(hI:Is tab x t)(_hB:B<=w.heap.size)(_h63:tab.length<=1000000):
  Calls Tryz.prog 87 #[.pointer (some ⟨db,0,none⟩),.int .i64 x] w fun e w'=>Fr Zero w w'/\∃(row:RT) (o nv a:Value),e=.returned (.agg #[.int .i64 row.kind,o,nv,a])/\ER tab row t/\qW w (bk B) ⟨row.kind,o,nv,a⟩ row:=by
 have J:=hI.lt;obtain⟨g,au,o,nv,a,C,D,Q,R,S,E⟩:=hD.row J;have K:(x:Int)<(tab.length:Int):=by omega
 have ac:db<w.heap.size:=World.block_lt_of_cell? w _ C;have ad:g<w.heap.size:=World.block_lt_of_cell? w _ D;obtain⟨f,i,rfl⟩:=E.2.1.shape;obtain⟨n,p,rfl⟩:=E.2.2.1.shape;obtain⟨q,r,rfl⟩:=E.2.2.2.shape;go_enter Tryz.func87,Tryz.ntmps87;go_wp2_with fail
 go_loopg [] x (fun k wr=>Hi (Is tab k t)/\Hi (Fr Zero w wr)/\∃(f n q:Option Addr) (i p r:Nat),Hi (qW w (bk B) ⟨(rowAt tab k).kind,.slice f (ints (rowAt tab k).of).length i,.slice n (texts (rowAt tab k).names).length p,.slice q (ints (rowAt tab k).ats).length r⟩ (rowAt tab k)) /\
  Hi (wr.heap[w.heap.size+1]?=some (.cells #[.int .i64 (rowAt tab k).kind,.slice f (ints (rowAt tab k).of).length i,.slice n (texts (rowAt tab k).names).length p,.slice q (ints (rowAt tab k).ats).length r] 183 (0,0))) /\
  Hi (wr.heap[w.heap.size]?=some (.cells #[.int .i64 0,.slice none 0 0,.slice none 0 0,.slice none 0 0] 183 (0,0))))
 case atStart =>
  refine⟨hI,(Fr.alloc _ _ _).trans (Fr.alloc _ _ _),f,n,q,i,p,r,E,?_,?_⟩
  ·exact af (by simp) _
  ·show _=_;rw[Below.heap_alloc _ _ _ (by simp)];exact af rfl _
 case round =>
  obtain⟨F,G,f,n,q,i,p,r,H,s,u⟩:=hrel;have t0:wr.cell? ⟨w.heap.size+1,0,none⟩=_:=cell_of_heap s.o;have L:wr.cell? ⟨w.heap.size+1,1,none⟩=_:=cell_of_heap s.o;have t2:wr.cell? ⟨w.heap.size+1,2,none⟩=_:=cell_of_heap s.o;have t3:wr.cell? ⟨w.heap.size+1,3,none⟩=_:=cell_of_heap s.o;have tf:∀ o,wr.frozen? ⟨w.heap.size+1,o,none⟩=false:=fun o=>ak s.o
  have z0:wr.cell? ⟨w.heap.size,0,none⟩=_:=cell_of_heap u.o;have z1:wr.cell? ⟨w.heap.size,1,none⟩=_:=cell_of_heap u.o;have z2:wr.cell? ⟨w.heap.size,2,none⟩=_:=cell_of_heap u.o;have z3:wr.cell? ⟨w.heap.size,3,none⟩=_:=cell_of_heap u.o;have zf:∀ o,wr.frozen? ⟨w.heap.size,o,none⟩=false:=fun o=>ak u.o
  by_cases d:(rowAt tab gk).kind=11
  ·have hb:(((rowAt tab gk).kind:Int)==11)=true:=beq_iff_eq.2 (by omega);obtain⟨y,j,hy,l⟩:=F.o.down d;have N:=l.lt;have ae:(y:Int)<(tab.length:Int):=by omega
   obtain⟨g',aa,o',ag,a',C,D,Q,R,S,c⟩:=hD.row N;have z:db<w.heap.size:=World.block_lt_of_cell? w _ C;have A:g'<w.heap.size:=World.block_lt_of_cell? w _ D;rw[<-G.o.cell z (fun h=>h)] at C;rw[<-G.o.cell A (fun h=>h)] at D Q R S;obtain⟨T,U,rfl⟩:=c.2.1.shape;obtain⟨V,W,rfl⟩:=c.2.2.1.shape;obtain⟨X,Y,rfl⟩:=c.2.2.2.shape;have I:=H.o.2.1;rw[j] at I;rw[j] at L
   obtain⟨m,rfl,co⟩:∃ m,f=some ⟨m,0,none⟩/\wr.cell? ⟨m,0,none⟩=some (.int .i64 y):=by
    rcases I.1.2 with⟨_,h0⟩|⟨m,cp,ah,hv,_⟩
    ·simp[ints] at h0
    ·simp only[Value.slice.injEq] at hv;obtain⟨rfl,_,rfl⟩:=hv;have Z:w.cell? ⟨m,0,none⟩=some (.int .i64 y):=(fK (k:=0) I.1 (by simp[ints])).trans rfl;exact⟨m,rfl,by rw[G.o.cell (World.block_lt_of_cell? w _ Z) (fun h=>h)];exact Z⟩
   replace L:wr.cell? ⟨w.heap.size+1,1,none⟩=some (.slice (some ⟨m,0,none⟩) 1 i):=L;go_wp2_with fail
   go_region
   go_wp2_with fail
   go_roundg y
   case measure=>exact hy
   case rel =>
    refine⟨l,?_,T,V,X,U,W,Y,c,?_,?_⟩
    ·exact(G.o.past (Fr.four (fun b=>w.heap.size<=b) wr (w.heap.size+1) _ _ _ _ (Nat.le_succ _))).trans (Fr.drew _ _)
    ·exact eL s.o _ _ _ _
    ·exact(cN (by omega) _ _ _ _).trans u.o
  ·have hb:(((rowAt tab gk).kind:Int)==11)=false:=beq_eq_false_iff_ne.2 (by omega);have P:=ab (F.o.isRow d);generalize rowAt tab gk=row at *;go_wp2_with fail;refine bodyPost_ret (v:=.agg #[.int .i64 row.kind,.slice f (ints row.of).length i,.slice n (texts row.names).length p,.slice q (ints row.ats).length r]) ?_ rfl ⟨?_,row,_,_,_,rfl,P,H⟩
   ·rw[fw rfl]
    go_simp
   ·exact G.o.past (Fr.four (fun b=>w.heap.size<=b) wr w.heap.size _ _ _ _ (Nat.le_refl _))
theorem oy{b1 b2 n1 n2 k1 k2:Nat}{e1 e2:TypeId}{v1 v2:Value}{x1 x2:List Value}(h1:w.ownsRow b1 e1 k1 v1 n1 x1)(h2:w.ownsRow b2 e2 k2 v2 n2 x2)(cF:e1≠e2){g:Nat}(hg:v1.ownBlock=some g):v2.ownBlock≠some g:=fun hg2=>by
 obtain⟨c1,q1⟩:=bH h1 hg;obtain⟨c2,q2⟩:=bH h2 hg2;rw[q1] at q2;simp at q2;exact cF q2.2
theorem KS.Au{W:World}{ar:List (Bs×Int)}{ways:List (Bs×Bs)}{v':Value}(p:Bs×Int)(hb:KB W tb db s l bad nv wv)(hB:B<=tb)
  (hn:W.ownsRow B 273 2 nv ar.length (gz ar)) (hw:W.ownsRow B 104 2 wv ways.length (cj ways))
  (ho:w'.ownsRow B 273 2 v' (ar.length+1) (gz (ar++[p]))) (hg:W.grownBy w' nv.ownBlock) (hv:∃ g au,v'=.slice (some ⟨g,0,none⟩) (ar.length+1) au/\(nv.ownBlock=some g\/W.heap.size<=g)) :
  KS (w'.setCell ⟨tb,4,none⟩ v') B tb db s l bad (ar++[p]) ways/\gR tb W (w'.setCell ⟨tb,4,none⟩ v'):=by
 have cF:∀ k,nv.ownBlock=some k->k≠tb:=fun k e e2=>gI hn hb.block (by decide) (e2 ▸ e)
 have a:Fr (fun k=>nv.ownBlock=some k) W w':=Fr.grown hg (fun k e _=>e);have kc:KB w' tb db s l bad nv wv:=hb.ae a (fun e=>cF tb e rfl);have c:w'.ownsRow B 104 2 wv _ _:=ag hw a (fun g hg e=>oy hn hw (by decide) e hg);have b:Fr (One tb) w' (w'.setCell ⟨tb,4,none⟩ v'):=Fr.setCell _ _ _ _ rfl;have d:=kc.I3 v';have i:=ag ho b (fun g hg e=>gI ho kc.block (by decide) (by rw[hg];exact congrArg some e));have j:=ag c b (fun g hg e=>gI c kc.block (by decide) (by rw[hg];exact congrArg some e));have f:∀ k,nv.ownBlock=some k->KX W tb k:=fun k e=>.inr (.inl ⟨nv,hb.gS,e⟩)
 obtain⟨g,au,rfl,m⟩:=hv;refine⟨⟨_,_,d,hB,by simpa using i,j⟩,⟨(a.mono (fun k _ e=>f k e)).trans (b.mono (fun k _ e=>.inl e)),fun k hk e=>?_⟩⟩;rcases KX.of d e with e|e|e
 ·exact .inl e
 ·simp[Value.ownBlock] at e;subst e;rcases m with h|h
  ·exact f _ h
  ·omega
 ·exact .inr (.inr ⟨wv,hb.n9,e⟩)
theorem KS.At{W:World}{ar:List (Bs×Int)}{ways:List (Bs×Bs)}{v':Value}(p:Bs×Bs)(hb:KB W tb db s l bad nv wv)(hB:B<=tb)
  (hn:W.ownsRow B 273 2 nv ar.length (gz ar)) (hw:W.ownsRow B 104 2 wv ways.length (cj ways))
  (ho:w'.ownsRow B 104 2 v' (ways.length+1) (cj (ways++[p]))) (hg:W.grownBy w' wv.ownBlock) (hv:∃ g au,v'=.slice (some ⟨g,0,none⟩) (ways.length+1) au/\(wv.ownBlock=some g\/W.heap.size<=g)) :
  KS (w'.setCell ⟨tb,5,none⟩ v') B tb db s l bad ar (ways++[p])/\gR tb W (w'.setCell ⟨tb,5,none⟩ v'):=by
 have cF:∀ k,wv.ownBlock=some k->k≠tb:=fun k e e2=>gI hw hb.block (by decide) (e2 ▸ e)
 have a:Fr (fun k=>wv.ownBlock=some k) W w':=Fr.grown hg (fun k e _=>e);have kc:KB w' tb db s l bad nv wv:=hb.ae a (fun e=>cF tb e rfl);have c:w'.ownsRow B 273 2 nv _ _:=ag hn a (fun g hg e=>oy hw hn (by decide) e hg);have b:Fr (One tb) w' (w'.setCell ⟨tb,5,none⟩ v'):=Fr.setCell _ _ _ _ rfl;have d:=kc.ways v';have i:=ag ho b (fun g hg e=>gI ho kc.block (by decide) (by rw[hg];exact congrArg some e));have j:=ag c b (fun g hg e=>gI c kc.block (by decide) (by rw[hg];exact congrArg some e));have f:∀ k,wv.ownBlock=some k->KX W tb k:=fun k e=>.inr (.inr ⟨wv,hb.n9,e⟩)
 obtain⟨g,au,rfl,m⟩:=hv;refine⟨⟨_,_,d,hB,j,by simpa using i⟩,⟨(a.mono (fun k _ e=>f k e)).trans (b.mono (fun k _ e=>.inl e)),fun k hk e=>?_⟩⟩;rcases KX.of d e with e|e|e
 ·exact .inl e
 ·exact .inr (.inl ⟨nv,hb.gS,e⟩)
 ·simp[Value.ownBlock] at e;subst e;rcases m with h|h
  ·exact f _ h
  ·omega
theorem rowOf{a:Value}{row:RT}(hR:qW w (bk B) ⟨k,o,nv,a⟩ row)(hi:0<row.of.length):
  ∃ g au,o=.slice (some ⟨g,0,none⟩) row.of.length au/\g<B/\∀ i,i<row.of.length->w.cell? ⟨g,i,none⟩=some (.int .i64 (aj row.of i:Nat)):=by
 have b:=hR.2.1;simp only at b;rcases b.1.2 with⟨_,f⟩|⟨g,au,l,j,_⟩
 ·simp[ints] at f;rw[f] at hi;simp at hi
 ·have d:(ints row.of).length=row.of.length:=by simp[ints]
  rw[d] at j;subst j;have c:=b.2 g rfl;unfold bk at c;refine⟨g,au,rfl,by omega,fun i h=>?_⟩;have e:=b.1;rw[d] at e;exact(fK e h).trans (j6 _ i h)
structure T9(w:World)(B rb:Nat)(row:RT)(kd go co:Nat)(nv av:Value):Prop where
 blk:w.heap[rb]?=some (.cells #[.int .i64 kd,.slice (some ⟨go,0,none⟩) row.of.length co,nv,av] 183 (0,0))
 of:∀ i,i<row.of.length->w.cell? ⟨go,i,none⟩=some (.int .i64 (aj row.of i:Nat))
 lt:go<B
theorem T9.quiet{row:RT}(h:T9 w B rb row kd go co nv av)(hf:Fr Zero w w'):T9 w' B rb row kd go co nv av :=
 ⟨hf.ae h.blk (fun h=>h),fun i hi=>by rw[hf.cell (World.block_lt_of_cell? w _ (h.of i hi)) (fun h=>h)];exact h.of i hi,h.lt⟩
theorem T9.cE{row:RT}(h:T9 w B rb row kd go co nv av):w.cell? ⟨rb,1,none⟩=some (.slice (some ⟨go,0,none⟩) row.of.length co):=by rw[cell_of_heap h.blk];rfl
theorem T9.lg{n:Nat}{row:RT}(h:T9 w B rb row kd go co nv av)(hn:row.of.length=n):w.cell? ⟨rb,1,none⟩=some (.slice (some ⟨go,0,none⟩) n co):=by rw[<-hn];exact h.cE
theorem T9.fM{row:RT}(h:T9 w B rb row kd go co nv av):w.cell? ⟨rb,2,none⟩=some nv:=by rw[cell_of_heap h.blk];rfl
theorem T9.new{row:RT}(hR:qW w (bk B) ⟨kd,o,nv,av⟩ row)(hi:0<row.of.length):
  ∃ go co,o=.slice (some ⟨go,0,none⟩) row.of.length co/\T9 (w.alloc (.cells #[.int .i64 kd,o,nv,av] 183)) B w.heap.size row kd go co nv av:=by
 obtain⟨g,au,rfl,b,a⟩:=rowOf hR hi;refine⟨g,au,rfl,af rfl _,fun i h=>?_,b⟩;rw[(Fr.alloc Zero w _).cell (World.block_lt_of_cell? w _ (a i h)) (fun h=>h)];exact a i h
structure N9(w:World)(B gn:Nat)(t:PT):Prop where
 nm:∀ i,i<t.names.length->w.cell? ⟨gn,i,none⟩=some (.string (ba (t.name i)))
 lt:gn<B
theorem N9.quiet{gn:Nat}(h:N9 w B gn t)(hf:Fr Zero w w'):N9 w' B gn t :=
 ⟨fun i hi=>by rw[hf.cell (World.block_lt_of_cell? w _ (h.nm i hi)) (fun h=>h)];exact h.nm i hi,h.lt⟩
theorem N9.new{a:Value}{row:RT}(hR:qW w (bk B) ⟨k,o,nv,a⟩ row)(hn:row.names=t.names)(hi:0<t.names.length):
  ∃ gn cn,nv=.slice (some ⟨gn,0,none⟩) t.names.length cn/\N9 w B gn t:=by
 have b:=hR.2.2.1;simp only at b;rw[hn] at b;rcases b.1.2 with⟨_,f⟩|⟨g,au,l,j,_⟩
 ·simp[texts] at f;rw[f] at hi;simp at hi
 ·have d:(texts t.names).length=t.names.length:=by simp[texts]
  rw[d] at j;subst j;have c:=b.2 g rfl;unfold bk at c;refine⟨g,au,rfl,fun i h=>?_,by omega⟩;have e:=b.1;rw[d] at e;rw[(fK e h).trans (tR _ i h)]
  congr 2
theorem vR(hD:DF w B db tab roots)(hp:0<roots.length)(hl:roots.length<=1000):
  Calls Tryz.prog 68 #[.pointer (some ⟨db,0,none⟩)] w fun e w'=>e=.returned (.int .i64 (aj roots (roots.length-1):Nat))/\∃ n,w'=w.drewN n:=by
 obtain⟨g,au,f,c⟩:=hD.root hp;have a:=c (roots.length-1) (by omega);obtain⟨m,d⟩:∃ m,roots.length=m+1:=⟨roots.length-1,by omega⟩;rw[d] at f a ⊢;simp only[Nat.add_sub_cancel] at a ⊢;have h:(m:Int)<((m+1:Nat):Int):=by omega
 have b:((m+1:Nat):Int)-1=(m:Int):=by omega
 have rV:m+1<=1000:=by omega
 go_enter Tryz.func68,Tryz.ntmps68;go_wp2_with fail
 go_quiet (fail)
 go_wp2_with fail;go_ret;exact⟨rfl,_,rfl⟩
theorem tA(data:ByteArray):tl data (pos data data.data.toList)=data.data.toList/\pos data data.data.toList=0:=by
 have h:pos data data.data.toList=0:=by unfold pos;rw[Array.length_toList];exact Nat.sub_self _
 rw[h];exact⟨rfl,rfl⟩
theorem tH(s:ByteArray):(s.size<=400->ET (eT s))/\aL s=ee s:=agree.all s
theorem uP(h:aL s=(0,0)):s.size<=400:=by
 unfold aL at h;rcases Nat.lt_or_ge 400 s.size with a|a
 ·rw[if_pos a] at h;simp at h
 ·exact a
end Go.Proofs.YtpffifpbpmlhdaaGreatDoor
