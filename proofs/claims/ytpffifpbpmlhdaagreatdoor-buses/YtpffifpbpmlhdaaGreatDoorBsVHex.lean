import Derived.Deep.RegionHeld3
import Derived.Lib.UnsafeStr
import Derived.Laws.IdiomStrings
import Derived.Laws.BytesArg
import Derived.Test.YtpffifpbpmlhdaaGreatDoorBsParse
set_option maxHeartbeats 32000000
set_option maxRecDepth 100000
namespace Go.Proofs.YtpffifpbpmlhdaaGreatDoor
open Go.RowKit
variable {s:ByteArray}{n B rb:Nat}{X Y:Nat->Prop}{b:UInt8}{r l acc:Bs}{w w' w1:World}{p:PV}{vs:List PV}{sv:Value}
def ba(l:Bs):ByteArray:=⟨l.toArray⟩
def tl(s:ByteArray)(n:Nat):Bs:=s.data.toList.drop n
theorem dk(l:Bs):(ba l).data.toList=l:=by simp[ba]
theorem eC(s:ByteArray):ba s.data.toList=s:=by apply ef;simp[ba]
theorem aI(l:Bs):(ba l).size=l.length:=by show l.toArray.size=_;simp
theorem sq(s:ByteArray)(n:Nat):(tl s n).length=s.size-n:=by unfold tl;rw[List.length_drop,Array.length_toList];rfl
theorem tQ(h:n<s.size):tl s n=s[n]::tl s (n+1):=by
 unfold tl;rw[List.drop_eq_getElem_cons (by rw[Array.length_toList];exact h)];rfl
theorem Fl(s:ByteArray)(n k:Nat):(tl s n).drop k=tl s (n+k):=by simp[tl,List.drop_drop]
theorem pL{f:Nat}{got:Bs}(hf:f<=n)(h:tl s f=got++tl s n)(hn:n<=s.size):s.extract f n=ba got:=by
 apply ef;rw[dk];have a:=congrArg List.length h;rw[List.length_append,sq,sq] at a
 have b:(tl s f).take (n-f)=got:=by
  rw[h,List.take_append_of_le_length (by omega),List.take_of_length_le (by omega)]
 rw[<-b];simp only[ByteArray.data_extract,Array.toList_extract,List.extract_eq_take_drop];rfl
def pos(s:ByteArray)(l:Bs):Nat:=s.size-l.length
structure RB(ty:TypeId)(w:World)(rb:Nat)(s:ByteArray)(l:Bs):Prop where
 len:l.length<=s.size
 tail:tl s (pos s l)=l
 block:w.heap[rb]?=some (.cells #[.int .i64 (pos s l),.string s] ty (0,0))
section
variable {ty:TypeId} {w w':World} {rb:Nat} {s:ByteArray} {l:Bs}
theorem RB.dM(h:RB ty w rb s l):w.cell? ⟨rb,0,none⟩=some (.int .i64 (pos s l)):=by rw[cell_of_heap h.block];rfl
theorem RB.cE(h:RB ty w rb s l):w.cell? ⟨rb,1,none⟩=some (.string s):=by rw[cell_of_heap h.block];rfl
theorem RB.free(h:RB ty w rb s l)(o:Nat):w.frozen? ⟨rb,o,none⟩=false:=ak h.block
theorem RB.ae(h:RB ty w rb s l)(hf:Fr X w w')(hx:¬X rb):RB ty w' rb s l:=⟨h.len,h.tail,hf.ae h.block hx⟩
theorem RB.drewN(h:RB ty w rb s l)(k:Nat):RB ty (w.drewN k) rb s l:=⟨h.len,h.tail,h.block⟩
def ue(rb:Nat)(w:World):Nat:=match w.cell? ⟨rb,0,none⟩ with|some (.int _ n)=>n.toNat|_=>0
theorem RB.place(h:RB ty w rb s l):ue rb w=pos s l:=by unfold ue;rw[h.dM];simp
theorem RB.lt(h:RB ty w rb s l):rb<w.heap.size:=lt_of_heap h.block
theorem RB.gj(_h:RB ty w rb s l):pos s l<=s.size:=Nat.sub_le _ _
theorem RB.next(h:RB ty w rb s (b::r)):pos s (b::r)<s.size/\pos s r=pos s (b::r)+1/\tl s (pos s r)=r/\(∀ hn:pos s (b::r)<s.size,s[pos s (b::r)]=b):=by
 have e:=h.len;have c:=h.tail;simp only[List.length_cons] at e;have d:pos s (b::r)<s.size:=by simp only[pos,List.length_cons];omega
 have a:pos s r=pos s (b::r)+1:=by simp only[pos,List.length_cons];omega
 rw[tQ d] at c;simp only[List.cons.injEq] at c;exact⟨d,a,by rw[a];exact c.2,fun _=>c.1⟩
theorem RB.end(h:RB ty w rb s []):pos s []=s.size:=by have:=h.len;simp[pos]
theorem RB.move(h:RB ty w rb s l)(hl:r.length<=s.size)(ht:tl s (pos s r)=r):RB ty (w.setCell ⟨rb,0,none⟩ (.int .i64 (pos s r))) rb s r:=by
 refine⟨hl,ht,?_⟩;rw[heap_setCell_same h.block];rfl
theorem RB.skip{a:Bs}(h:RB ty w rb s (a++r)):r.length<=s.size/\tl s (pos s r)=r/\pos s r=pos s (a++r)+a.length:=by
 have c:=h.len;have d:=h.tail;rw[List.length_append] at c;have b:pos s r=pos s (a++r)+a.length:=by simp only[pos,List.length_append];omega
 refine⟨by omega,?_,b⟩;rw[b,<-Fl,d,List.drop_left]
theorem bK(h:RB ty w rb s l)(hs:s.size<=maxLen)(c:Nat)(hc:bz c l=some r):
  Calls Tryz.prog 153 #[.pointer (some ⟨rb,0,none⟩),.int .u8 c] w fun e w'=>e=.returned (.bool true)/\RB ty w' rb s r/\Fr (One rb) w w':=by
 obtain⟨b,rfl,d⟩:=bp hc;obtain⟨a,f,g,i⟩:=h.next;refine(qP rb _ s c w hs h.dM (h.free 0) h.cE a (by rw[i a,d])).mono ?_;rintro e w' ⟨rfl,k,rfl⟩;refine⟨rfl,?_,(Fr.drewN _ _ k).trans (Fr.setCell _ _ _ _ rfl)⟩;rw[<-f];exact(h.drewN k).move (by have:=h.len;simp at this;omega) g
theorem ck(h:RB ty w rb s l)(hs:s.size<=maxLen)(c:Nat)(hc:bz c l=none):
  Calls Tryz.prog 153 #[.pointer (some ⟨rb,0,none⟩),.int .u8 c] w fun e w'=>e=.returned (.bool false)/\RB ty w' rb s l/\Fr (One rb) w w':=by
 refine(tI rb _ s c w hs h.dM h.cE h.gj (fun hn=>?_)).mono ?_
 ·cases l with
  | nil=>rw[h.end] at hn;omega
  | cons b r =>
   obtain⟨d,f,g,a⟩:=h.next;rw[a hn];intro e;rw[dW (by omega)] at hc;cases hc
 ·rintro e w' ⟨rfl,k,rfl⟩;exact⟨rfl,h.drewN k,Fr.drewN _ _ _⟩
theorem nd(h:RB ty w rb s (b::r))(hs:s.size<=maxLen)(lo hi:Int)(h1:lo<=b.toNat)(h2:(b.toNat:Int)<=hi):
  Calls Tryz.prog 173 #[.pointer (some ⟨rb,0,none⟩),.int .u8 lo,.int .u8 hi] w fun e w'=>e=.returned (.tuple #[.int .u8 b.toNat,.bool true])/\RB ty w' rb s r/\Fr (One rb) w w':=by
 obtain⟨a,d,f,c⟩:=h.next;refine(kR rb _ s lo hi w hs h.dM (h.free 0) h.cE a (by rw[c a];exact h1) (by rw[c a];exact h2)).mono ?_;rintro e w' ⟨rfl,k,rfl⟩;refine⟨by rw[c a],?_,(Fr.drewN _ _ k).trans (Fr.setCell _ _ _ _ rfl)⟩;rw[<-d];exact(h.drewN k).move (by have:=h.len;simp at this;omega) f
theorem om(h:RB ty w rb s l)(hs:s.size<=maxLen)(lo hi:Int)(hc:∀ b r,l=b::r->(b.toNat:Int)<lo\/hi<(b.toNat:Int)):
  Calls Tryz.prog 173 #[.pointer (some ⟨rb,0,none⟩),.int .u8 lo,.int .u8 hi] w fun e w'=>e=.returned (.tuple #[.int .u8 0,.bool false])/\RB ty w' rb s l/\Fr (One rb) w w':=by
 refine(lK rb _ s lo hi w hs h.dM h.cE h.gj (fun hn=>?_)).mono ?_
 ·cases l with
  | nil=>rw[h.end] at hn;omega
  | cons b r =>
   obtain⟨c,d,f,a⟩:=h.next;rw[a hn];exact hc b r rfl
 ·rintro e w' ⟨rfl,k,rfl⟩;exact⟨rfl,h.drewN k,Fr.drewN _ _ _⟩
theorem lj(h:RB ty w rb s [])(hs:s.size<=maxLen):
  Calls Tryz.prog 164 #[.pointer (some ⟨rb,0,none⟩)] w fun e w'=>e=.returned (.tuple #[.int .u8 0,.bool false])/\RB ty w' rb s []/\Fr (One rb) w w':=by
 refine(zX rb _ s w hs h.dM h.cE h.end).mono ?_;rintro e w' ⟨rfl,k,rfl⟩;exact⟨rfl,h.drewN k,Fr.drewN _ _ _⟩
theorem fX(h:RB ty w rb s (b::r))(hs:s.size<=maxLen):
  Calls Tryz.prog 164 #[.pointer (some ⟨rb,0,none⟩)] w fun e w'=>e=.returned (.tuple #[.int .u8 b.toNat,.bool true])/\RB ty w' rb s (b::r)/\Fr (One rb) w w':=by
 obtain⟨a,d,f,c⟩:=h.next;refine(nC rb _ s w hs h.dM h.cE a).mono ?_;rintro e w' ⟨rfl,k,rfl⟩;exact⟨by rw[c a],h.drewN k,Fr.drewN _ _ _⟩
theorem AL(h:RB ty w rb s l):
  Calls Tryz.prog 84 #[.pointer (some ⟨rb,0,none⟩)] w fun e w'=>e=.returned (.int .i64 (pos s l))/\w'=w:=gw rb _ w h.dM
theorem pK{a:Bs}(h:RB ty w rb s (a++r))(hs:s.size<=maxLen)(k:Int)(hk:k=a.length):
  Calls Tryz.prog 168 #[.pointer (some ⟨rb,0,none⟩),.int .i64 k] w fun e w'=>e=.returned (.tuple #[])/\RB ty w' rb s r/\Fr (One rb) w w':=by
 obtain⟨b,c,d⟩:=h.skip;have bZ:pos s r<=s.size:=Nat.sub_le _ _;unfold maxLen at hs;refine(ja rb (pos s (a++r)) k w h.dM (h.free 0) (by omega) (by omega)).mono ?_;rintro e w' ⟨rfl,rfl⟩;refine⟨rfl,?_,Fr.setCell _ _ _ _ rfl⟩;rw[show((pos s (a++r):Int)+k)=((pos s r:Nat):Int) by omega];exact h.move b c
theorem CO(h:RB ty w rb s l)(hs:s.size<=maxLen):
  Calls Tryz.prog 83 #[.pointer (some ⟨rb,0,none⟩)] w fun e w'=>e=.returned (.bool l.isEmpty)/\RB ty w' rb s l/\Fr (One rb) w w':=by
 cases l with
 | nil =>
  refine(oE rb _ s w hs h.dM h.cE h.end).mono ?_;rintro e w' ⟨rfl,k,rfl⟩;exact⟨rfl,h.drewN k,Fr.drewN _ _ _⟩
 | cons b r =>
  refine(qJ rb _ s w hs h.dM h.cE h.next.1).mono ?_;rintro e w' ⟨rfl,k,rfl⟩;exact⟨rfl,h.drewN k,Fr.drewN _ _ _⟩
theorem oj{got:Bs}(h:RB ty w rb s l)(hs:s.size<=maxLen)(_hl:(got++l).length<=s.size)(hg:tl s (pos s (got++l))=got++l):
  Calls Tryz.prog 166 #[.pointer (some ⟨rb,0,none⟩),.int .i64 (pos s (got++l))] w fun e w'=>e=.returned (.string (ba got))/\RB ty w' rb s l/\Fr (One rb) w w':=by
 have a:pos s (got++l)<=pos s l:=by simp only[pos,List.length_append];omega
 refine(sD rb (pos s (got++l)) (pos s l) s w hs h.dM h.cE a h.gj).mono ?_;rintro e w' ⟨rfl,k,rfl⟩;refine⟨?_,h.drewN k,Fr.drewN _ _ _⟩;rw[pL a (by rw[hg,h.tail]) h.gj]
end
structure VC where
 a:Addr
 n:Int
 b:Bs
 sv:Value
def VC.val(c:VC):Value:=.agg #[.pointer (some c.a),.int .i64 c.n,.string (ba c.b),c.sv]
def VC.cells(c:VC):List Value:=[.pointer (some c.a),.int .i64 c.n,.string (ba c.b),c.sv]
def cP(l:List VC):List Value:=l.flatMap VC.cells
theorem vA(l:List VC)(c:VC):cP (l++[c])=cP l++c.cells:=by simp[cP]
theorem ye(l:List VC):∀(j:Nat) (c:VC),l[j]?=some c->(cP l)[j*4]?=some (.pointer (some c.a))/\(cP l)[j*4+1]?=some (.int .i64 c.n)/\(cP l)[j*4+2]?=some (.string (ba c.b))/\(cP l)[j*4+3]?=some c.sv:=by
 induction l with
 | nil=>intro j c h;simp at h
 | cons q l ih =>
  intro j c h;cases j with
  | zero=>simp at h;subst h;exact⟨rfl,rfl,rfl,rfl⟩
  | succ j =>
   have d:l[j]?=some c:=by simpa using h
   have e:cP (q::l)=.pointer (some q.a)::.int .i64 q.n::.string (ba q.b)::q.sv::cP l:=rfl;rw[e,show(j+1)*4=j*4+1+1+1+1 by omega];exact ih j c d
def ml(w:World)(X:Nat->Prop):Nat->VC->PV->Prop
 | 0,_,_=>False
 | k+1,c,p=>TR w X c.a p.of/\c.n=p.num/\c.b=p.bytes/\∃ rows:List VC,w.ownsRow 0 133 4 c.sv rows.length (cP rows)/\(∀ g,c.sv.ownBlock=some g->¬X g)/\rows.length=p.parts.length /\
   ∀(j:Nat) (r:VC) (u:PV),rows[j]?=some r->p.parts[j]?=some u->ml w X k r u
def VR(w:World)(X:Nat->Prop)(c:VC)(p:PV):Prop:=∃ k,ml w X k c p
theorem ml.mono:∀(k:Nat) (c:VC) (p:PV),ml w X k c p->∀ k',k<=k'->ml w X k' c p:=by
 intro k
 induction k with
 | zero=>intro c p h;exact h.elim
 | succ k ih =>
  intro c p h k' n;obtain⟨a,rfl⟩:∃ a,k'=a+1:=⟨k' - 1,by omega⟩;obtain⟨d,e,f,b,g,i,l,m⟩:=h;exact⟨d,e,f,b,g,i,l,fun j r u hr hu=>ih r u (m j r u hr hu) a (by omega)⟩
theorem ml.ae(hf:Fr X w w'):∀(k:Nat) (c:VC) (p:PV),ml w X k c p->ml w' X k c p:=by
 intro k
 induction k with
 | zero=>intro c p h;exact h.elim
 | succ k ih =>
  intro c p h;obtain⟨d,e,f,a,g,b,i,l⟩:=h;exact⟨d.ae hf,e,f,a,ag g hf b,b,i,fun j r u hr hu=>ih r u (l j r u hr hu)⟩
theorem ml.aY(od:∀ b,b<w.heap.size->Y b->X b):∀(k:Nat) (c:VC) (p:PV),ml w X k c p->ml w Y k c p:=by
 intro k
 induction k with
 | zero=>intro c p h;exact h.elim
 | succ k ih =>
  intro c p h;obtain⟨e,f,i,a,d,l,m,n⟩:=h;exact⟨e.aY od,f,i,a,d,fun g hg y=>l g hg (od g (d.lt g hg).2 y),m,fun j r u hr hu=>ih r u (n j r u hr hu)⟩
theorem VR.ae{c:VC}(h:VR w X c p)(hf:Fr X w w'):VR w' X c p:=by
 obtain⟨k,h⟩:=h;exact⟨k,ml.ae hf k c p h⟩
theorem VR.aY{c:VC}(h:VR w X c p)(od:∀ b,b<w.heap.size->Y b->X b):VR w Y c p:=by
 obtain⟨k,h⟩:=h;exact⟨k,ml.aY od k c p h⟩
def VL(w:World)(X:Nat->Prop)(rows:List VC)(vs:List PV):Prop :=
 rows.length=vs.length/\∀(j:Nat) (r:VC) (u:PV),rows[j]?=some r->vs[j]?=some u->VR w X r u
theorem VL.nil(w:World)(X:Nat->Prop):VL w X [] []:=⟨rfl,fun j r u h=>by simp at h⟩
theorem VL.ae{rows:List VC}(h:VL w X rows vs)(hf:Fr X w w'):VL w' X rows vs :=
 ⟨h.1,fun j r u hr hu=>(h.2 j r u hr hu).ae hf⟩
theorem VL.aY{rows:List VC}(h:VL w X rows vs)(od:∀ b,b<w.heap.size->Y b->X b):VL w Y rows vs :=
 ⟨h.1,fun j r u hr hu=>(h.2 j r u hr hu).aY od⟩
theorem VL.snoc{rows:List VC}(h:VL w X rows vs){c:VC}{v:PV}(hv:VR w X c v):VL w X (rows++[c]) (vs++[v]):=by
 have b:=h.1;refine⟨by simp[b],fun j r u hr hu=>?_⟩
 by_cases d:j<rows.length
 ·rw[List.getElem?_append_left d] at hr;rw[List.getElem?_append_left (by omega)] at hu;exact h.2 j r u hr hu
 ·rw[List.getElem?_append_right (by omega)] at hr hu
  have a:j-rows.length=0:=by
   rcases Nat.eq_zero_or_pos (j-rows.length) with e|e
   ·exact e
   ·rw[List.getElem?_eq_none (by simp;omega)] at hr;cases hr
  rw[<-b,a] at hu;rw[a] at hr;simp at hr hu;subst hr hu;exact hv
theorem VR.make{c:VC}{rows:List VC}(ht:TR w X c.a p.of)(hn:c.n=p.num)(hb:c.b=p.bytes)(hO:w.ownsRow 0 133 4 c.sv rows.length (cP rows))(hx:∀ g,c.sv.ownBlock=some g->¬X g)(hL:VL w X rows p.parts):VR w X c p:=by
 have:∀ m:Nat,m<=rows.length->∃ k,∀ j,j<m->∀ r u,rows[j]?=some r->p.parts[j]?=some u->ml w X k r u:=by
  intro m
  induction m with
  | zero=>intro _;exact⟨0,fun j hj=>by omega⟩
  | succ m ih =>
   intro h;obtain⟨k,d⟩:=ih (by omega);have aX:=hL.1;obtain⟨f,gg⟩:=hL.2 m rows[m] (p.parts[m]'(by omega)) (by simp) (by simp);refine⟨max k f,fun j hj r u hr hu=>?_⟩
   by_cases e:j<m
   ·exact ml.mono _ _ _ (d j e r u hr hu) _ (by omega)
   ·have:j=m:=by omega
    subst this;obtain⟨_,rfl⟩:=List.getElem?_eq_some_iff.1 hr;obtain⟨_,rfl⟩:=List.getElem?_eq_some_iff.1 hu;exact ml.mono _ _ _ gg _ (by omega)
 obtain⟨k,d⟩:=this rows.length (Nat.le_refl _);exact⟨k+1,ht,hn,hb,rows,hO,hx,hL.1,fun j r u hr hu=>d j (List.getElem?_eq_some_iff.1 hr).1 r u hr hu⟩
theorem VR.open{c:VC}(h:VR w X c p):TR w X c.a p.of/\c.n=p.num/\c.b=p.bytes/\∃ rows:List VC,w.ownsRow 0 133 4 c.sv rows.length (cP rows)/\(∀ g,c.sv.ownBlock=some g->¬X g)/\VL w X rows p.parts:=by
 obtain⟨k,h⟩:=h;cases k with
 | zero=>exact h.elim
 | succ k =>
  obtain⟨d,e,f,rows,i,l,m,o⟩:=h;exact⟨d,e,f,rows,i,l,m,fun j r u hr hu=>⟨k,o j r u hr hu⟩⟩
theorem VR.leaf{a:Addr}{t:PT}{n:Int}{b:Bs}(ht:TR w X a t):VR w X ⟨a,n,b,.slice none 0 0⟩ ⟨t,n,b,[]⟩ :=
 VR.make (rows:=[]) ht rfl rfl (World.ownsRow_nil _ _ _ _) (fun g hg=>by simp[Value.ownBlock] at hg) (VL.nil _ _)
theorem TR.open{a:Addr}{t:PT}(h:TR w X a t):∃(b:Nat) (sv:Value) (rows:List (ByteArray×Addr)),a=⟨b,0,none⟩/\w.heap[b]?=some (.cells #[.int .i64 t.kind,sv,.int .i64 t.depth] 214 (0,0))/\¬X b /\
   w.ownsRow 0 198 2 sv rows.length (aU rows)/\(∀ g,sv.ownBlock=some g->¬X g)/\rows.map (·.1)=t.names/\rows.length=t.subs.length /\
   ∀(j:Nat) (p:ByteArray×Addr) (u:PT),rows[j]?=some p->t.subs[j]?=some u->TR w X p.2 u:=by
 obtain⟨k,h⟩:=h;cases k with
 | zero=>exact h.elim
 | succ k =>
  obtain⟨b,sv,rows,c,d,e,f,i,l,m,n⟩:=h;exact⟨b,sv,rows,c,d,e,f,i,l,m,fun j p u hp hu=>⟨k,n j p u hp hu⟩⟩
theorem VL.grow{w2:World}{pv v':Value}{rows:List VC}{c:VC}{v:PV}
  (hpv:∀ g,pv.ownBlock=some g->B<=g) (hB:B<=w1.heap.size) (hL:VL w1 (XO X pv) rows vs) (hv:VR w1 (XO X pv) c v)
  (iE:w2.ownsRow 0 133 4 v' (rows.length+1) (cP rows++c.cells)) (hg:w1.grownBy w2 pv.ownBlock) (hv':∃ g au,v'=.slice (some ⟨g,0,none⟩) (rows.length+1) au/\(pv.ownBlock=some g\/w1.heap.size<=g)) :
  VL w2 (XO X v') (rows++[c]) (vs++[v])/\w2.ownsRow 0 133 4 v' (rows++[c]).length (cP (rows++[c]))/\(∀ g,v'.ownBlock=some g->B<=g)/\Fr (fun k=>B<=k) w1 w2/\Fr (XO X pv) w1 w2:=by
 obtain⟨g,au,rfl,a⟩:=hv'
 have f:∀ b,b<w1.heap.size->(XO X pv b\/w1.heap.size<=b)->XO X pv b:=fun b hb h=>by
  rcases h with h|h
  ·exact h
  ·omega
 have i:∀ b,b<w2.heap.size->XO X (.slice (some ⟨g,0,none⟩) (rows.length+1) au) b->(XO X pv b\/w1.heap.size<=b):=fun b _ h=>by
  rcases h with h|h
  ·exact .inl (.inl h)
  ·simp[Value.ownBlock] at h;subst h;rcases a with h|h
   ·exact .inl (.inr h)
   ·exact .inr h
 have j:Fr (fun b=>XO X pv b\/w1.heap.size<=b) w1 w2:=Fr.grown hg (fun k e _=>.inl (.inr e));refine⟨?_,?_,?_,Fr.grown hg (fun k e _=>hpv k e),Fr.grown hg (fun k e _=>.inr e)⟩
 ·exact(((hL.snoc hv).aY f).ae j).aY i
 ·rw[vA,List.length_append];exact iE
 ·intro l d;simp[Value.ownBlock] at d;subst d;rcases a with h|h
  ·exact hpv _ h
  ·omega
theorem iM(k:Nat)(hk:k<=2)(w:World):
  Calls Tryz.prog 120 #[.int .i64 k] w fun e w'=>e=.returned (.int .i64 (aT k))/\w'=w:=by
 match k,hk with
 | 0,_=>go_enter Tryz.func120,Tryz.ntmps120;go_wp2;go_ret;exact⟨rfl,rfl⟩
 | 1,_=>go_enter Tryz.func120,Tryz.ntmps120;go_wp2;go_ret;exact⟨rfl,rfl⟩
 | 2,_=>go_enter Tryz.func120,Tryz.ntmps120;go_wp2;go_ret;exact⟨rfl,rfl⟩
theorem zq(k:Nat)(hk:k<=2)(w:World):
  Calls Tryz.prog 163 #[.int .i64 k] w fun e w'=>e=.returned (.int .u64 (bQ k))/\w'=w:=by
 match k,hk with
 | 0,_ =>
  go_enter Tryz.func163,Tryz.ntmps163;go_wp2_with fail;refine(iM 0 (by omega) _).mono ?_;rw[show((aT 0:Nat):Int)=1 from rfl];rintro e b ⟨rfl,a⟩;obtain rfl:=a.symm
  go_wp2;go_ret;exact⟨rfl,rfl⟩
 | 1,_ =>
  go_enter Tryz.func163,Tryz.ntmps163;go_wp2_with fail;refine(iM 1 (by omega) _).mono ?_;rw[show((aT 1:Nat):Int)=2 from rfl];rintro e b ⟨rfl,a⟩;obtain rfl:=a.symm
  go_wp2;go_ret;exact⟨rfl,rfl⟩
 | 2,_ =>
  go_enter Tryz.func163,Tryz.ntmps163;go_wp2_with fail;refine(iM 2 (by omega) _).mono ?_;rw[show((aT 2:Nat):Int)=4 from rfl];rintro e b ⟨rfl,a⟩;obtain rfl:=a.symm
  go_wp2;go_ret;exact⟨rfl,rfl⟩
def iU(ty:TypeId)(w:World)(rb:Nat)(s:ByteArray)(l:Bs)(most:Nat)(e:Ending)(w':World):Prop :=
 Fr (One rb) w w'/\RB ty w' rb s (c9 most l).2/\∃ n:Nat,n<=most/\e=.returned (.tuple #[.int .u64 n,.bool (c9 most l).1.isSome])/\((c9 most l).1.isSome=true->(c9 most l).1=some n)
theorem iU.of{ty:TypeId}{most acc:Nat}(hc:bz 48 l=none)(hD:bu most 0 l=(acc,r))(hF:Fr (One rb) w w')(hR:RB ty w' rb s r)(ha:acc<=most)(hl:l.length<=s.size)(hr:r.length<=l.length):
  iU ty w rb s l most (.returned (.tuple #[.int .u64 acc,.bool (decide (pos s l<pos s r))])) w':=by
 have b:c9 most l=(if r.length<l.length then some acc else none,r):=by
  unfold c9;rw[hc];simp only[hD]
 unfold iU;rw[b];refine⟨hF,hR,acc,ha,?_,?_⟩
 ·have:decide (pos s l<pos s r)=(if r.length<l.length then some acc else none).isSome:=by
   unfold pos
   by_cases h:r.length<l.length
   ·rw[if_pos h];simp;omega
   ·rw[if_neg h];simp;omega
  rw[this]
 ·intro h
  by_cases a:r.length<l.length
  ·simp[a]
  ·simp[a] at h
theorem m0{ty:TypeId}(most:Nat)(h9:255<=most)(hm:most<=9223372036854775808)(h:RB ty w rb s l)(hs:s.size<=maxLen):
  Calls Tryz.prog 162 #[.pointer (some ⟨rb,0,none⟩),.int .u64 most] w fun e w'=>iU ty w rb s l most e w':=by
 have E:=hs;unfold maxLen at E;rcases hc:bz 48 l with _|r
 ·go_enter Tryz.func162,Tryz.ntmps162;go_wp2_with fail;refine(ck h hs 48 hc).mono ?_;rintro e N ⟨rfl,(m:Hi _),(t:Hi _)⟩;go_wp2_with fail;refine(AL m).mono ?_;rintro e R ⟨rfl,O⟩;obtain rfl:=O.symm;go_wp2_with fail
  go_loopw [6] (fun nv wr=>∃(d:Nat) (r:Bs),nv=.int .u64 d/\d<=most/\r.length<=l.length/\Hi (bu most 0 l=bu most d r)/\Hi (RB ty wr rb s r)/\Hi (Fr (One rb) w wr)) (fun _ wr=>s.size+1-ue rb wr)
  case atStart=>exact⟨0,l,rfl,by omega,Nat.le_refl _,rfl,m,t⟩
  case round =>
   obtain⟨d,r,rfl,i,dK,v,j,K⟩:=hrel;have k:=h.len;rcases r with _|⟨b,r⟩
   ·have n:Hi (bu most 0 l=(d,[])):=v.o.trans rfl;go_wp2_with fail;refine(lj j hs).mono ?_;rintro e L ⟨rfl,(c:Hi _),f⟩;have g:=ab (K.o.trans f);go_wp2_with fail;refine(AL c).mono ?_;rintro e C ⟨rfl,u⟩;obtain rfl:=u.symm;go_wp2_with fail;go_ret2;exact iU.of hc n g c i k dK
   ·have P:=b.toNat_lt;have x:=dK;simp only[List.length_cons] at x;have F:=j.o.len;have G:=ab j.o.place
    by_cases H:b.toNat<48\/57<b.toNat
    ·have n:Hi (bu most 0 l=(d,b::r)):=v.o.trans (by simp only[bu];rw[if_pos (by omega)]);go_wp2_with fail;refine(fX j hs).mono ?_;rintro e L ⟨rfl,(c:Hi _),f⟩;have g:=ab (K.o.trans f);rcases H with H|H
     ·have y:(b.toNat:Int)<48:=by omega
      go_wp2_with fail;refine(AL c).mono ?_;rintro e C ⟨rfl,u⟩;obtain rfl:=u.symm;go_wp2_with fail;go_ret2;exact iU.of hc n g c i k dK
     ·have y:¬(b.toNat:Int)<48:=by omega
      have I:(57:Int)<(b.toNat:Int):=by omega
      go_wp2_with fail;refine(AL c).mono ?_;rintro e C ⟨rfl,u⟩;obtain rfl:=u.symm;go_wp2_with fail;go_ret2;exact iU.of hc n g c i k dK
    ·have y:¬(b.toNat:Int)<48:=by omega
     have I:¬(57:Int)<(b.toNat:Int):=by omega
     go_wp2_with fail;refine(fX j hs).mono ?_;rintro e L ⟨rfl,(c:Hi _),f⟩;have g:=ab (K.o.trans f)
     by_cases Q:(most-(b.toNat-48))/10<d
     ·have n:Hi (bu most 0 l=(d,b::r)):=v.o.trans (by simp only[bu];rw[if_pos (by omega)]);go_wp2_with fail;refine(AL c).mono ?_;rintro e C ⟨rfl,u⟩;obtain rfl:=u.symm;go_wp2_with fail;go_ret2;exact iU.of hc n g c i k dK
     ·have n:Hi (bu most 0 l=bu most (d*10+(b.toNat-48)) r):=v.o.trans (by simp only[bu];rw[if_neg (by omega)]);go_wp2_with fail;refine(pK (a:=[b]) c hs 1 rfl).mono ?_;rintro e C ⟨rfl,(A:Hi _),B⟩;have J:=ab (g.o.trans B);have z:=ab A.o.place;go_wp2_with fail;refine⟨⟨d*10+(b.toNat-48),r,by go_num,by omega,by omega,n,A,J⟩,?_⟩;rw[G.o,z.o];simp only[pos,List.length_cons];simp only[List.length_cons] at F;omega
 ·have M:Hi (c9 most l=(some 0,r)):=by show c9 most l=_;unfold c9;rw[hc]
  go_enter Tryz.func162,Tryz.ntmps162;go_wp2_with fail;refine(bK h hs 48 hc).mono ?_;rintro e N ⟨rfl,(m:Hi _),(t:Hi _)⟩;go_wp2_with fail;go_ret2;unfold iU;rw[M.o];exact⟨t,m,0,by omega,rfl,fun _=>rfl⟩
def eD(ty:TypeId)(w:World)(rb:Nat)(s:ByteArray)(lU:Option Int×Bs)(e:Ending)(w':World):Prop :=
 Fr (One rb) w w'/\RB ty w' rb s lU.2/\∃ m:Int,e=.returned (.tuple #[.int .i64 m,.bool lU.1.isSome])/\(∀ x,lU.1=some x->m=x)
theorem eD.after{ty:TypeId}{lU:Option Int×Bs}{e:Ending}(h:eD ty w1 rb s lU e w')(hf:Fr (One rb) w w1):eD ty w rb s lU e w' :=
 ⟨hf.trans h.1,h.2⟩
def jB(most:Nat)(l:Bs):Option Int×Bs:=((c9 most l).1.map Int.ofNat,(c9 most l).2)
theorem eD.Ja{ty:TypeId}{most:Nat}(hF:Fr (One rb) w w')(hR:RB ty w' rb s (c9 most l).2)(hn:(c9 most l).1.isSome=true->(c9 most l).1=some n):eD ty w rb s (jB most l) (.returned (.tuple #[.int .i64 n,.bool (c9 most l).1.isSome])) w':=by
 refine⟨hF,hR,n,by simp[jB],fun x hx=>?_⟩;simp only[jB,Option.map_eq_some_iff] at hx;obtain⟨m,a,rfl⟩:=hx
 have:=hn (by rw[a];rfl)
 rw[this] at a;simp at a;subst a;rfl
theorem kz{ty:TypeId}(k:Nat)(hk:k<=2)(h:RB ty w rb s l)(hs:s.size<=maxLen):
  Calls Tryz.prog 110 #[.pointer (some ⟨rb,0,none⟩),.int .i64 k] w fun e w'=>eD ty w rb s (jB (bQ k) l) e w':=by
 have g:255<=bQ k/\bQ k<=4294967295:=by unfold bQ;split<;>(try split)<;>omega
 go_enter Tryz.func110,Tryz.ntmps110;go_wp2_with fail;refine(zq k hk _).mono ?_;rintro e r ⟨rfl,m⟩;obtain rfl:=m.symm;go_wp2_with fail;refine(m0 (bQ k) (by omega) (by omega) h hs).mono ?_;rintro e t ⟨(p:Hi _),(a:Hi _),n,u,rfl,d⟩;generalize b:(c9 (bQ k) l).1.isSome=q at *;have j:(n:Int)<=4294967295:=by omega
 go_wp2_with fail;go_ret2
 have:=eD.Ja p a (n:=n) (fun h=>d (b ▸ h))
 rw[b] at this;exact this
theorem yl{ty:TypeId}(h:RB ty w rb s l)(hs:s.size<=maxLen):
  Calls Tryz.prog 111 #[.pointer (some ⟨rb,0,none⟩)] w fun e w'=>eD ty w rb s (cg l) e w':=by
 rcases hc:bz 45 l with _|r
 ·have j:Hi (cg l=jB 9223372036854775807 l):=by show cg l=_;unfold cg;rw[hc];rfl
  go_enter Tryz.func111,Tryz.ntmps111;go_wp2_with fail;refine(ck h hs 45 hc).mono ?_;rintro e z ⟨rfl,(a:Hi _),(d:Hi _)⟩;go_wp2_with fail;refine(m0 9223372036854775807 (by omega) (by omega) a hs).mono ?_;rintro e K ⟨v,(f:Hi _),n,O,rfl,g⟩;have B:=ab (d.o.trans v);generalize k:(c9 9223372036854775807 l).1.isSome=q at *;have D:(n:Int)<=9223372036854775807:=by omega
  go_wp2_with fail;go_ret2
  have:=eD.Ja B f (n:=n) (fun h=>g (k ▸ h))
  rw[k] at this;rw[j.o];exact this
 ·rcases hz:bz 48 r with _|Q
  ·have j:Hi (cg l=((c9 9223372036854775808 r).1.map (fun(n:Nat)=>-(n:Int)),(c9 9223372036854775808 r).2)):=by show cg l=_;unfold cg;rw[hc];simp only[hz]
   have cF:∀ b L,r=b::L->b.toNat≠48:=by
    rintro b L rfl e;rw[dW e] at hz;cases hz
   go_enter Tryz.func111,Tryz.ntmps111;go_wp2_with fail;refine(bK h hs 45 hc).mono ?_;rintro e z ⟨rfl,(a:Hi _),(d:Hi _)⟩;go_wp2_with fail
   have t:Calls Tryz.prog 164 #[.pointer (some ⟨rb,0,none⟩)] z fun e w'=>∃(c:Nat) (q:Bool),c≠48/\c<256/\e=.returned (.tuple #[.int .u8 c,.bool q])/\RB ty w' rb s r/\Fr (One rb) z w':=by
    rcases r with _|⟨b,r⟩
    ·refine(lj a hs).mono ?_;rintro e w' ⟨rfl,E,F⟩;exact⟨0,false,by omega,by omega,rfl,E,F⟩
    ·refine(fX a hs).mono ?_;rintro e w' ⟨rfl,E,F⟩;exact⟨b.toNat,true,cF b r rfl,b.toNat_lt,rfl,E,F⟩
   refine t.mono ?_;rintro e K ⟨c,q,M,Ag,rfl,(f:Hi _),ao⟩;have i:=ab (d.o.trans ao);have N:((c:Int)==48)=false:=beq_eq_false_iff_ne.2 (by omega);go_wp2_with fail;refine(m0 9223372036854775808 (by omega) (by omega) f hs).mono ?_;rintro e P ⟨v,(G:Hi _),n,O,rfl,g⟩;have B:=ab (i.o.trans v);generalize k:(c9 9223372036854775808 r).1.isSome=q at *
   have I:Hi (eD ty w rb s (cg l) (.returned (.tuple #[.int .i64 (-(n:Int)),.bool q])) P):=by
    show eD _ _ _ _ _ _ _;rw[j.o];refine⟨B,G,-(n:Int),by simp[<-k],fun x g=>?_⟩;simp only[Option.map_eq_some_iff] at g;obtain⟨m,H,rfl⟩:=g
    have:=g (by rw[<-k,H];rfl)
    rw[this] at H;simp at H;omega
   by_cases u:n=9223372036854775808
   ·subst u;go_wp2_with fail;go_ret2;have J:=I.o;rw[show(-((9223372036854775808:Nat):Int))=wrap64 (-wrap64 9223372036854775808) from by decide +kernel] at J;exact J
   ·have D:(n:Int)<=9223372036854775807:=by omega
    go_wp2_with fail;go_ret2;exact I
  ·have j:Hi (cg l=(none,r)):=by show cg l=_;unfold cg;rw[hc];simp only[hz]
   obtain⟨b,rfl,R⟩:=bp hz;go_enter Tryz.func111,Tryz.ntmps111;go_wp2_with fail;refine(bK h hs 45 hc).mono ?_;rintro e z ⟨rfl,(a:Hi _),(d:Hi _)⟩;go_wp2_with fail;refine(fX a hs).mono ?_;rintro e K ⟨rfl,(f:Hi _),ao⟩;have i:=ab (d.o.trans ao);go_wp2_with fail;go_ret2;rw[j.o];exact⟨i,f,0,rfl,fun x g=>by cases g⟩
open Go
theorem sA:(∀(t:Array Value) (d:List Deferred) (i:Nat) (v:Value),Act.put ⟨t,d⟩ (some i) v=⟨t.setIfInBounds i v,d⟩)/\(∀(t:Act) (v:Value),Act.put t none v=t)/\(∀(l:List Value) (i:Nat) (v:Value),l.toArray.setIfInBounds i v=(l.set i v).toArray)/\(∀(b:Value) (l:List Value) (v:Value),(b::l).set 0 v=v::l)/\(∀(b:Value) (l:List Value) (i:Nat) (v:Value),(b::l).set (i+1) v=b::l.set i v) :=
 ⟨fun _ _ _ _=>rfl,fun _ _=>rfl,fun _ _ _=>List.setIfInBounds_toArray ..,fun _ _ _=>rfl,fun _ _ _ _=>rfl⟩
section
variable {P:Program} {md:Region.Mode} {L:List Oper} {oi:Oper} {Q:Exit->Act->World->Prop} {S:World->Prop} {v:Value} {uA:Nat} {mS:Array Bool} {a:Act} {w:World} {rs:List Nat}
theorem wt(i:Nat)(hS:S w)(h:wpAnyH P md L.toArray Q S uA (mS.setIfInBounds i true) (a.put oi.dst v) w)(hi:L[i]?=some oi:=by rfl)
  (hs:Region.noSelect L.toArray=true:=by kernel_rfl) (hf:Region.free md L.toArray mS i=true:=by kernel_rfl) (hr:(Region.ready md L.toArray mS).contains i=true:=by kernel_rfl)
  (hQ:∀ c a w,Q (.panic c) (a.put oi.dst v) w->Q (.panic c) a w:=by exact fun _ _ _ h=>h) (hw:Region.wanted oi (yielded L.toArray a.tmps)=true:=by rfl)
  (hy:∀ W,S W->(execOp a.eval oi).run P W=.ok (.value v) W:=by intro W hW;(try subst hW);(repeat' rcases hW with⟨_,hW⟩);go_simp;try with_reducible rfl):wpAnyH P md L.toArray Q S (uA+1) mS a w :=
 wpAnyH_take (i:=i) (by rw[List.getElem?_toArray];exact hi) hs hf hr hQ (Or.inl ⟨hw,hy⟩) hS h
theorem wc(i:Nat)(h:∀ K':Act->World->Prop,Shut (∀ a w,S w->(S w->wpAnyH P md L.toArray Q S uA (mS.setIfInBounds i true) a w)->K' a w)->if Region.wanted oi (yielded L.toArray a.tmps)=true then Oper.wp P oi a w K' Q else K' (a.put oi.dst undef) w)
  (hs:AllReadyH P md L.toArray Q S uA mS a w rs) (hi:L[i]?=some oi:=by rfl):AllReadyH P md L.toArray Q S uA mS a w (i::rs):=AllReadyH.cons (by rw[List.getElem?_toArray];exact hi) h hs
end
theorem Tryz.Ax:(Tryz.prog.info? 5).map (fun i=>(i.zero,i.size,i.bytes))=some (some (.int .u8 0),1,1):=by kernel_rfl
structure BO(w:World)(B:Nat)(sv:Value)(acc:Bs):Prop where
 own:w.ownsRow 0 5 1 sv acc.length (Lib.byteCells acc)
 from_:∀ g,sv.ownBlock=some g->B<=g
theorem BO.nil(w:World)(B:Nat):BO w B (.slice none 0 0) []:=⟨World.ownsRow_nil _ _ _ _,fun g hg=>by simp[Value.ownBlock] at hg⟩
theorem BO.ae(h:BO w B sv acc)(hf:Fr X w w')(hx:∀ k,B<=k->¬X k):BO w' B sv acc:=⟨ag h.own hf (fun g hg=>hx g (h.from_ g hg)),h.from_⟩
theorem BO.alloc(h:BO w B sv acc)(o:Obj):BO (w.alloc o) B sv acc:=⟨h.own.alloc o,h.from_⟩
theorem BO.len(h:BO w B sv acc):∃ a au,sv=.slice a acc.length au:=by
 rcases h.own.2 with⟨rfl,e⟩|⟨g,au,b,rfl,_⟩
 ·exact⟨none,0,by rw[e]⟩
 ·exact⟨_,au,rfl⟩
theorem BO.conv(h:BO w B sv acc):(convert 118 9 sv).run Tryz.prog w=.ok (.string (ba acc)) w:=by
 rcases h.own.2 with⟨rfl,e⟩|⟨g,au,a,rfl,_⟩
 ·have:acc=[]:=List.eq_nil_of_length_eq_zero e
  subst this;exact run_convert_bytes_nil w 118 5 Tryz.underlying118 Tryz.underlying5 0 0 9 Tryz.underlying9
 ·exact run_convert_bytes_back (P:=Tryz.prog) w 118 9 5 ⟨g,0,none⟩ au acc Tryz.underlying118 Tryz.underlying5 Tryz.underlying9 (fun j hj=>h.own.cells (g:=g) rfl j _ (by simp[Lib.byteCells,hj]))
theorem BO.grow{w2:World}{pv v':Value}{more:Bs}(h:BO w1 B pv acc)(hB:B<=w1.heap.size)(iE:w2.ownsRow 0 5 1 v' (acc.length+more.length) (Lib.byteCells acc++Lib.byteCells more))(hg:w1.grownBy w2 pv.ownBlock)
  (hv:∃ g au,v'=.slice (some ⟨g,0,none⟩) (acc.length+more.length) au/\(pv.ownBlock=some g\/w1.heap.size<=g)):BO w2 B v' (acc++more)/\Fr (fun k=>B<=k) w1 w2:=by
 obtain⟨g,au,rfl,b⟩:=hv;refine⟨⟨?_,?_⟩,Fr.grown hg (fun k e _=>h.from_ k e)⟩
 ·rw[List.length_append,show Lib.byteCells (acc++more)=Lib.byteCells acc++Lib.byteCells more by simp[Lib.byteCells]];exact iE
 ·intro d a;simp[Value.ownBlock] at a;subst a;rcases b with c|c
  ·exact h.from_ _ c
  ·omega
def pD(ty:TypeId)(w:World)(rb:Nat)(s:ByteArray)(lU:Option Bs×Bs)(e:Ending)(w':World):Prop :=
 Fr (One rb) w w'/\RB ty w' rb s lU.2/\∃ v:ByteArray,e=.returned (.tuple #[.string v,.bool lU.1.isSome])/\(∀ x,lU.1=some x->v=ba x)
def Be:Bs->Option UInt8×Bs
 | []=>(none,[])
 | c::l'=>if c.toNat=34\/c.toNat=92 then(some c,l') else(none,c::l')
def jr:Bs->Option UInt8×Bs
 | []=>(none,[])
 | b::l=>if b.toNat=92 then Be l else if 32<=b.toNat/\b.toNat<=126 then(some b,l) else(none,b::l)
theorem vy{ty:TypeId}(h:RB ty w rb s l)(hs:s.size<=maxLen):
  Calls Tryz.prog 169 #[.pointer (some ⟨rb,0,none⟩)] w fun e w'=>Fr (One rb) w w'/\RB ty w' rb s (jr l).2/\∃ c:Nat,c<256/\e=.returned (.tuple #[.int .u8 c,.bool (jr l).1.isSome])/\(∀ x,(jr l).1=some x->c=x.toNat):=by
 rcases hc:bz 92 l with _|r
 ·go_enter Tryz.func169,Tryz.ntmps169;go_wp2_with fail;refine(ck h hs 92 hc).mono ?_;rintro e J ⟨rfl,(i:Hi _),(j:Hi _)⟩
  by_cases u:∃ b r,l=b::r/\32<=b.toNat/\b.toNat<=126
  ·obtain⟨b,r,rfl,y,z⟩:=u;have g:b.toNat≠92:=fun e=>by rw[dW e] at hc;cases hc
   have m:Hi (jr (b::r)=(some b,r)):=by
    show jr (b::r)=_;simp only[jr];rw[if_neg g,if_pos ⟨y,z⟩]
   go_wp2_with fail;refine(nd i hs 32 126 (by omega) (by omega)).mono ?_;rintro e D ⟨rfl,(d:Hi _),ao⟩;have a:=ab (j.o.trans ao);go_wp2;go_ret2;rw[m.o];exact⟨a,d,b.toNat,b.toNat_lt,rfl,fun x hx=>by simp at hx;subst hx;rfl⟩
  ·have m:Hi (jr l=(none,l)):=by
    show jr l=_;cases l with
    | nil=>rfl
    | cons b r =>
     have g:b.toNat≠92:=fun e=>by rw[dW e] at hc;cases hc
     simp only[jr];rw[if_neg g,if_neg (fun h=>u ⟨b,r,rfl,h⟩)]
   have dH:∀ b r,l=b::r->(b.toNat:Int)<32\/(126:Int)<(b.toNat:Int):=fun b r e=>by
    by_cases y:32<=b.toNat
    ·by_cases z:b.toNat<=126
     ·exact(u ⟨b,r,e,y,z⟩).elim
     ·omega
    ·omega
   go_wp2_with fail;refine(om i hs 32 126 dH).mono ?_;rintro e D ⟨rfl,(d:Hi _),ao⟩;have a:=ab (j.o.trans ao);go_wp2;go_ret2;rw[m.o];exact⟨a,d,0,by omega,rfl,fun x hx=>by cases hx⟩
 ·obtain⟨b,rfl,K⟩:=bp hc
  have f:Hi (jr (b::r)=Be r):=by
   show jr (b::r)=_;simp only[jr];rw[if_pos K]
  go_enter Tryz.func169,Tryz.ntmps169;go_wp2_with fail;refine(bK h hs 92 hc).mono ?_;rintro e J ⟨rfl,(i:Hi _),(j:Hi _)⟩;rcases hq:bz 34 r with _|E
  ·go_wp2_with fail;refine(ck i hs 34 hq).mono ?_;rintro e D ⟨rfl,(d:Hi _),ao⟩;have a:=ab (j.o.trans ao);rcases hz:bz 92 r with _|F
   ·have C:=ab hz
    have m:Hi (jr (b::r)=(none,r)):=by
     show jr (b::r)=_;rw[f.o];cases r with
     | nil=>rfl
     | cons c r' =>
      have H:c.toNat≠34:=fun e=>by rw[dW e] at hq;cases hq
      have I:c.toNat≠92:=fun e=>by rw[dW e] at hz;cases hz
      simp only[Be];rw[if_neg (by omega)]
    go_wp2_with fail;refine(ck d hs 92 C).mono ?_;rintro e L ⟨rfl,(p:Hi _),k⟩;have n:=ab (a.o.trans k);go_wp2;go_ret2;rw[m.o];exact⟨n,p,92,by omega,rfl,fun x hx=>by cases hx⟩
   ·have C:=ab hz;obtain⟨c,rfl,q⟩:=bp hz
    have m:Hi (jr (b::c::F)=(some c,F)):=by
     show jr (b::c::F)=_;rw[f.o];simp only[Be];rw[if_pos (.inr q)]
    go_wp2_with fail;refine(bK d hs 92 C).mono ?_;rintro e L ⟨rfl,(p:Hi _),k⟩;have n:=ab (a.o.trans k);go_wp2;go_ret2;rw[m.o];exact⟨n,p,92,by omega,rfl,fun x hx=>by simp at hx;subst hx;omega⟩
  ·obtain⟨c,rfl,t⟩:=bp hq
   have m:Hi (jr (b::c::E)=(some c,E)):=by
    show jr (b::c::E)=_;rw[f.o];simp only[Be];rw[if_pos (.inl t)]
   go_wp2_with fail;refine(bK i hs 34 hq).mono ?_;rintro e D ⟨rfl,(d:Hi _),ao⟩;have a:=ab (j.o.trans ao);go_wp2;go_ret2;rw[m.o];exact⟨a,d,34,by omega,rfl,fun x hx=>by simp at hx;subst hx;omega⟩
theorem Bc(k:Nat)(acc l:Bs)(h:bz 34 l=none):fD (k+1) acc l=match jr l with|(some c,r)=>fD k (acc++[c]) r|(none,r)=>(none,r):=by
 cases l with
 | nil=>rfl
 | cons b l =>
  have g:b.toNat≠34:=fun e=>by rw[dW e] at h;cases h
  simp only[fD,jr];rw[if_neg g]
  by_cases a:b.toNat=92
  ·rw[if_pos a,if_pos a];cases l with
   | nil=>rfl
   | cons c l =>
    simp only[Be]
    by_cases d:c.toNat=34\/c.toNat=92
    ·rw[if_pos d,if_pos d]
    ·rw[if_neg d,if_neg d]
  ·rw[if_neg a,if_neg a]
   by_cases f:32<=b.toNat/\b.toNat<=126
   ·rw[if_pos f,if_pos f]
   ·rw[if_neg f,if_neg f]
theorem Dh(k:Nat)(acc l r:Bs)(h:bz 34 l=some r):fD k acc l=(some acc,r):=by
 obtain⟨b,rfl,a⟩:=bp h;cases k with
 | zero=>simp only[fD];rw[if_pos a]
 | succ k=>simp only[fD];rw[if_pos a]
theorem Bd(acc l:Bs)(h:bz 34 l=none):fD 0 acc l=(none,l):=by
 cases l with
 | nil=>rfl
 | cons b l =>
  have a:b.toNat≠34:=fun e=>by rw[dW e] at h;cases h
  simp only[fD];rw[if_neg a]
theorem yF{ty:TypeId}(h:RB ty w rb s l)(hs:s.size<=maxLen):
  Calls Tryz.prog 113 #[.pointer (some ⟨rb,0,none⟩)] w fun e w'=>pD ty w rb s (bM l) e w':=by
 have dG:=h.lt;rcases hc:bz 34 l with _|p
 ·have E:Hi (bM l=(none,l)):=by show bM l=_;unfold bM;rw[hc]
  go_enter Tryz.func113,Tryz.ntmps113;go_wp2_with fail;refine(ck h hs 34 hc).mono ?_;rintro e w1 ⟨rfl,(y:Hi _),(z:Hi _)⟩;go_wp2;go_ret2;rw[E.o];exact⟨z,y,⟨#[]⟩,rfl,fun x hx=>by cases hx⟩
 ·have E:Hi (bM l=fD 300 [] p):=by show bM l=_;unfold bM;rw[hc]
  go_enter Tryz.func113,Tryz.ntmps113;go_wp2_with fail;refine(bK h hs 34 hc).mono ?_;rintro e w1 ⟨rfl,(y:Hi _),(z:Hi _)⟩;go_wp2
  go_loopw [4] (fun bv wr=>∃(b r:Bs),b.length<=300/\mh bv=b.length/\Hi (fD 300 [] p=fD (300-b.length) b r)/\Hi (BO wr w.heap.size bv b)/\Hi (RB ty wr rb s r)/\Hi (Fr (One rb) w wr)) (fun bv _=>300-mh bv)
  case atStart=>exact⟨[],p,by simp,rfl,rfl,BO.nil _ _,y,z⟩
  case round =>
   obtain⟨b,r,aa,aX,T,U,H,HF⟩:=hrel;obtain⟨a,au,rfl⟩:=U.o.len;rcases hc:bz 34 r with _|r1
   ·go_wp2_with fail;refine(ck H hs 34 hc).mono ?_;rintro e w2 ⟨rfl,(m:Hi _),ao⟩;have i:=ab (HF.o.trans ao);have t:=ab (U.o.ae ao (fun k hk e=>by have e':k=rb:=e;omega))
    by_cases d:b.length=300
    ·have f:Hi (fD 300 [] p=(none,r)):=T.o.trans (by rw[d];exact Bd b r hc);have hq:((b.length:Int)==300)=true:=beq_iff_eq.2 (by omega);go_wp2;go_ret2;rw[E.o,f.o];exact⟨i,m,⟨#[]⟩,rfl,fun x hx=>by cases hx⟩
    ·have hq:((b.length:Int)==300)=false:=beq_eq_false_iff_ne.2 (by omega);have f:Hi (fD 300 [] p=match jr r with|(some c,r)=>fD (300-(b.length+1)) (b++[c]) r|(none,r)=>(none,r)):=T.o.trans (by rw[show 300-b.length=(300-(b.length+1))+1 by omega];exact Bc _ b r hc);go_wp2_with fail;refine(vy m hs).mono ?_;rintro e w3 ⟨A,(n:Hi _),c,Ag,rfl,B⟩;have v:=ab (i.o.trans A);have F:=ab (t.o.ae A (fun k hk e=>by have e':k=rb:=e;omega));rcases hv:jr r with⟨_|x,V⟩
     ·rw[hv] at f n;have P:Hi (fD 300 [] p=(none,V)):=f;go_wp2;go_ret2;rw[E.o,P.o];exact⟨v,n,⟨#[]⟩,rfl,fun x hx=>by cases hx⟩
     ·rw[hv] at f n;have G:c=x.toNat:=B x (by rw[hv]);subst G;have P:Hi (fD 300 [] p=fD (300-(b.length+1)) (b++[x]) V):=f;obtain⟨i0,hi,W,X,Y⟩:=info_parts Tryz.Ax
      go_wp2_with (at_builtin;refine az _ rfl _ _ 118 rfl 0 5 i0 (.int .u8 0) 1 1 Tryz.underlying118 hi W X Y rfl (by decide) (.slice a b.length au) b.length (Lib.byteCells b) rfl ?o1 ⟨w3.heap.size,0,none⟩ 1 1 (by omega) [.int .u8 x.toNat] rfl rfl ?c1 ?c2 ?c3 ?c4 (Nat.zero_le _) ?_)
      case o1=>exact F.o.own.alloc _
      case c1 =>
       intro j u D
       match j,D with
       | 0,D=>simp at D;subst D;simp[Addr.add]
       | j+1,D=>simp at D
      case c2=>intro u hu;simp at hu;subst hu;rfl
      case c3=>unfold maxLen;omega
      case c4=>omega
      intro v' w4 I J g K L M;have dJ:=v.o.size;obtain⟨N,C⟩:=(F.o.alloc _).grow (more:=[x]) (by simp;omega) I J ⟨g,K,L,by simpa using M⟩;have R:=ab ((v.o.trans (Fr.alloc _ _ _)).past C);have S:=ab ((n.o.ae (Fr.alloc Zero w3 _) (fun h=>h)).ae C (by omega));subst L;go_wp2;refine⟨⟨b++[x],V,by simp;omega,by simp[mh],?_,N,S,R⟩,by simp[mh];omega⟩;rw[List.length_append];exact P
   ·have f:Hi (fD 300 [] p=(some b,r1)):=T.o.trans (Dh _ b r r1 hc);go_wp2_with fail;refine(bK H hs 34 hc).mono ?_;rintro e w2 ⟨rfl,(m:Hi _),ao⟩;have i:=ab (HF.o.trans ao);have t:=ab (U.o.ae ao (fun k hk e=>by have e':k=rb:=e;omega));have ac:=t.o.conv;go_wp2;go_ret2;rw[E.o,f.o];exact⟨i,m,ba b,rfl,fun x hx=>by simp at hx;subst hx;rfl⟩
theorem Af{l1:Bs}{h:Nat}(e:gQ l=some (h,l1)):h<16:=(oC e).1
def Gt(ty:TypeId)(w:World)(rb:Nat)(s:ByteArray)(l:Bs)(e:Ending)(w':World):Prop :=
 Fr (One rb) w w'/\((∃ c:Nat,gQ l=none/\RB ty w' rb s l/\e=.returned (.tuple #[.int .u8 c,.bool false]))\/(∃(h:Nat) (r:Bs),gQ l=some (h,r)/\RB ty w' rb s r/\e=.returned (.tuple #[.int .u8 h,.bool true])))
theorem nK{ty:TypeId}(h:RB ty w rb s l)(hs:s.size<=maxLen):
  Calls Tryz.prog 170 #[.pointer (some ⟨rb,0,none⟩)] w fun e w'=>Gt ty w rb s l e w':=by
 by_cases q:∃ b r,l=b::r/\48<=b.toNat/\b.toNat<=57
 ·obtain⟨b,r,rfl,f,g⟩:=q;have m:Hi (gQ (b::r)=some (b.toNat-48,r)):=by show gQ _=_;simp only[gQ];rw[if_pos ⟨f,g⟩]
  have x:(48:Int)<=(b.toNat:Int):=by omega
  have u:(b.toNat:Int)<=57:=by omega
  go_enter Tryz.func170,Tryz.ntmps170;go_wp2_with fail;refine(nd h hs 48 57 (by omega) (by omega)).mono ?_;rintro e v ⟨rfl,(c:Hi _),(d:Hi _)⟩;go_wp2;go_ret2;refine⟨d,.inr ⟨b.toNat-48,r,m,c,?_⟩⟩;rw[show((b.toNat-48:Nat):Int)=(b.toNat:Int)-48 by omega];rfl
 ·have dH:∀ b r,l=b::r->(b.toNat:Int)<48\/(57:Int)<(b.toNat:Int):=fun b r e=>by
   by_cases f:48<=b.toNat
   ·by_cases g:b.toNat<=57
    ·exact(q ⟨b,r,e,f,g⟩).elim
    ·omega
   ·omega
  by_cases i:∃ b r,l=b::r/\97<=b.toNat/\b.toNat<=102
  ·obtain⟨b,r,rfl,f,g⟩:=i;have m:Hi (gQ (b::r)=some (b.toNat-87,r)):=by show gQ _=_;simp only[gQ];rw[if_neg (by omega),if_pos ⟨f,g⟩]
   have x:(97:Int)<=(b.toNat:Int):=by omega
   have u:(b.toNat:Int)<=102:=by omega
   go_enter Tryz.func170,Tryz.ntmps170;go_wp2_with fail;refine(om h hs 48 57 dH).mono ?_;rintro e v ⟨rfl,(c:Hi _),(d:Hi _)⟩;go_wp2_with fail;refine(nd c hs 97 102 (by omega) (by omega)).mono ?_;rintro e y ⟨rfl,(k:Hi _),ao⟩;have j:=ab (d.o.trans ao);go_wp2;go_ret2;refine⟨j,.inr ⟨b.toNat-87,r,m,k,?_⟩⟩;rw[show((b.toNat-87:Nat):Int)=(b.toNat:Int)-97+10 by omega];rfl
  ·have a:∀ b r,l=b::r->(b.toNat:Int)<97\/(102:Int)<(b.toNat:Int):=fun b r e=>by
    by_cases f:97<=b.toNat
    ·by_cases g:b.toNat<=102
     ·exact(i ⟨b,r,e,f,g⟩).elim
     ·omega
    ·omega
   have m:Hi (gQ l=none):=by
    show gQ l=_;cases l with
    | nil=>rfl
    | cons b r =>
     have:=dH b r rfl
     have:=a b r rfl
     simp only[gQ];rw[if_neg (by omega),if_neg (by omega)]
   go_enter Tryz.func170,Tryz.ntmps170;go_wp2_with fail;refine(om h hs 48 57 dH).mono ?_;rintro e v ⟨rfl,(c:Hi _),(d:Hi _)⟩;go_wp2_with fail;refine(om c hs 97 102 a).mono ?_;rintro e y ⟨rfl,(k:Hi _),ao⟩;have j:=ab (d.o.trans ao);go_wp2;go_ret2;exact⟨j,.inl ⟨169,m,k,rfl⟩⟩
theorem Hc:∀ h,h<16->∀ g,g<16->bits BinOp.or IntKind.u8 ((h:Nat)*16:Int) (g:Nat)=((16*h+g:Nat):Int):=by decide +kernel
theorem pj{ty:TypeId}(h:RB ty w rb s l)(hs:s.size<=maxLen):
  Calls Tryz.prog 114 #[.pointer (some ⟨rb,0,none⟩)] w fun e w'=>pD ty w rb s (ep l) e w':=by
 have HR:=ab h;have dG:=h.lt;rcases hc:bz 120 l with _|v
 ·have T:=ab hc;have F:Hi (ep l=(none,l)):=by show ep l=_;unfold ep;rw[hc]
  clear hc h;go_enter Tryz.func114,Tryz.ntmps114;go_wp2_with fail;refine(ck HR hs 120 T).mono ?_;rintro e w1 ⟨rfl,(A:Hi _),(B:Hi _)⟩;go_wp2;go_ret2;rw[F.o];exact⟨B,A,⟨#[]⟩,rfl,fun x hx=>by cases hx⟩
 ·have T:=ab hc;have F:Hi (ep l=js 300 [] v):=by show ep l=_;unfold ep;rw[hc]
  clear hc h;go_enter Tryz.func114,Tryz.ntmps114;go_wp2_with fail;refine(bK HR hs 120 T).mono ?_;rintro e w1 ⟨rfl,(A:Hi _),(B:Hi _)⟩;go_wp2
  go_loopw [4] (fun bv wr=>∃(b r:Bs),b.length<=300/\mh bv=b.length/\Hi (js 300 [] v=js (300-b.length) b r)/\Hi (BO wr w.heap.size bv b)/\Hi (RB ty wr rb s r)/\Hi (Fr (One rb) w wr)) (fun bv _=>300-mh bv)
  case atStart=>exact⟨[],v,by simp,rfl,rfl,BO.nil _ _,A,B⟩
  case round =>
   obtain⟨b,r,af,aX,R,S,J,HF⟩:=hrel;obtain⟨a,au,rfl⟩:=S.o.len;clear aX
   by_cases U:b.length<300
   ·have V:(b.length:Int)<300:=by omega
    go_wp2_with fail;refine(nK J hs).mono ?_;rintro e w2 ⟨ao,⟨c,K,Hf,rfl⟩|⟨x,r2,hY,Hf,rfl⟩⟩
    ·have n:Hi (js 300 [] v=(some b,r)):=R.o.trans (by rw[show 300-b.length=(300-(b.length+1))+1 by omega];simp only[js];rw[K]);have p:=ab Hf;have i:=ab (HF.o.trans ao);have q:=ab (S.o.ae ao (fun k hk e=>by have e':k=rb:=e;omega));have W:=q.o.conv;clear Hf ao K;go_wp2;go_ret2;rw[F.o,n.o];exact⟨i,p,ba b,rfl,fun x hx=>by simp at hx;subst hx;rfl⟩
    ·have p:=ab Hf;have i:=ab (HF.o.trans ao);have q:=ab (S.o.ae ao (fun k hk e=>by have e':k=rb:=e;omega));have HY:=ab hY;have G:=Af hY;clear Hf ao hY;go_wp2_with fail;refine(nK p hs).mono ?_;rintro e w3 ⟨d,⟨c,K,f,rfl⟩|⟨y,r3,C,f,rfl⟩⟩
     ·have n:Hi (js 300 [] v=(none,r2)):=R.o.trans (by rw[show 300-b.length=(300-(b.length+1))+1 by omega];simp only[js];rw[HY.o];simp only[K]);have t:=ab f;have m:=ab (i.o.trans d);clear f d K;go_wp2;go_ret2;rw[F.o,n.o];exact⟨m,t,⟨#[]⟩,rfl,fun x hx=>by cases hx⟩
     ·have n:Hi (js 300 [] v=js (300-(b.length+1)) (b++[UInt8.ofNat (16*x+y)]) r3):=R.o.trans (by rw[show 300-b.length=(300-(b.length+1))+1 by omega];simp only[js];rw[HY.o];simp only[C]);have H:=Af C;have t:=ab f;have m:=ab (i.o.trans d);have I:=ab (q.o.ae d (fun k hk e=>by have e':k=rb:=e;omega));clear f d C;obtain⟨z,hz⟩:∃ z,z=UInt8.ofNat (16*x+y):=⟨_,rfl⟩;have ag:bits BinOp.or IntKind.u8 ((x:Nat)*16:Int) (y:Nat)=(z.toNat:Int):=by rw[Hc x G y H,hz,toNat_ofNat (by omega)]
      rw[<-hz] at n;clear hz;obtain⟨i0,hi,aa,ac,ad⟩:=info_parts Tryz.Ax
      go_wp2_with (at_builtin;refine az _ rfl _ _ 118 rfl 0 5 i0 (.int .u8 0) 1 1 Tryz.underlying118 hi aa ac ad rfl (by decide) (.slice a b.length au) b.length (Lib.byteCells b) rfl ?o1 ⟨w3.heap.size,0,none⟩ 1 1 (by omega) [.int .u8 z.toNat] rfl rfl ?c1 ?c2 ?c3 ?c4 (Nat.zero_le _) ?_)
      case o1=>exact I.o.own.alloc _
      case c1 =>
       intro j u E
       match j,E with
       | 0,E=>simp at E;subst E;simp[Addr.add]
       | j+1,E=>simp at E
      case c2=>intro u hu;simp at hu;subst hu;rfl
      case c3=>unfold maxLen;omega
      case c4=>omega
      intro v' w4 L M g N O P;have dJ:=m.o.size;obtain⟨Q,D⟩:=(I.o.alloc _).grow (more:=[z]) (by simp;omega) L M ⟨g,N,O,by simpa using P⟩;have X:=ab Q;have Y:=ab ((m.o.trans (Fr.alloc _ _ _)).past D);have Z:=ab ((t.o.ae (Fr.alloc Zero w3 _) (fun h=>h)).ae D (by omega));clear Q D L M P;subst O;go_wp2;refine⟨⟨b++[z],r3,by simp;omega,by simp[mh],?_,X,Z,Y⟩,by simp[mh];omega⟩;rw[List.length_append];exact n
   ·have V:¬(b.length:Int)<300:=by omega
    have n:Hi (js 300 [] v=(some b,r)):=R.o.trans (by rw[show 300-b.length=0 by omega];rfl);have W:=S.o.conv;go_wp2;go_ret2;rw[F.o,n.o];exact⟨HF,J,ba b,rfl,fun x hx=>by simp at hx;subst hx;rfl⟩
end Go.Proofs.YtpffifpbpmlhdaaGreatDoor
