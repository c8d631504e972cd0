import Derived.RegionTactic
import Derived.Lib.BufferWrite
import Derived.OwnWalk
import Derived.Test.YtpffifpbpmlhdaaGreatDoorBsDDigs
import Derived.Test.YtpffifpbpmlhdaaGreatDoorBsVInt
set_option maxHeartbeats 32000000
set_option maxRecDepth 100000
namespace Go.Proofs.YtpffifpbpmlhdaaGreatDoor.Q
open Go.RowKit
variable {w w':World}{v fv:Value}{rb yb k:Nat}
structure PF where
 at_:Nat
 takes:Nat
 st:Nat
 data:Bs
structure PR where
 g:Nat
 row:Bs
 fs:List PF
 first:Nat
 next:Nat
 shut:Bool
def fV(f:PF):List Value:=[.int .i64 f.at_,.int .i64 f.takes,.int .i64 f.st]
def cH(l:List PF):List Value:=l.flatMap fV
theorem eO(l:List PF):(cH l).length=l.length*3:=by
 induction l with
 | nil=>rfl
 | cons f l ih=>simp only[cH,List.flatMap_cons,List.length_append] at ih ⊢;rw[ih];simp[fV];omega
theorem zu{l:List PF}{i:Nat}{f:PF}(h:l[i]?=some f):(cH l)[i*3]?=some (.int .i64 f.at_)/\(cH l)[i*3+1]?=some (.int .i64 f.takes)/\(cH l)[i*3+2]?=some (.int .i64 f.st):=by
 induction l generalizing i with
 | nil=>simp at h
 | cons x l ih =>
  have e:cH (x::l)=.int .i64 x.at_::.int .i64 x.takes::.int .i64 x.st::cH l:=rfl;rw[e];rcases i with _|i
  ·simp at h;subst h;exact⟨rfl,rfl,rfl⟩
  ·simp at h;obtain⟨a,b,c⟩:=ih h;rw[show(i+1)*3=i*3+3 by omega];exact⟨a,b,c⟩
def kS(w:World)(v:Value)(l:List PF):Prop :=
 (v=.slice none 0 0/\l=[])\/∃(fb off au:Nat) (cur:Array Value),v=.slice (some ⟨fb,off,none⟩) l.length au/\w.heap[fb]?=some (.cells cur 125 (0,0))/\l.length<=au/\off+au*3<=cur.size/\au<=maxLen/\∀ j u,(cH l)[j]?=some u->cur[off+j]?=some u
def al(v:Value):Option Nat:=match v with
 | .slice (some a) _ _=>some a.block
 | _=>none
theorem kS.ae{X:Nat->Prop}{l:List PF}(h:kS w v l)(hf:Fr X w w')(hx:∀ g,al v=some g->¬X g):kS w' v l:=by
 rcases h with h|⟨c,a,au,b,d,e,f⟩
 ·exact .inl h
 ·exact .inr ⟨c,a,au,b,d,hf.ae e (hx c (by rw[d];rfl)),f⟩
theorem kS.len{l:List PF}(h:kS w v l):∃ a au,v=.slice a l.length au:=by
 rcases h with⟨rfl,rfl⟩|⟨d,b,au,c,rfl,_⟩
 ·exact⟨none,0,rfl⟩
 ·exact⟨_,au,rfl⟩
theorem kS.at_{l:List PF}(h:kS w v l){i:Nat}{f:PF}(hf:l[i]?=some f):∃ fb off au,v=.slice (some ⟨fb,off,none⟩) l.length au/\w.cell? ⟨fb,off+i*3,none⟩=some (.int .i64 f.at_)/\w.cell? ⟨fb,off+i*3+1,none⟩=some (.int .i64 f.takes)/\w.cell? ⟨fb,off+i*3+2,none⟩=some (.int .i64 f.st)/\(∀ o,w.frozen? ⟨fb,o,none⟩=false):=by
 rcases h with⟨_,rfl⟩|⟨fb,off,au,c,rfl,a,_,_,_,b⟩
 ·simp at hf
 ·obtain⟨d,e,g⟩:=zu hf;refine⟨fb,off,au,rfl,?_,?_,?_,fun o=>ak a⟩
  ·rw[cell_of_heap a];exact b _ _ d
  ·rw[cell_of_heap a,Nat.add_assoc];exact b _ _ e
  ·rw[cell_of_heap a,Nat.add_assoc];exact b _ _ g
structure RM(w:World)(rb yb:Nat)(R:PR)(fv:Value):Prop where
 r:w.heap[rb]?=some (.cells #[.slice (some ⟨yb,0,none⟩) (8*R.g) (8*R.g),fv,.int .i64 R.first,.int .i64 R.next,.bool R.shut] 121 (0,0))
 y:w.heap[yb]?=some (.cells (Lib.byteCells R.row).toArray 5 (0,0))
 f:kS w fv R.fs
 g2:2<=R.g
 g64:R.g<=64
 len:R.row.length=8*R.g
section
variable {w w':World} {rb yb:Nat} {R:PR} {fv:Value}
theorem RM.dM(h:RM w rb yb R fv):w.cell? ⟨rb,0,none⟩=some (.slice (some ⟨yb,0,none⟩) (8*R.g) (8*R.g)):=by rw[cell_of_heap h.r];rfl
theorem RM.cE(h:RM w rb yb R fv):w.cell? ⟨rb,1,none⟩=some fv:=by rw[cell_of_heap h.r];rfl
theorem RM.fM(h:RM w rb yb R fv):w.cell? ⟨rb,2,none⟩=some (.int .i64 R.first):=by rw[cell_of_heap h.r];rfl
theorem RM.dw(h:RM w rb yb R fv):w.cell? ⟨rb,3,none⟩=some (.int .i64 R.next):=by rw[cell_of_heap h.r];rfl
theorem RM.gS(h:RM w rb yb R fv):w.cell? ⟨rb,4,none⟩=some (.bool R.shut):=by rw[cell_of_heap h.r];rfl
theorem RM.free(h:RM w rb yb R fv)(o:Nat):w.frozen? ⟨rb,o,none⟩=false:=ak h.r
theorem RM.ne(h:RM w rb yb R fv):¬One yb rb:=fun e=>by
 have e':rb=yb:=e;have h1:=h.r;rw[e',h.y] at h1;simp at h1
theorem RM.I6(h:RM w rb yb R fv){g:Nat}(hg:al fv=some g):¬One yb g:=fun e=>by
 have e':g=yb:=e;rcases h.f with⟨h1,_⟩|⟨fb,off,au,cur,h1,h2,_⟩
 ·rw[h1] at hg;simp[al] at hg
 ·rw[h1] at hg;simp[al] at hg;rw[hg,e',h.y] at h2;simp at h2
theorem RM.zQ(h:RM w rb yb R fv){g:Nat}(hg:al fv=some g):¬One rb g:=fun e=>by
 have e':g=rb:=e;rcases h.f with⟨h1,_⟩|⟨fb,off,au,cur,h1,h2,_⟩
 ·rw[h1] at hg;simp[al] at hg
 ·rw[h1] at hg;simp[al] at hg;rw[hg,e',h.r] at h2;simp at h2
theorem RM.quiet(h:RM w rb yb R fv)(hf:Fr Zero w w'):RM w' rb yb R fv:=⟨hf.ae h.r (fun h=>h),hf.ae h.y (fun h=>h),h.f.ae hf (fun _ _ h=>h),h.g2,h.g64,h.len⟩
end
def a7(n:Nat):Nat:=(n+9)/8
def taken(l:List PF):Nat:=(l.map PF.takes).sum
theorem yi(l:List PF)(k:Nat):taken (l.take k)<=taken l:=by
 unfold taken;have h:l=l.take k++l.drop k:=(List.take_append_drop k l).symm
 have:(l.map PF.takes).sum=((l.take k).map PF.takes).sum+((l.drop k).map PF.takes).sum:=by rw[<-List.sum_append,<-List.map_append,<-h]
 omega
theorem iF(n:Nat)(hn:n<=1000000000000000)(w:World):
  Calls Tryz.prog 56 #[.int .i64 n] w fun e w'=>e=.returned (.int .i64 (a7 n:Nat))/\w'=w:=by
 go_enter Tryz.func56,Tryz.ntmps56;go_wp2_with fail;go_ret;refine⟨?_,rfl⟩;unfold a7
 go_num
theorem dE{R:PR}(h:RM w rb yb R fv):
  Calls Tryz.prog 57 #[.pointer (some ⟨rb,0,none⟩)] w fun e w'=>e=.returned (.int .i64 (R.g:Nat))/\w'=w:=by
 have a:=h.dM;have b:=h.g64;have c:=h.g2;go_enter Tryz.func57,Tryz.ntmps57;go_wp2_with fail;go_ret;refine⟨?_,rfl⟩
 go_num
theorem oq{R:PR}(h:RM w rb yb R fv)(ht:taken R.fs<=1000000)(hl:R.fs.length<=1000000):
  Calls Tryz.prog 59 #[.pointer (some ⟨rb,0,none⟩)] w fun e w'=>e=.returned (.int .i64 (taken R.fs:Nat))/\Fr Zero w w':=by
 have v:=h.cE;obtain⟨s,t,rfl⟩:=h.f.len;go_enter Tryz.func59,Tryz.ntmps59;go_wp2_with fail
 go_loopw [3,11] (fun nv iv wr=>∃ k:Nat,k<=R.fs.length/\nv=.int .i64 (taken (R.fs.take k):Nat)/\iv=.int .i64 k/\Hi (Fr Zero w wr)) (fun _ iv _=>R.fs.length-(intOf iv).toNat)
 case atStart=>exact⟨0,by omega,rfl,rfl,Fr.refl _ _⟩
 case round =>
  obtain⟨k,x,rfl,rfl,j⟩:=hrel;have p:=ab (h.quiet j.o)
  by_cases q:k<R.fs.length
  ·have r:(k:Int)<(R.fs.length:Int):=by omega
   obtain⟨f,l⟩:∃ f,R.fs[k]?=some f:=⟨R.fs[k],by simp⟩;obtain⟨u,m,au,c,y,z,A,_⟩:=p.o.f.at_ l;obtain⟨rfl,_,rfl⟩:s=some ⟨u,m,none⟩/\True/\t=au:=by simp at c;exact⟨c.1,trivial,c.2⟩
   obtain⟨a,b⟩:=List.getElem?_eq_some_iff.1 l
   have n:Hi (taken (R.fs.take (k+1))=taken (R.fs.take k)+f.takes):=by
    show _=_;unfold taken;rw[List.take_succ_eq_append_getElem a,b,List.map_append,List.sum_append];simp
   have d:Hi (taken (R.fs.take (k+1))<=taken R.fs):=yi _ _;have D6:taken (R.fs.take k)+f.takes<=1000000:=by have:=d.o;have:=n.o;omega
   generalize taken (R.fs.take k)=N at *;have g:Hi (Fr Zero w (wr.alloc (.cells #[.int .i64 f.at_,.int .i64 f.takes,.int .i64 f.st] 125))):=j.o.trans (Fr.alloc _ _ _);go_wp2_with fail
   go_roundw
   case rel=>exact⟨k+1,by omega,by rw[n.o];go_num,by go_num,g⟩
   case measure=>simp[intOf];omega
  ·have i:k=R.fs.length:=by omega
   subst i;have r:¬(R.fs.length:Int)<(R.fs.length:Int):=by omega
   rw[List.take_length];go_wp2_with fail;go_ret;exact⟨rfl,j⟩
def aQ(x:Nat)(l:List PF):Nat:=(l.filter (fun f=>decide (f.st=x))).length
theorem uM(x:Nat)(l:List PF)(f:PF):aQ x (l++[f])=aQ x l+(if f.st=x then 1 else 0):=by
 unfold aQ;rw[List.filter_append,List.length_append]
 by_cases h:f.st=x<;>simp[h]
theorem ot{α:Type}{l:List α}{f:α}(h:l[k]?=some f):l.take (k+1)=l.take k++[f]:=by
 obtain⟨a,b⟩:=List.getElem?_eq_some_iff.1 h;rw[List.take_succ_eq_append_getElem a,b]
theorem zA(x:Nat)(l:List PF):aQ x l<=l.length:=List.length_filter_le _ _
theorem iY{R:PR}(h:RM w rb yb R fv)(hl:R.fs.length<=1000000)(x:Nat)(_hx:x<=2):
  Calls Tryz.prog 64 #[.pointer (some ⟨rb,0,none⟩),.int .i64 x] w fun e w'=>e=.returned (.int .i64 (aQ x R.fs:Nat))/\Fr Zero w w':=by
 have v:=h.cE;obtain⟨r,s,rfl⟩:=h.f.len;go_enter Tryz.func64,Tryz.ntmps64;go_wp2_with fail
 go_loopw [5,13] (fun nv iv wr=>∃ k:Nat,k<=R.fs.length/\nv=.int .i64 (aQ x (R.fs.take k):Nat)/\iv=.int .i64 k/\Hi (Fr Zero w wr)) (fun _ iv _=>R.fs.length-(intOf iv).toNat)
 case atStart=>exact⟨0,by omega,rfl,rfl,Fr.refl _ _⟩
 case round =>
  obtain⟨k,y,rfl,rfl,i⟩:=hrel;have n:=ab (h.quiet i.o)
  by_cases p:k<R.fs.length
  ·have q:(k:Int)<(R.fs.length:Int):=by omega
   obtain⟨f,j⟩:∃ f,R.fs[k]?=some f:=⟨R.fs[k],by simp⟩;obtain⟨t,l,au,d,z,A,u,_⟩:=n.o.f.at_ j;obtain⟨rfl,_,rfl⟩:r=some ⟨t,l,none⟩/\True/\s=au:=by simp at d;exact⟨d.1,trivial,d.2⟩
   have c:Hi (aQ x (R.fs.take (k+1))=aQ x (R.fs.take k)+(if f.st=x then 1 else 0)):=by
    show _=_;rw[ot j,uM]
   have pC:aQ x (R.fs.take k)<=k:=Nat.le_trans (zA _ _) (by rw[List.length_take];omega);generalize aQ x (R.fs.take k)=N at *;have a:Hi (Fr Zero w (wr.alloc (.cells #[.int .i64 f.at_,.int .i64 f.takes,.int .i64 f.st] 125))):=i.o.trans (Fr.alloc _ _ _)
   by_cases b:f.st=x
   ·have m:((f.st:Int)==(x:Int))=true:=beq_iff_eq.2 (by omega);rw[if_pos b] at c;rw[b] at a u;go_wp2_with fail
    go_roundw
    case rel=>exact⟨k+1,by omega,by rw[c.o];go_num,by go_num,a⟩
    case measure=>simp[intOf];omega
   ·have m:((f.st:Int)==(x:Int))=false:=beq_eq_false_iff_ne.2 (by omega);rw[if_neg b] at c;go_wp2_with fail
    go_roundw
    case rel=>exact⟨k+1,by omega,by rw[c.o];rfl,by go_num,a⟩
    case measure=>simp[intOf];omega
  ·have g:k=R.fs.length:=by omega
   subst g;have q:¬(R.fs.length:Int)<(R.fs.length:Int):=by omega
   rw[List.take_length];go_wp2_with fail;go_ret;exact⟨rfl,i⟩
def fU(g next IC:Nat):Nat:=if g-next<IC then g-next else 0
theorem Ak{R:PR}(h:RM w rb yb R fv)(hn:R.next<R.g)(n:Nat)(IQ:n<=1000000000000000):
  Calls Tryz.prog 58 #[.pointer (some ⟨rb,0,none⟩),.int .i64 n] w fun e w'=>e=.returned (.int .i64 (fU R.g R.next n:Nat))/\Fr Zero w w':=by
 have c:=h.dw;have i:=h.g64
 by_cases a:R.g-R.next<n
 ·have b:Hi (fU R.g R.next n=R.g-R.next):=if_pos a;have d:(R.g:Int)-(R.next:Int)<(n:Int):=by omega
  go_enter Tryz.func58,Tryz.ntmps58;go_wp2_with fail
  go_region_held3 (fun W=>W.cell? ⟨rb,3,none⟩=some (.int .i64 R.next)) (first|assumption|exact c) (first|(go_at_call 57;refine(dE (h.quiet (Fr.drew _ _))).mono ?_;rintro e f ⟨rfl,rfl⟩))
  all_goals
   go_wp2_with fail;go_ret;rw[b.o];refine⟨?_,Fr.drew _ _⟩;rw[show IntKind.i64.wrap ((R.g:Int)-(R.next:Int))=((R.g-R.next:Nat):Int) by rw[IntKind.wrap_i64];omega]
   try rfl
 ·have b:Hi (fU R.g R.next n=0):=if_neg a;have d:¬(R.g:Int)-(R.next:Int)<(n:Int):=by omega
  go_enter Tryz.func58,Tryz.ntmps58;go_wp2_with fail
  go_region_held3 (fun W=>W.cell? ⟨rb,3,none⟩=some (.int .i64 R.next)) (first|assumption|exact c) (first|(go_at_call 57;refine(dE (h.quiet (Fr.drew _ _))).mono ?_;rintro e f ⟨rfl,rfl⟩))
  all_goals
   go_wp2_with fail;go_ret;rw[b.o];exact⟨rfl,Fr.drew _ _⟩
def dL(R:PR)(n:Int):Option Nat:=if n<R.first\/(R.fs.length:Int)<=n-R.first then none else
 match R.fs[(n-R.first).toNat]? with
 | some f=>if f.st=1 then some (n-R.first).toNat else none
 | none=>none
theorem qF{R:PR}(h:RM w rb yb R fv)(hl:R.fs.length<=1000000)(nM:1<=R.first)(jt:R.first<=3000000000000)(n:Int)(eQ:-9223372036854775808<=n)(ka:n<=9223372036854775807):
  Calls Tryz.prog 63 #[.pointer (some ⟨rb,0,none⟩),.int .i64 n] w fun e w'=>(∃ i:Int,e=.returned (.tuple #[.int .i64 i,.bool (dL R n).isSome])/\∀ j,dL R n=some j->i=j)/\Fr Zero w w':=by
 have y:=h.cE;have z:=h.fM;obtain⟨t,u,rfl⟩:=h.f.len
 by_cases b:n<R.first
 ·have a:Hi (dL R n=none):=if_pos (.inl b);go_enter Tryz.func63,Tryz.ntmps63;go_wp2_with fail
  go_quiet (fail)
  go_wp2_with fail;go_ret2;rw[a.o];exact⟨⟨_,rfl,fun j h=>by simp at h⟩,Fr.drewN _ _ _⟩
 ·have m:decide (n<(R.first:Int))=false:=decide_eq_false b
  by_cases c:(R.fs.length:Int)<=n-R.first
  ·have a:Hi (dL R n=none):=if_pos (.inr c);go_enter Tryz.func63,Tryz.ntmps63;go_wp2_with fail
   go_quiet (fail)
   go_wp2_with fail;go_ret2;rw[a.o];exact⟨⟨_,rfl,fun j h=>by simp at h⟩,Fr.drewN _ _ _⟩
  ·obtain⟨i,r⟩:∃ i:Nat,n-R.first=i:=⟨(n-R.first).toNat,by omega⟩;have p:decide ((R.fs.length:Int)<=n-R.first)=false:=decide_eq_false c;obtain⟨f,k⟩:∃ f,R.fs[i]?=some f:=⟨R.fs[i]'(by omega),by simp⟩;obtain⟨v,l,au,g,C,D,x,_⟩:=h.f.at_ k;obtain⟨rfl,_,rfl⟩:t=some ⟨v,l,none⟩/\True/\u=au:=by simp at g;exact⟨g.1,trivial,g.2⟩
   have a:Hi (dL R n=if f.st=1 then some i else none):=by
    show _=_;unfold dL;rw[if_neg (by omega),r];simp only[Int.toNat_natCast,k]
   have A:(i:Int)<(R.fs.length:Int):=by omega
   have s:n=R.first+i:=by omega
   subst s;have q:(R.first:Int)+(i:Int)-R.first=i:=by omega
   by_cases d:f.st=1
   ·rw[if_pos d] at a;rw[d] at x;go_enter Tryz.func63,Tryz.ntmps63;go_wp2_with fail
    go_quiet (fail)
    go_wp2_with fail
    go_quiet (fail)
    go_wp2_with fail;go_ret2;rw[a.o];exact⟨⟨_,rfl,fun j h=>by simp at h;omega⟩,(Fr.drewN _ _ _).trans (Fr.drewN _ _ _)⟩
   ·rw[if_neg d] at a;have B:((f.st:Int)==1)=false:=beq_eq_false_iff_ne.2 (by omega);go_enter Tryz.func63,Tryz.ntmps63;go_wp2_with fail
    go_quiet (fail)
    go_wp2_with fail
    go_quiet (fail)
    go_wp2_with fail;go_ret2;rw[a.o];exact⟨⟨_,rfl,fun j h=>by simp at h⟩,(Fr.drewN _ _ _).trans (Fr.drewN _ _ _)⟩
theorem AH(f:PF)(w:World):
  Calls Tryz.prog 62 #[.agg #[.int .i64 f.at_,.int .i64 f.takes,.int .i64 f.st]] w fun e w'=>e=.returned (.bool (decide (f.st=0)))/\Fr Zero w w':=by
 by_cases a:f.st=0
 ·rw[a];go_enter Tryz.func62,Tryz.ntmps62;go_wp2_with fail;go_ret;exact⟨rfl,Fr.alloc _ _ _⟩
 ·have b:((f.st:Int)==0)=false:=beq_eq_false_iff_ne.2 (by omega);have hd:decide (f.st=0)=false:=decide_eq_false a;rw[hd];go_enter Tryz.func62,Tryz.ntmps62;go_wp2_with fail;go_ret;exact⟨rfl,Fr.alloc _ _ _⟩
def iI(l:List PF):Option Nat:=l.findIdx? (fun f=>decide (f.st=0))
def G7(o:Option Nat):Int:=match o with
 | some i=>i
 | none=>-1
theorem jn{α:Type}{l:List α}{q:α->Bool}{x:α}(hx:l[k]?=some x)(hq:q x=true)(hn:∀ j y,j<k->l[j]?=some y->q y=false):l.findIdx? q=some k:=by
 obtain⟨a,b⟩:=List.getElem?_eq_some_iff.1 hx;rw[List.findIdx?_eq_some_iff_getElem];refine⟨a,by rw[b];exact hq,fun j hj=>?_⟩
 have:=hn j l[j] hj (by simp)
 rw[this];simp
theorem jm{α:Type}{l:List α}{q:α->Bool}(hn:∀ j y,j<l.length->l[j]?=some y->q y=false):l.findIdx? q=none:=by
 rw[List.findIdx?_eq_none_iff];intro x b;obtain⟨j,a,e⟩:=List.mem_iff_getElem.1 b;exact hn j x a (by rw[List.getElem?_eq_getElem a,e])
theorem rT{l:List PF}(h:kS w v l)(hl:l.length<=1000000):
  Calls Tryz.prog 61 #[v,.func (Fn.func 62) #[] #[]] w fun e w'=>e=.returned (.int .i64 (G7 (iI l)))/\Fr Zero w w':=by
 obtain⟨x,z,rfl⟩:=h.len;go_enter Tryz.func61,Tryz.ntmps61;go_wp2_with fail
 go_loopw [8] (fun i wr=>∃ k:Nat,k<=l.length/\i=.int .i64 k/\Hi (∀(j:Nat) (y:PF),j<k->l[j]?=some y->decide (y.st=0)=false)/\Hi (Fr Zero w wr)) (fun i _=>l.length-(intOf i).toNat)
 case atStart=>exact⟨0,by omega,rfl,fun j q hj=>by omega,Fr.refl _ _⟩
 case round =>
  obtain⟨k,B,rfl,n,p⟩:=hrel
  by_cases t:k<l.length
  ·have u:(k:Int)<(l.length:Int):=by omega
   obtain⟨f,r⟩:∃ f,l[k]?=some f:=⟨l[k],by simp⟩;obtain⟨A,s,au,d,C,D,E,_⟩:=(h.ae p.o (fun _ _ h=>h)).at_ r;obtain⟨rfl,_,rfl⟩:x=some ⟨A,s,none⟩/\True/\z=au:=by simp at d;exact⟨d.1,trivial,d.2⟩
   go_wp2_with fail;refine(AH f _).mono ?_;rintro e F ⟨rfl,c⟩;have b:=ab (p.o.trans c);rcases hq:decide (f.st=0) with _|_
   ·go_wp2_with fail;refine⟨⟨k+1,by omega,by go_num,fun j y hj hy=>?_,b⟩,by simp[intOf];omega⟩
    by_cases e:j=k
    ·subst e;rw[r] at hy;cases hy;exact hq
    ·exact n j y (by omega) hy
   ·go_wp2_with fail;go_ret;refine⟨?_,b⟩;unfold iI;rw[jn (q:=fun f:PF=>decide (f.st=0)) r hq n];rfl
  ·have m:k=l.length:=by omega
   subst m;have u:¬(l.length:Int)<(l.length:Int):=by omega
   go_wp2_with fail;go_ret;refine⟨?_,p⟩;unfold iI;rw[jm (q:=fun f:PF=>decide (f.st=0)) n];rfl
def putRow(row:Bs)(o:Nat)(x:Bs):Bs:=row.take o++x++row.drop (o+x.length)
def mX(n:Nat):Bs:=[UInt8.ofNat n,UInt8.ofNat (n/256)]
theorem Bh(p s d:Bs)(u v b0 b1:UInt8):putRow (p++u::v::s) p.length ([b0,b1]++d)=p++[b0,b1]++d++s.drop d.length:=by
 unfold putRow;rw[List.take_left,show p.length+([b0,b1]++d).length=p.length+(d.length+1+1) by simp,<-List.drop_drop,List.drop_left];simp
theorem Fu(row:Bs)(o:Nat)(d:Bs)(b0 b1:UInt8)(h:o+2+d.length<=row.length):
  ((((Lib.byteCells row).set o (.int .u8 b0.toNat)).set (o+1) (.int .u8 b1.toNat)).take (o+2)++Lib.byteCells d++(((Lib.byteCells row).set o (.int .u8 b0.toNat)).set (o+1) (.int .u8 b1.toNat)).drop (o+2+d.length))=Lib.byteCells (putRow row o ([b0,b1]++d)):=by
 obtain⟨p,q,rfl,f⟩:∃ p q,row=p++q/\p.length=o:=⟨row.take o,row.drop o,(List.take_append_drop o row).symm,by rw[List.length_take];omega⟩;subst f;rw[List.length_append] at h;rcases q with _|⟨u,_|⟨v,s⟩⟩
 ·simp at h;omega
 ·simp at h;omega
 ·rw[Bh]
  have e:(((Lib.byteCells (p++u::v::s)).set p.length (.int .u8 b0.toNat)).set (p.length+1) (.int .u8 b1.toNat))=Lib.byteCells (p++[b0,b1])++Lib.byteCells s:=by
   have b:Lib.byteCells (p++u::v::s)=Lib.byteCells p++.int .u8 u.toNat::.int .u8 v.toNat::Lib.byteCells s:=by simp[Lib.byteCells]
   have c:p.length=(Lib.byteCells p).length:=by simp[Lib.byteCells]
   rw[b,c,List.set_append_right _ _ (Nat.le_refl _),List.set_append_right _ _ (by omega),Nat.sub_self,show(Lib.byteCells p).length+1-(Lib.byteCells p).length=1 by omega];simp[Lib.byteCells]
  have a:p.length+2=(Lib.byteCells (p++[b0,b1])).length:=by simp[Lib.byteCells]
  rw[e,a,List.take_left,<-List.drop_drop,List.drop_left];simp[Lib.byteCells,List.map_drop]
theorem AB{R:PR}(h:RM w rb yb R fv)(at_:Nat)(data:ByteArray)(ph:8*at_+2+data.size<=8*R.g):
  Calls Tryz.prog 60 #[.pointer (some ⟨rb,0,none⟩),.int .i64 at_,.string data] w fun e w'=>e=.returned (.tuple #[])/\RM w' rb yb { R with row:=putRow R.row (8*at_) (mX data.size++data.data.toList) } fv/\Fr (One yb) w w':=by
 have C:=h.dM;have s:=h.g64;have v:=h.len;have l:=h.y;have D:∀ o,w.frozen? ⟨yb,o,none⟩=false:=fun o=>ak l
 have x:((at_:Int)*8)<=((8*R.g:Nat):Int):=by omega
 have a:∀ o,o<8*R.g->∃ b:UInt8,w.cell? ⟨yb,o,none⟩=some (.int .u8 b.toNat):=fun o ho=>by
  rw[cell_of_heap l];obtain⟨b,B⟩:∃ b,R.row[o]?=some b:=⟨R.row[o]'(by omega),by simp⟩;exact⟨b,by simp[Lib.byteCells,B]⟩
 obtain⟨E,F⟩:=a (at_*8) (by omega);obtain⟨G,I⟩:=a (at_*8+1) (by omega);have dJ:data.size<=512:=by omega
 go_enter Tryz.func60,Tryz.ntmps60;have t:Hi ((((data.size:Int)%256)=((UInt8.ofNat data.size).toNat:Int))/\(((data.size:Int)/256)=((UInt8.ofNat (data.size/256)).toNat:Int))):=⟨by simp,by simp;omega⟩;obtain⟨c,d⟩:∃ c,c=(((Lib.byteCells R.row).toArray.setIfInBounds (at_*8) (.int .u8 ((data.size:Int)%256))).setIfInBounds (at_*8+1) (.int .u8 ((data.size:Int)/256))):=⟨_,rfl⟩
 have m:((w.setCell ⟨yb,at_*8,none⟩ (.int .u8 ((data.size:Int)%256))).setCell ⟨yb,at_*8+1,none⟩ (.int .u8 ((data.size:Int)/256))).heap[yb]?=some (.cells c 5 (0,0)):=by
  rw[d];exact heap_setCell_same (heap_setCell_same l)
 have z:c.size=8*R.g:=by rw[d];simp[Lib.byteCells,v]
 have i:=Lib.run_copy_row_string (P:=Tryz.prog) ((w.setCell ⟨yb,at_*8,none⟩ (.int .u8 ((data.size:Int)%256))).setCell ⟨yb,at_*8+1,none⟩ (.int .u8 ((data.size:Int)/256))) 118 9 3 5 yb (at_*8+2) (8*R.g-at_*8-2) (8*R.g-at_*8-2) data c 5 Tryz.underlying118 (by kernel_rfl) m (by omega) (by omega)
 have u:Hi ((c.toList.take (at_*8+2)++Lib.byteCells data.data.toList++c.toList.drop (at_*8+2+data.size)).toArray=(Lib.byteCells (putRow R.row (8*at_) (mX data.size++data.data.toList))).toArray):=by
  have:=Fu R.row (at_*8) data.data.toList (UInt8.ofNat data.size) (UInt8.ofNat (data.size/256)) (by rw[Array.length_toList];show _+_+data.size<=_;omega)
  rw[Array.length_toList] at this;show _=_;rw[d,t.o.1,t.o.2,Nat.mul_comm 8 at_];simp only[Array.toList_setIfInBounds];exact congrArg List.toArray this
 rw[u.o] at i;generalize j:putRow R.row (8*at_) (mX data.size++data.data.toList)=row' at *
 have n:Hi (row'.length=8*R.g):=by
  show _=_;rw[<-j];unfold putRow;simp only[List.length_append,List.length_take,List.length_drop,mX,List.length_cons,List.length_nil,Array.length_toList];have e:data.data.size=data.size:=rfl;omega
 go_wp2_with fail
 go_end0
 have p:=setRow_heap _ yb _ (Lib.byteCells row').toArray 5 _ m
 have q:Fr (One yb) w (((w.setCell ⟨yb,at_*8,none⟩ (.int .u8 ((data.size:Int)%256))).setCell ⟨yb,at_*8+1,none⟩ (.int .u8 ((data.size:Int)/256))).setRow yb (Lib.byteCells row').toArray) :=
  ((Fr.setCell (One yb) w ⟨yb,at_*8,none⟩ _ rfl).trans (Fr.setCell (One yb) _ ⟨yb,at_*8+1,none⟩ _ rfl)).trans ⟨rfl,rfl,rfl,by simp,fun k _ hk=>setRow_other _ yb k _ hk⟩
 refine⟨rfl,⟨q.ae h.r h.ne,p,h.f.ae q (fun g s e=>h.I6 s e),h.g2,h.g64,n.o⟩,q⟩
def iG(row:Bs)(at_:Nat)(d:Bs):Prop:=∃ p s,row=p++mX d.length++d++s/\p.length=8*at_
theorem G2:∀ n,n<=1000->bits BinOp.or IntKind.i64 ((n:Nat)%256:Int) ((n:Nat)/256*256:Int)=((n:Nat):Int):=by decide +kernel
theorem Ce{R:PR}(h:RM w rb yb R fv)(at_:Nat)(d:Bs)(iz:iG R.row at_ d)(hd:d.length<=1000):
  Calls Tryz.prog 70 #[.pointer (some ⟨rb,0,none⟩),.int .i64 at_] w fun e w'=>e=.returned (.slice (some ⟨yb,at_*8+2,none⟩) d.length (8*R.g-at_*8-2))/\Fr Zero w w':=by
 obtain⟨p,s,aE,o⟩:=iz;have q:=h.len;have BS:=congrArg List.length aE;simp only[List.length_append,mX,List.length_cons,List.length_nil] at BS;have r:=h.dM;have t:=h.g64
 have c:w.cell? ⟨yb,at_*8,none⟩=some (.int .u8 ((UInt8.ofNat d.length).toNat:Nat)):=by
  rw[cell_of_heap h.y];simp only[Lib.byteCells,List.getElem?_toArray,List.getElem?_map];rw[aE,show at_*8=p.length by omega];simp[mX]
 have f:w.cell? ⟨yb,at_*8+1,none⟩=some (.int .u8 ((UInt8.ofNat (d.length/256)).toNat:Nat)):=by
  rw[cell_of_heap h.y];simp only[Lib.byteCells,List.getElem?_toArray,List.getElem?_map];rw[aE,show at_*8+1=p.length+1 by omega];simp[mX]
 have a:(UInt8.ofNat d.length).toNat=d.length%256:=by simp
 have b:(UInt8.ofNat (d.length/256)).toNat=d.length/256:=by simp;omega
 rw[a] at c;rw[b] at f;have i:((at_:Int)*8)<=((8*R.g:Nat):Int):=by omega
 have j:(0:Int)<((8*R.g-at_*8:Nat):Int):=by omega
 have k:(1:Int)<((8*R.g-at_*8:Nat):Int):=by omega
 have l:2+(d.length:Int)<=((8*R.g-at_*8:Nat):Int):=by omega
 have m:(2:Int)<=2+(d.length:Int):=by omega
 have ka:0<8*R.g-at_*8:=by omega
 have n:bits BinOp.or IntKind.i64 ((d.length:Int)%256) ((d.length:Int)/256*256)=(d.length:Int):=G2 d.length hd;go_enter Tryz.func70,Tryz.ntmps70;go_wp2_with fail
 go_quiet (fail)
 go_wp2_with fail;go_ret;refine⟨?_,Fr.drewN _ _ _⟩;simp only[Nat.add_sub_cancel_left];rfl
def px(v:Value):Nat->Prop:=fun k=>al v=some k
theorem nN(l:List PF)(f:PF):cH (l++[f])=cH l++fV f:=by simp[cH]
theorem A0{n:Nat}(f:PF){t:TypeId}(h:w.heap[n]?=some (.cells #[.int .i64 f.at_,.int .i64 f.takes,.int .i64 f.st] t (0,0))):Src Tryz.prog 3 119 (.slice (some ⟨n,0,none⟩) 1 1) 1 (fV f) w:=by
 refine Src.ofSlice w Tryz.underlying119 _ _ _ _ rfl (fun j u hj=>?_) (fun u hu=>?_)
 ·have e:(⟨n,0,none⟩:Addr).add j=⟨n,j,none⟩:=by simp[Addr.add];omega
  rw[e,cell_of_heap h];simpa[fV] using hj
 ·simp[fV] at hu;rcases hu with rfl|rfl|rfl<;>rfl
theorem Ie:(Tryz.prog.info? 125).map (fun i=>(i.zero,i.size,i.bytes))=some (some (.agg #[.int .i64 0,.int .i64 0,.int .i64 0]),3,24):=by kernel_rfl
theorem vQ{l:List PF}(h:kS w v l)(tx ty:TypeId)(x:Value)(f:PF)(hs:Src Tryz.prog 3 tx x 1 (fV f) w)(hl:l.length<=1000000):
  ∃ v' w',(Builtin.append_ #[119,tx] ty #[v,x]).run Tryz.prog w=.ok v' w'/\kS w' v' (l++[f])/\Fr (px v) w w'/\∀ k,k<w.heap.size->al v'=some k->al v=some k:=by
 obtain⟨i,G,I,b,C⟩:=info_parts Ie;have F:Tryz.prog.underlying 119=some (.slice 125):=Tryz.underlying119;have g:=hs;rw[<-b] at g;have jt:(fV f).length=3:=rfl
 have m:∀(d:Option Addr) (au:Nat),au<l.length+1->v=.slice d l.length au->(Builtin.firstCells i.size l.length (.slice d l.length au)).run Tryz.prog w.drew=.ok (cH l).toArray w.drew ->
   ∃ v' w',(Builtin.append_ #[119,tx] ty #[v,x]).run Tryz.prog w=.ok v' w'/\kS w' v' (l++[f])/\Fr (px v) w w'/\∀ k,k<w.heap.size->al v'=some k->al v=some k:=by
  intro d au p D s;subst D;have t:=run_append_grow_src (P:=Tryz.prog) w 119 tx ty 125 i _ F G I d l.length au (cH l) s x 1 (fV f) g p (by omega) (by rw[C];exact growslice_fits p (by omega));have y:=grownCap_ge w (l.length+1) au 125;have z:grownCap w (l.length+1) au 125<=maxLen:=grownCap_le_maxLen w (l.length+1) au 125 (by unfold maxLen;omega);refine⟨_,_,t,.inr ⟨w.heap.size,0,grownCap w (l.length+1) au 125,_,by rw[List.length_append];rfl,heap_alloc_new w.drew _,by rw[List.length_append];exact y,?_,z,fun j u hj=>?_⟩,⟨rfl,rfl,rfl,by simp,fun k r _=>Below.heap_alloc w.drew _ _ r⟩,fun k r e=>by simp[al] at e;omega⟩
  ·simp only[Array.size_append,List.size_toArray,size_zeroCells,List.length_append,eO,jt,Value.cells];simp;omega
  ·rw[nN] at hj;rw[Nat.zero_add];have A:j<(cH l++fV f).length:=(List.getElem?_eq_some_iff.1 hj).1;rw[Array.getElem?_append_left (by simpa using A)];simpa using hj
 rcases h with⟨rfl,rfl⟩|⟨o,a,au,c,rfl,E,K,L,J,H⟩
 ·exact m none 0 (by simp) rfl (run_firstCells_none w.drew i.size 0 0 0)
 ·by_cases n:l.length+1<=au
  ·have ph:a+l.length*i.size+(fV f).length<=c.size:=by rw[jt,b];omega
   have iz:=run_storeCells_at Tryz.prog o (a+l.length*i.size) 125 (fV f) 0 c w E (by simpa using ph) hs.one;simp only[Nat.add_zero] at iz
   have t:(Builtin.append_ #[119,tx] ty #[.slice (some ⟨o,a,none⟩) l.length au,x]).run Tryz.prog w=.ok (.slice (some ⟨o,a,none⟩) (l.length+1) au) (w.setRow o (c.toList.take (a+l.length*i.size)++fV f++c.toList.drop (a+l.length*i.size+(fV f).length)).toArray):=by
    rcases g.kind with⟨M,r⟩|r<;>simp[Builtin.append_,run_underlying F,run_underlying r,sizeOf,typeInfo,G,g.len,n,g.cells,Addr.add_lit,iz]
   refine⟨_,_,t,.inr ⟨o,a,au,_,by rw[List.length_append];rfl,setRow_heap w o c _ 125 _ E,by rw[List.length_append];exact n,?_,J,fun j u hj=>?_⟩,⟨rfl,rfl,rfl,by simp,fun k _ r=>setRow_other w o k _ (fun e=>r (by subst e;rfl))⟩,fun k _ e=>by simpa[al] using e⟩
   ·simp only[List.size_toArray,List.length_append,List.length_take,List.length_drop,Array.length_toList];omega
   ·rw[nN] at hj;rw[b] at ph ⊢
    have pC:(c.toList.take (a+l.length*3)).length=a+l.length*3:=by
     have e:c.toList.length=c.size:=Array.length_toList;rw[List.length_take,e];exact Nat.min_eq_left (by omega)
    rw[List.getElem?_toArray];rcases Nat.lt_or_ge j (l.length*3) with q|q
    ·rw[List.getElem?_append_left (by rw[List.length_append,pC];omega),List.getElem?_append_left (by rw[pC];omega),List.getElem?_take_of_lt (by omega)];rw[List.getElem?_append_left (by rw[eO];exact q)] at hj;rw[Array.getElem?_toList];exact H j u hj
    ·rw[List.getElem?_append_right (by rw[eO];exact q),eO] at hj;have B:j-l.length*3<(fV f).length:=(List.getElem?_eq_some_iff.1 hj).1;rw[jt] at B;rw[List.getElem?_append_left (by rw[List.length_append,pC,jt];omega),List.getElem?_append_right (by rw[pC];omega),pC,show a+j-(a+l.length*3)=j-l.length*3 by omega];exact hj
  ·exact m _ au (by omega) rfl (run_firstCells_some w.drew i.size l.length _ _ _ (cH l) (by rw[eO,b]) (fun j u hj=>by
    have e:(⟨o,a,none⟩:Addr).add j=⟨o,a+j,none⟩:=by simp[Addr.add]
    rw[e];show w.cell? _=_;rw[cell_of_heap E]
    exact H j u hj))
theorem pG{oU:Array Oper}{rest:List Oper}{o:Oper}{a:Act}{Q:Exit->Act->World->Prop}
  (hg:o.guard=none) (s x:Operand) (tx:TypeId) (hop:o.op=Op.call { callee:=Callee.builtin Builtin.append,args:=#[s,x],argTypes:=#[119,tx] })
  {sv xv:Value} {l:List PF} (f:PF) (hs:a.eval s=sv) (hx:a.eval x=xv) (h:kS w sv l) (hsrc:Src Tryz.prog 3 tx xv 1 (fV f) w) (hl:l.length<=1000000)
  (hK:∀ v' w',kS w' v' (l++[f])->Fr (px sv) w w'->(∀ k,k<w.heap.size->al v'=some k->al sv=some k)->wpList Tryz.prog oU Q rest (a.put o.dst v') w') :
  wpList Tryz.prog oU Q (o::rest) a w:=by
 refine wpList_plain hg fun K hK'=>?_
 obtain⟨v',w',b,c,d,e⟩:=vQ h tx o.type xv f hsrc hl;unfold Oper.wp;simp[execOp,hop,resolve,invoke,builtin,hs,hx,b,Result.andThen];exact hK' _ _ (hK v' w' c d e)
def RX(w:World)(rb yb:Nat):Nat->Prop:=fun k=>k=rb\/k=yb\/∃ v,w.cell? ⟨rb,1,none⟩=some v/\al v=some k
structure iA(rb yb:Nat)(w w':World):Prop where
 fr:Fr (RX w rb yb) w w'
 own:∀ k,k<w.heap.size->RX w' rb yb k->RX w rb yb k
theorem iA.refl(rb yb:Nat)(w:World):iA rb yb w w:=⟨Fr.refl _ _,fun _ _ h=>h⟩
theorem iA.trans{a b c:World}(h:iA rb yb a b)(k:iA rb yb b c):iA rb yb a c :=
 ⟨⟨k.fr.os.trans h.fr.os,k.fr.tape.trans h.fr.tape,k.fr.output.trans h.fr.output,Nat.le_trans h.fr.size k.fr.size,fun i hi hx=>(k.fr.block i (Nat.lt_of_lt_of_le hi h.fr.size) (fun e=>hx (h.own i hi e))).trans (h.fr.block i hi hx)⟩,
  fun i hi e=>h.own i hi (k.own i (Nat.lt_of_lt_of_le hi h.fr.size) e)⟩
theorem iA.quiet(hf:Fr Zero w w')(hb:rb<w.heap.size):iA rb yb w w' :=
 ⟨hf.dV,fun k _ h=>by
  have e:=hf.cell (a:=⟨rb,1,none⟩) hb (fun h=>h);unfold RX at h ⊢;rw[e] at h
  exact h⟩
theorem RM.lt{R:PR}(h:RM w rb yb R fv):rb<w.heap.size:=lt_of_heap h.r
theorem RX.of{R:PR}(h:RM w rb yb R fv)(hk:RX w rb yb k):k=rb\/k=yb\/al fv=some k:=by
 rcases hk with e|e|⟨v,a,b⟩
 ·exact .inl e
 ·exact .inr (.inl e)
 ·rw[h.cE] at a;simp at a;subst a;exact .inr (.inr b)
theorem iA.of{R R':PR}{fh:Value}(h:RM w rb yb R fv)(h':RM w' rb yb R' fh)(hf:Fr (fun k=>k=rb\/k=yb\/al fv=some k) w w')(hv:∀ k,k<w.heap.size->al fh=some k->al fv=some k):iA rb yb w w':=by
 refine⟨hf.mono (fun k _ e=>?_),fun k hk e=>?_⟩
 ·rcases e with e|e|e
  ·exact .inl e
  ·exact .inr (.inl e)
  ·exact .inr (.inr ⟨fv,h.cE,e⟩)
 ·rcases RX.of h' e with e|e|e
  ·exact .inl e
  ·exact .inr (.inl e)
  ·exact .inr (.inr ⟨fv,h.cE,hv k hk e⟩)
theorem RM.Cm{R:PR}{fh:Value}{GG:List PF}(h:RM w rb yb R fv)(hF:kS w' fh GG)(hf:Fr (px fv) w w')(hv:∀ k,k<w.heap.size->al fh=some k->al fv=some k):
  RM (w'.setCell ⟨rb,1,none⟩ fh) rb yb { R with fs:=GG } fh/\iA rb yb w (w'.setCell ⟨rb,1,none⟩ fh):=by
 have c:w'.heap[rb]?=_:=hf.ae h.r (fun e=>h.zQ e rfl);have i:w'.heap[yb]?=_:=hf.ae h.y (fun e=>h.I6 e rfl);have a:Fr (One rb) w' (w'.setCell ⟨rb,1,none⟩ fh):=Fr.setCell _ _ _ _ rfl
 have d:RM (w'.setCell ⟨rb,1,none⟩ fh) rb yb { R with fs:=GG } fh:=by
  refine⟨?_,a.ae i (fun e=>h.ne (by have b:yb=rb:=e;exact b.symm)),hF.ae a (fun g hg e=>?_),h.g2,h.g64,h.len⟩
  ·rw[heap_setCell_same c];rfl
  ·have b:g=rb:=e;rcases hF with⟨q,_⟩|⟨n,j,au,l,m,f,_⟩
   ·rw[q] at hg;simp[al] at hg
   ·rw[m] at hg;simp[al] at hg;rw[hg,b,c] at f;simp at f
 refine⟨d,iA.of h d ((hf.mono (fun k _ e=>.inr (.inr e))).trans (a.mono (fun k _ e=>.inl e))) hv⟩
theorem RM.Gy{R:PR}(h:RM w rb yb R fv)(n:Nat):RM (w.setCell ⟨rb,3,none⟩ (.int .i64 n)) rb yb { R with next:=n } fv/\iA rb yb w (w.setCell ⟨rb,3,none⟩ (.int .i64 n)):=by
 have a:Fr (One rb) w (w.setCell ⟨rb,3,none⟩ (.int .i64 n)):=Fr.setCell _ _ _ _ rfl;have b:RM (w.setCell ⟨rb,3,none⟩ (.int .i64 n)) rb yb { R with next:=n } fv:=⟨by rw[heap_setCell_same h.r];rfl,a.ae h.y (fun e=>h.ne (by have c:yb=rb:=e;exact c.symm)),h.f.ae a (fun g hg e=>h.zQ hg e),h.g2,h.g64,h.len⟩;exact⟨b,iA.of h b (a.mono (fun k _ e=>.inl e)) (fun _ _ e=>e)⟩
def putAt(R:PR)(n:Nat):Nat:=(R.next+fU R.g R.next n)%R.g
def eu(R:PR)(data:Bs):Nat×PR :=
 if R.shut then(12,R) else
 if R.g<2*a7 data.length then(9,R) else
 if R.g<taken R.fs+fU R.g R.next (a7 data.length)+a7 data.length then(10,R) else
  (0,{ R with row:=putRow R.row (8*putAt R (a7 data.length)) (mX data.length++data),fs:=R.fs++[⟨putAt R (a7 data.length),fU R.g R.next (a7 data.length)+a7 data.length,0,data⟩],next:=(putAt R (a7 data.length)+a7 data.length)%R.g })
theorem p9{R:PR}{n:Nat}(hn:R.next<R.g)(h2:2*n<=R.g):putAt R n+n<=R.g:=by
 unfold putAt fU
 split
 ·rw[show R.next+(R.g-R.next)=R.g by omega,Nat.mod_self];omega
 ·rw[Nat.add_zero,Nat.mod_eq_of_lt hn];omega
structure Tidy(R:PR):Prop where
 next:R.next<R.g
 taken:taken R.fs<=R.g
 len:R.fs.length<=64
theorem lX{R:PR}(h:RM w rb yb R fv)(hT:Tidy R)(data:ByteArray)(hd:data.size<=1000000000000000):
  Calls Tryz.prog 39 #[.pointer (some ⟨rb,0,none⟩),.string data] w fun e w'=>e=.returned (.int .i64 (eu R data.data.toList).1)/\iA rb yb w w'/\∃ fh,RM w' rb yb (eu R data.data.toList).2 fh:=by
 have h4:=h.gS;have H:=ab h;have p:=ab hT;have z:=h.lt;have s:data.data.toList.length=data.size:=by rw[Array.length_toList];rfl
 cases hs:R.shut with
 | true =>
  have j:Hi (eu R data.data.toList=(12,R)):=if_pos hs;rw[hs] at h4;go_enter Tryz.func39,Tryz.ntmps39;go_wp2_with fail;go_ret;rw[j.o];exact⟨rfl,iA.refl _ _ _,fv,H.o⟩
 | false =>
  rw[hs] at h4;have Hb:=H.o.g64;have il:a7 data.size<=1000000000000000:=by unfold a7;omega
  have HN:Hi (data.size+2<=8*a7 data.size):=by show _<=_;unfold a7;omega
  by_cases M:R.g<2*a7 data.size
  ·have j:Hi (eu R data.data.toList=(9,R)):=ab (by unfold eu;rw[s,if_neg (by rw[hs];decide),if_pos M]);go_enter Tryz.func39,Tryz.ntmps39;go_wp2_with fail;refine(iF data.size hd _).mono ?_;rintro e x ⟨rfl,d⟩;obtain rfl:=d.symm;generalize a7 data.size=N at *;have hI:(R.g:Int)<2*(N:Int):=by omega
   go_wp2_with fail;refine(dE H.o).mono ?_;rintro e x ⟨rfl,d⟩;obtain rfl:=d.symm;go_wp2_with fail;go_ret;rw[j.o];exact⟨rfl,iA.refl _ _ _,fv,H.o⟩
  ·have HG:Hi (fU R.g R.next (a7 data.size)<=R.g):=by show _<=_;unfold fU;split<;>omega
   have ad:=p.o.taken;have B:=ab (p9 p.o.next (Nat.le_of_not_lt M))
   by_cases O:R.g<taken R.fs+fU R.g R.next (a7 data.size)+a7 data.size
   ·have j:Hi (eu R data.data.toList=(10,R)):=ab (by unfold eu;rw[s,if_neg (by rw[hs];decide),if_neg M,if_pos O]);have t:fU R.g R.next (a7 data.size)<=R.g:=HG.o;go_enter Tryz.func39,Tryz.ntmps39;go_wp2_with fail;refine(iF data.size hd _).mono ?_;rintro e x ⟨rfl,d⟩;obtain rfl:=d.symm;generalize a7 data.size=N at *;go_wp2_with fail;refine(dE H.o).mono ?_;rintro e x ⟨rfl,d⟩;obtain rfl:=d.symm;go_wp2_with fail;refine(Ak H.o p.o.next N (by omega)).mono ?_;rintro e x ⟨rfl,(i:Hi _)⟩;have u:=ab (H.o.quiet i);obtain⟨G,l⟩:∃ G,fU R.g R.next N=G:=⟨_,rfl⟩;rw[l] at t O ⊢
    try rw[l] at j
    have C:=ab l;go_wp2_with fail;refine(dE u.o).mono ?_;rintro e q ⟨rfl,e2⟩;obtain rfl:=e2.symm;go_wp2_with fail;refine(oq u.o (by omega) (by have:=p.o.len;omega)).mono ?_;rintro e q ⟨rfl,ao⟩;have v:=ab (i.o.trans ao);have D:=ab (u.o.quiet ao);generalize taken R.fs=T at *;have Q:(R.g:Int)-(T:Int)<(G:Int)+(N:Int):=by omega
    go_wp2_with fail;go_ret;rw[j.o];exact⟨rfl,iA.quiet v.o z,fv,D.o⟩
   ·have j:Hi (eu R data.data.toList=(0,{ R with row:=putRow R.row (8*putAt R (a7 data.size)) (mX data.size++data.data.toList),fs:=R.fs++[⟨putAt R (a7 data.size),fU R.g R.next (a7 data.size)+a7 data.size,0,data.data.toList⟩],next:=(putAt R (a7 data.size)+a7 data.size)%R.g })):=ab (by unfold eu;rw[s,if_neg (by rw[hs];decide),if_neg M,if_neg O]);have t:fU R.g R.next (a7 data.size)<=R.g:=HG.o;go_enter Tryz.func39,Tryz.ntmps39;go_wp2_with fail;refine(iF data.size hd _).mono ?_;rintro e x ⟨rfl,d⟩;obtain rfl:=d.symm;generalize a7 data.size=N at *;go_wp2_with fail;refine(dE H.o).mono ?_;rintro e x ⟨rfl,d⟩;obtain rfl:=d.symm;go_wp2_with fail;refine(Ak H.o p.o.next N (by omega)).mono ?_;rintro e x ⟨rfl,(i:Hi _)⟩;have u:=ab (H.o.quiet i);obtain⟨G,l⟩:∃ G,fU R.g R.next N=G:=⟨_,rfl⟩;rw[l] at t O ⊢
    try rw[l] at j
    have C:=ab l;go_wp2_with fail;refine(dE u.o).mono ?_;rintro e q ⟨rfl,e2⟩;obtain rfl:=e2.symm;go_wp2_with fail;refine(oq u.o (by omega) (by have:=p.o.len;omega)).mono ?_;rintro e q ⟨rfl,ao⟩;have v:=ab (i.o.trans ao);have D:=ab (u.o.quiet ao);generalize taken R.fs=T at *;have Q:¬(R.g:Int)-(T:Int)<(G:Int)+(N:Int):=by omega
    have n3:=D.o.dw;have ag:=p.o.next;have ah:=H.o.g2;have ai:¬((R.g:Int)=0):=by omega
    have aj:¬R.g=0:=by omega
    have mi:(0:Int)<=(R.next:Int)+(G:Int):=by omega
    have U:IntKind.i64.wrap ((R.next:Int)+(G:Int))=(R.next:Int)+(G:Int):=by rw[IntKind.wrap_i64];omega
    have V:((R.next:Int)+(G:Int)).tmod (R.g:Int)=((putAt R N:Nat):Int):=by
     rw[Int.tmod_eq_emod_of_nonneg mi];unfold putAt;rw[C.o];simp
    have al:=B.o;generalize putAt R N=A at *;go_wp2_with fail;refine wp_region_held_drew (S:=fun W=>W=q.drew) (by kernel_rfl) rfl (fun hT=>?_);refine wt 0 rfl ?_
    refine wt 1 rfl ?_
    refine wt 2 rfl ?_
    refine wt 3 rfl ?_
    refine wt 4 rfl ?_
    refine wt 5 rfl ?_
    refine wt 6 rfl ?_
    refine wpAnyH_ready (rs:=[7]) (by kernel_rfl) (by simp) ?_;refine wc 7 (fun K hK=>?_) AllReadyH.nil
    go_simp
    refine(dE (D.o.quiet (Fr.drew Zero q))).mono ?_;rintro e w3 ⟨rfl,e3⟩;obtain rfl:=e3.symm;go_wp2_with fail;refine hK.out _ _ rfl (fun _=>?_)
    refine wt 8 rfl ?_
    refine wt 9 rfl ?_
    refine wpAnyH_done (by kernel_rfl) ?_ _;have Y:=ab (v.o.trans (Fr.drew Zero q));have H3:=ab (D.o.quiet (Fr.drew Zero q));generalize q.drew=w3 at *;go_wp2_with fail;refine(AB H3.o A data (by have:=HN.o;omega)).mono ?_;rintro e P ⟨rfl,(m:Hi _),J⟩;have Z:=ab (iA.of H3.o m (J.mono (fun k _ e=>.inr (.inl e))) (fun _ _ e=>e));have k1:=m.o.cE;have E:Hi (Fr Zero P (P.alloc (.cells #[.int .i64 A,.int .i64 ((G:Int)+(N:Int)),.int .i64 0] 125))):=Fr.alloc _ _ _;have b:=ab (m.o.quiet E.o);have aa:Hi (Src Tryz.prog 3 119 (.slice (some ⟨P.heap.size,0,none⟩) 1 1) 1 (fV ⟨A,G+N,0,data.data.toList⟩) (P.alloc (.cells #[.int .i64 A,.int .i64 ((G:Int)+(N:Int)),.int .i64 0] 125))):=A0 ⟨A,G+N,0,data.data.toList⟩ (af rfl _);have jt:=p.o.len;obtain⟨fa,fc,rfl⟩:=b.o.f.len
    go_wp2_with (at_builtin;refine pG rfl (.tmp 49) (.tmp 55) 119 rfl ⟨A,G+N,0,data.data.toList⟩ rfl rfl b.o.f aa.o ?hl6 ?_)
    case hl6=>show R.fs.length<=_;omega
    intro v6 w6 y n L;have HE:=ab (b.o.Cm y n (by simpa using L));have q1:w6.cell? ⟨rb,1,none⟩=_:=(n.cell (a:=⟨rb,1,none⟩) b.o.lt (fun e=>b.o.zQ e rfl)).trans b.o.cE;have q2:w6.frozen? ⟨rb,1,none⟩=false:=ak (n.ae b.o.r (fun e=>b.o.zQ e rfl));obtain⟨va,vc,rfl⟩:=y.len;go_wp2_with fail;have c:=ab HE.o.1;have F:=ab ((((iA.quiet Y.o z).trans Z.o).trans (iA.quiet E.o m.o.lt)).trans HE.o.2);simp only[List.length_append,List.length_cons,List.length_nil,Nat.zero_add] at c F;refine(dE c.o).mono ?_;rintro e w7 ⟨rfl,e7⟩;obtain rfl:=e7.symm;generalize w6.setCell ⟨rb,1,none⟩ (.slice va (R.fs.length+1) vc)=w7 at *;have k3:=c.o.dw;have am:=c.o.free 3;have I:=ab (c.o.Gy ((A+N)%R.g));have ac:((A:Int)+(N:Int))%(R.g:Int)=(((A+N)%R.g:Nat):Int):=by simp
    generalize (A+N)%R.g=X at *;go_wp2_with fail;go_ret;rw[j.o];exact⟨rfl,F.o.trans I.o.2,_,I.o.1⟩
end Go.Proofs.YtpffifpbpmlhdaaGreatDoor.Q
