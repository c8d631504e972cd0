import Derived.LaidEql
import Derived.Stop.Asserts
import Derived.RowKitTokens
import Derived.Test.YtpffifpbpmlhdaaGreatDoorBsParse
set_option maxHeartbeats 32000000
set_option maxRecDepth 100000
namespace Go.Proofs.YtpffifpbpmlhdaaGreatDoor
open Go.RowKit Go.Extern.Stop Go.Stop Go.Extern
variable {s:ByteArray}{n:Nat}
theorem Hq(t:Value)(w:World):
  Calls Tryz.prog 76 #[.nilIface,t] w fun e w'=>e=.returned (.bool false)/\w'=w:=by
 go_enter Tryz.func76,Tryz.ntmps76
 go_wp2
 go_ret;exact⟨rfl,rfl⟩
theorem xO(t:Addr)(w:World):(ReflectliteValue.unpack (.iface 154 (.pointer (some t)))).run Tryz.prog w
  = .ok (.agg #[.pointer (some ⟨8,154,none⟩),.pointer (some ⟨w.heap.size,0,none⟩),.int .u64 150]) (w.alloc (.cells #[.pointer (some t)] 154)):=by kernel_rfl
theorem ED(a:Addr)(w:World):(ReflectliteValue.methodAny (ReflectliteValue.valueError "reflectlite.Value.Type" 0) (fun t _ _ _=>ReflectliteType.toType t) #[.agg #[.pointer (some ⟨8,154,none⟩),.pointer (some a),.int .u64 150]]).run Tryz.prog w
  = .ok (.iface 249 (.agg #[.pointer (some ⟨8,154,none⟩)])) w:=by kernel_rfl
theorem uU(h:Value)(w:World):(Go.method 444 249 (.agg #[h]) "Kind").run Tryz.prog w=.ok (234,h) w:=by kernel_rfl
theorem EH(w:World):((ReflectliteType.abiMethod fun t=>(fun a:Nat=>Value.int IntKind.u8 (a:Int)) <$> Rtype.kind t) #[.pointer (some ⟨8,154,none⟩)]).run Tryz.prog w=.ok (.int .u8 22) w:=by kernel_rfl
theorem Gm(w:World):((ReflectliteType.abiMethod fun t=>(fun a:Nat=>Value.int IntKind.u8 (a:Int)) <$> Rtype.kind t) #[.pointer (some ⟨8,152,none⟩)]).run Tryz.prog w=.ok (.int .u8 22) w:=by kernel_rfl
theorem tF(a:Addr)(w:World):(ReflectliteValue.parts (.agg #[.pointer (some ⟨8,154,none⟩),.pointer (some a),.int .u64 150])).run Tryz.prog w=.ok (some (154,a,150)) w:=by kernel_rfl
theorem Gn(a p:Addr)(W:World)(ha:W.cell? a=some (.pointer (some p))):
  (ReflectliteValue.method (ReflectliteValue.valueError "reflectlite.Value.IsNil" 0) ReflectliteValue.isNil #[.agg #[.pointer (some ⟨8,154,none⟩),.pointer (some a),.int .u64 150]]).run Tryz.prog W=.ok (.bool false) W:=by
 rw[show ReflectliteValue.method (ReflectliteValue.valueError "reflectlite.Value.IsNil" 0) ReflectliteValue.isNil #[.agg #[.pointer (some ⟨8,154,none⟩),.pointer (some a),.int .u64 150]]=bind (ReflectliteValue.parts (.agg #[.pointer (some ⟨8,154,none⟩),.pointer (some a),.int .u64 150])) (fun q=>_) from rfl];simp only[Sem.run_bind,tF,Result.andThen];simp[ReflectliteValue.isNil,loadVar,isAgg,underlying,Tryz.underlying154,ha,Result.andThen]
theorem uV(h:Value)(w:World):(Go.method 444 249 (.agg #[h]) "Elem").run Tryz.prog w=.ok (244,.agg #[h]) w:=by kernel_rfl
theorem m6(h:Value)(w:World):(Go.method 444 249 (.agg #[h]) "Implements").run Tryz.prog w=.ok (245,.agg #[h]) w:=by kernel_rfl
theorem lJ(h:Value)(w:World):(Go.method 444 249 (.agg #[h]) "AssignableTo").run Tryz.prog w=.ok (242,.agg #[h]) w:=by kernel_rfl
theorem Hs(w:World):(ReflectliteType.method ReflectliteType.elem #[.agg #[.pointer (some ⟨8,154,none⟩)]]).run Tryz.prog w=.ok (.iface 249 (.agg #[.pointer (some ⟨8,152,none⟩)])) w:=by kernel_rfl
theorem uW(w:World):(ReflectliteType.relation "Implements" ReflectliteType.implements_ #[.agg #[.pointer (some ⟨8,152,none⟩)],.iface 249 (.agg #[.pointer (some ⟨8,149,none⟩)])]).run Tryz.prog w=.ok (.bool true) w:=by kernel_rfl
theorem EE(v:Value)(w:World):(ReflectliteType.typeOf #[.iface 152 v]).run Tryz.prog w=.ok (.iface 249 (.agg #[.pointer (some ⟨8,152,none⟩)])) w:=by kernel_rfl
theorem uX(w:World):(ReflectliteType.relation "AssignableTo" ReflectliteType.assignableTo #[.agg #[.pointer (some ⟨8,152,none⟩)],.iface 249 (.agg #[.pointer (some ⟨8,152,none⟩)])]).run Tryz.prog w=.ok (.bool true) w:=by kernel_rfl
theorem zH(e:Addr)(w:World):(ReflectliteValue.unpack (.iface 152 (.pointer (some e)))).run Tryz.prog w
  = .ok (.agg #[.pointer (some ⟨8,152,none⟩),.pointer (some ⟨w.heap.size,0,none⟩),.int .u64 150]) (w.alloc (.cells #[.pointer (some e)] 152)):=by kernel_rfl
theorem EI(w:World):(Rtype.elem? 154).run Tryz.prog w=.ok (some 152) w:=by kernel_rfl
theorem I1(p:Addr)(w:World):(ReflectliteValue.mk 152 p ReflectliteValue.flagAddr).run Tryz.prog w=.ok (.agg #[.pointer (some ⟨8,152,none⟩),.pointer (some p),.int .u64 406]) w:=by kernel_rfl
theorem Gp(a p:Addr)(W:World)(ha:W.cell? a=some (.pointer (some p))):
  (ReflectliteValue.method (ReflectliteValue.valueError "reflectlite.Value.Elem" 0) ReflectliteValue.elem #[.agg #[.pointer (some ⟨8,154,none⟩),.pointer (some a),.int .u64 150]]).run Tryz.prog W
   = .ok (.agg #[.pointer (some ⟨8,152,none⟩),.pointer (some p),.int .u64 406]) W:=by
 rw[show ReflectliteValue.method (ReflectliteValue.valueError "reflectlite.Value.Elem" 0) ReflectliteValue.elem #[.agg #[.pointer (some ⟨8,154,none⟩),.pointer (some a),.int .u64 150]]=bind (ReflectliteValue.parts (.agg #[.pointer (some ⟨8,154,none⟩),.pointer (some a),.int .u64 150])) (fun q=>_) from rfl];simp only[Sem.run_bind,tF,Result.andThen];simp[ReflectliteValue.elem,loadVar,isAgg,underlying,Tryz.underlying154,ha,Result.andThen,EI,I1]
theorem EG(a:Addr)(w:World):(ReflectliteValue.parts (.agg #[.pointer (some ⟨8,152,none⟩),.pointer (some a),.int .u64 406])).run Tryz.prog w=.ok (some (152,a,406)) w:=by kernel_rfl
theorem EF(a:Addr)(w:World):(ReflectliteValue.parts (.agg #[.pointer (some ⟨8,152,none⟩),.pointer (some a),.int .u64 150])).run Tryz.prog w=.ok (some (152,a,150)) w:=by kernel_rfl
theorem EJ(w:World):(Rtype.directlyAssignable 152 152).run Tryz.prog w=.ok true w:=by kernel_rfl
theorem Ik(ta b e:Addr)(old:Value)(W:World)(hb:W.cell? b=some (.pointer (some e)))(ht:W.cell? ta=some old)(hf:W.frozen? ta=false):
  (ReflectliteValue.set #[.agg #[.pointer (some ⟨8,152,none⟩),.pointer (some ta),.int .u64 406],.agg #[.pointer (some ⟨8,152,none⟩),.pointer (some b),.int .u64 150]]).run Tryz.prog W
   = .ok (.tuple #[]) (W.setCell ta (.pointer (some e))):=by
 rw[show ReflectliteValue.set #[.agg #[.pointer (some ⟨8,152,none⟩),.pointer (some ta),.int .u64 406],.agg #[.pointer (some ⟨8,152,none⟩),.pointer (some b),.int .u64 150]]=bind (ReflectliteValue.parts (.agg #[.pointer (some ⟨8,152,none⟩),.pointer (some ta),.int .u64 406])) (fun p=>bind (ReflectliteValue.parts (.agg #[.pointer (some ⟨8,152,none⟩),.pointer (some b),.int .u64 150])) (fun q=>_)) from rfl];simp only[Sem.run_bind,EG,EF,Result.andThen];simp[ReflectliteValue.flagAddr,loadVar,isAgg,underlying,Tryz.underlying152,hb,Result.andThen,EJ,storeVar,Value.cells,storeCells,Addr.add];rw[run_store Tryz.prog W ta _ _ (by rfl)];simp[ht,hf]
theorem Hr(e t:Addr)(old:Value)(w:World)(hg:w.cell? ⟨0,0,none⟩=some (.iface 249 (.agg #[.pointer (some ⟨8,149,none⟩)])))(Ix:w.cell? t=some old)(Jm:w.frozen? t=false):
  Calls Tryz.prog 76 #[.iface 152 (.pointer (some e)),.iface 154 (.pointer (some t))] w fun ev w'=>ev=.returned (.bool true)/\w'=((((w.alloc (.cells #[.pointer (some t)] 154)).alloc (.cells #[.pointer (some ⟨8,154,none⟩),.pointer (some ⟨w.heap.size,0,none⟩),.int .u64 150] 202)).alloc (.cells #[.pointer (some ⟨8,154,none⟩),.pointer (some ⟨w.heap.size,0,none⟩),.int .u64 150] 202)).alloc (.cells #[.pointer (some e)] 152)).setCell t (.pointer (some e)):=by
 have r:=@run_callFunc_extern Tryz.prog 103 _ (fun args=>ReflectliteValue.unpack (args.getD 0 (.tuple #[]))) Tryz.func103 (by kernel_rfl) (by kernel_rfl) (by kernel_rfl) (by kernel_rfl);have s:=@run_callFunc_extern Tryz.prog 104 _ (ReflectliteValue.methodAny (ReflectliteValue.valueError "reflectlite.Value.Type" 0) (fun t _ _ _=>ReflectliteType.toType t)) Tryz.func104 (by kernel_rfl) (by kernel_rfl) (by kernel_rfl) (by kernel_rfl);have u:=@run_callFunc_extern Tryz.prog 105 _ (ReflectliteValue.method (ReflectliteValue.valueError "reflectlite.Value.IsNil" 0) ReflectliteValue.isNil) Tryz.func105 (by kernel_rfl) (by kernel_rfl) (by kernel_rfl) (by kernel_rfl);have c:=@run_callFunc_extern Tryz.prog 234 _ (ReflectliteType.abiMethod fun t=>do pure (.int .u8 (<-Rtype.kind t))) Tryz.func234 (by kernel_rfl) (by kernel_rfl) (by kernel_rfl) (by kernel_rfl);have d:=@run_callFunc_extern Tryz.prog 244 _ (ReflectliteType.method ReflectliteType.elem) Tryz.func244 (by kernel_rfl) (by kernel_rfl) (by kernel_rfl) (by kernel_rfl);have f:=@run_callFunc_extern Tryz.prog 245 _ (ReflectliteType.relation "Implements" ReflectliteType.implements_) Tryz.func245 (by kernel_rfl) (by kernel_rfl) (by kernel_rfl) (by kernel_rfl);have g:=@run_callFunc_extern Tryz.prog 154 _ (ReflectliteType.typeOf) Tryz.func154 (by kernel_rfl) (by kernel_rfl) (by kernel_rfl) (by kernel_rfl);have h:=@run_callFunc_extern Tryz.prog 242 _ (ReflectliteType.relation "AssignableTo" ReflectliteType.assignableTo) Tryz.func242 (by kernel_rfl) (by kernel_rfl) (by kernel_rfl) (by kernel_rfl);have i:=@run_callFunc_extern Tryz.prog 155 _ (ReflectliteValue.method (ReflectliteValue.valueError "reflectlite.Value.Elem" 0) ReflectliteValue.elem) Tryz.func155 (by kernel_rfl) (by kernel_rfl) (by kernel_rfl) (by kernel_rfl);have j:=@run_callFunc_extern Tryz.prog 156 _ (ReflectliteValue.set) Tryz.func156 (by kernel_rfl) (by kernel_rfl) (by kernel_rfl) (by kernel_rfl);have v:=EE;have x:=lJ;have k:=uX;have l:=zH;have y:=xO;have z:=ED;have A:=uU;have B:=uV;have C:=m6;have m:=EH;have n:=Gm;have o:=Hs;have p:=uW;have D:=Gn ⟨w.heap.size,0,none⟩ t ((w.alloc (.cells #[.pointer (some t)] 154)).alloc (.cells #[.pointer (some ⟨8,154,none⟩),.pointer (some ⟨w.heap.size,0,none⟩),.int .u64 150] 202)) (by simp);have b:0<w.heap.size:=World.block_lt_of_cell? w _ hg
 have q:((w.alloc (.cells #[.pointer (some t)] 154)).alloc (.cells #[.pointer (some ⟨8,154,none⟩),.pointer (some ⟨w.heap.size,0,none⟩),.int .u64 150] 202)).cell? ⟨0,0,none⟩=some (.iface 249 (.agg #[.pointer (some ⟨8,149,none⟩)])):=by
  rw[World.cell?_alloc_lt _ _ ⟨0,0,none⟩ (by simp),World.cell?_alloc_lt _ _ ⟨0,0,none⟩ b];exact hg
 have a:t.block<w.heap.size:=World.block_lt_of_cell? w _ Ix;have E:=Gp ⟨w.heap.size,0,none⟩ t (((w.alloc (.cells #[.pointer (some t)] 154)).alloc (.cells #[.pointer (some ⟨8,154,none⟩),.pointer (some ⟨w.heap.size,0,none⟩),.int .u64 150] 202)).alloc (.cells #[.pointer (some ⟨8,154,none⟩),.pointer (some ⟨w.heap.size,0,none⟩),.int .u64 150] 202)) (by rw[World.cell?_alloc_lt _ _ ⟨w.heap.size,0,none⟩ (by simp;omega)];simp)
 have F:=Ik t ⟨w.heap.size+1+1+1,0,none⟩ e old ((((w.alloc (.cells #[.pointer (some t)] 154)).alloc (.cells #[.pointer (some ⟨8,154,none⟩),.pointer (some ⟨w.heap.size,0,none⟩),.int .u64 150] 202)).alloc (.cells #[.pointer (some ⟨8,154,none⟩),.pointer (some ⟨w.heap.size,0,none⟩),.int .u64 150] 202)).alloc (.cells #[.pointer (some e)] 152))
  (by rw[World.cell?_alloc_at _ _ _ _ (by simp)];rfl)
  (by rw[World.cell?_alloc_lt _ _ t (by simp;omega),World.cell?_alloc_lt _ _ t (by simp;omega),World.cell?_alloc_lt _ _ t (by simp;omega),World.cell?_alloc_lt _ _ t a];exact Ix)
  (by rw[World.frozen?_alloc_old _ _ t (by simp;omega),World.frozen?_alloc_old _ _ t (by simp;omega),World.frozen?_alloc_old _ _ t (by simp;omega),World.frozen?_alloc_old _ _ t (Nat.ne_of_lt a)];exact Jm)
 go_enter Tryz.func76,Tryz.ntmps76
 go_wp2
 refine wp_loop_rounds 1 ?_;rw[rounds_succ]
 go_wp2
 go_ret;exact⟨rfl,rfl⟩
open Go.RowKit
def m8(w:World):Prop:=w.cell? ⟨0,0,none⟩=some (.iface 249 (.agg #[.pointer (some ⟨8,149,none⟩)]))
theorem m8.ae{w w':World}{X:Nat->Prop}(h:m8 w)(hf:Fr X w w')(hx:¬X 0):m8 w' :=
 (hf.cell (a:=⟨0,0,none⟩) (World.block_lt_of_cell? w _ h) hx).trans h
theorem kl(h:(aL s).1=0):aL s=(0,0):=by
 unfold aL at h ⊢
 split at h
 ·cases h
 ·split at h
  ·cases h
  ·split at h
   ·cases h
   ·split at h
    ·cases h
    ·rw[if_neg (by assumption),if_neg (by assumption)]
theorem Hp(e:Addr)(tb:Nat)(w:World)(hg:m8 w)(ht:w.heap[tb]?=some (.cells #[.pointer none] 152 (0,0))):
  Calls Tryz.prog 76 #[.iface 152 (.pointer (some e)),.iface 154 (.pointer (some ⟨tb,0,none⟩))] w fun ev w'=>ev=.returned (.bool true)/\Fr (One tb) w w'/\w'.heap[tb]?=some (.cells #[.pointer (some e)] 152 (0,0)):=by
 refine(Hr e ⟨tb,0,none⟩ (.pointer none) w hg (by rw[cell_of_heap ht];rfl) (ak ht)).mono ?_;rintro ev w' ⟨rfl,rfl⟩
 have a:Fr (One tb) w ((((w.alloc (.cells #[.pointer (some ⟨tb,0,none⟩)] 154)).alloc (.cells #[.pointer (some ⟨8,154,none⟩),.pointer (some ⟨w.heap.size,0,none⟩),.int .u64 150] 202)).alloc (.cells #[.pointer (some ⟨8,154,none⟩),.pointer (some ⟨w.heap.size,0,none⟩),.int .u64 150] 202)).alloc (.cells #[.pointer (some e)] 152)) :=
  (Fr.alloc _ _ _).trans ((Fr.alloc _ _ _).trans ((Fr.alloc _ _ _).trans (Fr.alloc _ _ _)))
 have b:Fr Zero w ((((w.alloc (.cells #[.pointer (some ⟨tb,0,none⟩)] 154)).alloc (.cells #[.pointer (some ⟨8,154,none⟩),.pointer (some ⟨w.heap.size,0,none⟩),.int .u64 150] 202)).alloc (.cells #[.pointer (some ⟨8,154,none⟩),.pointer (some ⟨w.heap.size,0,none⟩),.int .u64 150] 202)).alloc (.cells #[.pointer (some e)] 152)) :=
  (Fr.alloc _ _ _).trans ((Fr.alloc _ _ _).trans ((Fr.alloc _ _ _).trans (Fr.alloc _ _ _)))
 refine⟨rfl,a.trans (Fr.setCell (One tb) _ ⟨tb,0,none⟩ _ rfl),?_⟩;rw[heap_setCell_same (b.ae ht (fun h=>h))];rfl
theorem Bl(s:ByteArray)(w:World)(hw:Words w)(hs:s.size<=maxLen):Calls Tryz.prog 75 #[.string s] w fun e w'=>oJ w s e w':=by
 by_cases h:400<s.size
 ·exact yM s w h hs
 ·exact wz s w (by omega) hw
theorem pP(s:ByteArray)(w:World)(hw:Words w)(GC:m8 w)(hs:s.size<=maxLen):
  Calls Tryz.prog 54 #[.string s] w fun e w'=>Fr Zero w w'/\∃ a:Option Addr,e=.returned (.tuple #[.pointer a,.int .i64 (aL s).1,.int .i64 (aL s).2])/\(aL s=(0,0)->∃ a',a=some a'/\TR w' Zero a' (iJ s)):=by
 go_enter Tryz.func54,Tryz.ntmps54;go_wp2_with fail;refine(Bl s _ hw hs).mono ?_;rintro e d ⟨n,dq,dH⟩
 by_cases j:(aL s).1=0
 ·have r:=kl j;obtain⟨a,rfl,A⟩:=dq r;go_wp2_with fail;refine(Hq _ _).mono ?_;rintro e m ⟨rfl,rfl⟩;go_wp2_with fail;go_ret3;rw[r];exact⟨n.trans (Fr.alloc _ _ _),some a,rfl,fun _=>⟨a,rfl,A.ae (Fr.alloc _ _ _)⟩⟩
 ·obtain⟨b,rfl,p⟩:=dH (aL s).1 (aL s).2 rfl j;have kV:=lt_of_heap p;have u:=ab ((GC.ae n (fun h=>h)).ae (Fr.alloc Zero d (.cells #[.pointer none] 152)) (fun h=>h));have y:d.cell? ⟨b,0,none⟩=some (.int .i64 (aL s).1):=by rw[cell_of_heap p];rfl
  have z:d.cell? ⟨b,1,none⟩=some (.int .i64 (aL s).2):=by rw[cell_of_heap p];rfl
  have g:Hi (∃ c,c=(aL s).1):=⟨_,rfl⟩;generalize l:(aL s).1=c1 at *;generalize ju:(aL s).2=c2 at *;have g:=ab l;go_wp2_with fail;refine(Hp ⟨b,0,none⟩ d.heap.size _ u (af rfl _)).mono ?_;rintro e m ⟨rfl,ao,Cp⟩;have i:¬One d.heap.size b:=fun e=>by have F:b=d.heap.size:=e;omega
  have f:=(Fr.alloc (One d.heap.size) d (.cells #[.pointer none] 152)).trans ao;have H:m.cell? ⟨b,0,none⟩=some (.int .i64 c1):=(f.cell (a:=⟨b,0,none⟩) kV i).trans y;have I:m.cell? ⟨b,1,none⟩=some (.int .i64 c2):=(f.cell (a:=⟨b,1,none⟩) kV i).trans z;have J:m.cell? ⟨d.heap.size,0,none⟩=some (.pointer (some ⟨b,0,none⟩)):=by rw[cell_of_heap Cp];rfl
  have x:Hi (Fr Zero w m):=n.past (f.mono (fun k _ e=>by have F:k=d.heap.size:=e;have:=n.size;omega));go_wp2_with fail
  go_quiet (fail)
  go_wp2_with fail;go_ret3;rw[g.o,ju];refine⟨x.o.trans (Fr.drewN _ _ _),none,rfl,fun h=>?_⟩;have G:(aL s).1=0:=by rw[h]
  exact absurd (g.o.symm.trans G) j
theorem c8.mono:∀(k:Nat) (t:PT),c8 k t->∀ k',k<=k'->c8 k' t:=by
 intro k
 induction k with
 | zero=>intro t h;exact h.elim
 | succ k ih =>
  intro t h k' b;obtain⟨a,rfl⟩:∃ a,k'=a+1:=⟨k' - 1,by omega⟩;exact⟨h.1,h.2.1,fun u hu=>ih u (h.2.2.1 u hu) a (by omega),h.2.2.2⟩
def Ao(t:PT):Prop:=c8 t.depth t
def Lets(n:ByteArray):Prop:=n.size<=400/\∀ b∈n.data.toList,97<=b.toNat/\b.toNat<=122
theorem rQ(s:ByteArray):∀(k n:Nat),ah s n k<=n+k:=by
 intro k
 induction k with
 | zero=>intro n;exact Nat.le_refl _
 | succ k ih =>
  intro n;rw[ah]
  split
  ·have:=ih (n+1);omega
  ·omega
theorem my(s:ByteArray):∀(k n i:Nat),n<=i->i<ah s n k->97<=aq s i/\aq s i<=122:=by
 intro k
 induction k with
 | zero=>intro n i b a;simp[ah] at a;omega
 | succ k ih =>
  intro n i b a;rw[ah] at a
  split at a
  ·rename_i c
   by_cases e:i=n
   ·subst e;exact c
   ·exact ih (n+1) i (by omega) a
  ·omega
theorem wV(s:ByteArray)(n:Nat):Lets (ax s n):=by
 have c:=rQ s 6 n;constructor
 ·unfold ax;rw[ByteArray.size_extract];omega
 ·intro b h;obtain⟨i,f,j⟩:=List.getElem_of_mem h;have a:i<(ax s n).size:=by rw[Array.length_toList] at f;exact f
  have d:n+i<ah s n 6/\n+i<s.size:=by
   unfold ax at a;rw[ByteArray.size_extract] at a;omega
  have e:=my s 6 n (n+i) (by omega) d.1;rw[f9 d.2] at e
  have g:b=s[n+i]:=by
   rw[<-j]
   have:(ax s n).data.toList[i]=(ax s n)[i]:=rfl
   rw[this];unfold ax;exact ByteArray.getElem_extract _
  rw[g];exact e
theorem orElse_none{b:Option Nat}:orElse b n≠none:=by cases b<;>simp[orElse]
theorem nG{br:List ByteArray}{bad:Option Nat}(h:di s br n bad=none):bad=none/\ax s n∉br:=by
 unfold di at h
 split at h
 ·exact absurd h orElse_none
 ·rename_i a;refine⟨h,fun hm=>a ?_⟩;rw[List.any_eq_true];exact⟨_,hm,by simp⟩
def Good(rd:Nat->Option Nat->lN):Prop:=∀ n bad,(rd n bad).ok=true->(rd n bad).bad=none->bad=none/\Ao (rd n bad).t
theorem je{rd:Nat->Option Nat->lN}(iW:Good rd)(s:ByteArray)(br:List ByteArray)(de n:Nat)(bad:Option Nat)(h1:(aM rd s br de n bad).ok=true)(h2:(aM rd s br de n bad).bad=none):
  bad=none/\ax s n∉br/\Ao (aM rd s br de n bad).t:=by
 unfold aM at h1 h2 ⊢
 split at h1
 ·cases h1
 ·rename_i a;rw[if_neg a] at h2;rw[if_neg a]
  split at h1
  ·rename_i b;rw[if_pos b] at h2;rw[if_pos b];obtain⟨c,d⟩:=iW _ _ h1 h2;obtain⟨e,f⟩:=nG c;exact⟨e,f,d⟩
  ·cases h1
theorem wZ:∀(l:List (ByteArray×PT)) (q:ByteArray×PT),q∈l->q.2.depth<=maxDepth l:=by
 have b:∀(m:List Nat) (a x:Nat),(x∈m\/x<=a)->x<=m.foldl max a:=by
  intro m
  induction m with
  | nil=>intro a x h;rcases h with h|h;simp at h;exact h
  | cons y m ih =>
   intro a x h;refine ih (max a y) x ?_;rcases h with h|h
   ·rcases List.mem_cons.1 h with rfl|h
    ·exact .inr (by omega)
    ·exact .inl h
   ·exact .inr (by omega)
 intro l q c;exact b _ 0 _ (.inl (List.mem_map_of_mem (f:=fun p:ByteArray×PT=>p.2.depth) c))
theorem mF(kind:Nat)(l:List (ByteArray×PT))(hk:7<=kind/\kind<=10)(h1:∀ q∈l,Ao q.2)(h0:0<l.length)(h6:l.length<=6)(IP:kind=7\/kind=8->l.length=1)(Ih:∀ q∈l,Lets q.1)(oZ:9<=kind->(l.map (·.1)).Nodup):Ao (aP kind l):=by
 refine⟨hk.2,by simp[aP],?_,fun _=>by simpa[aP] using h0,fun h=>by simpa[aP] using IP h,⟨by simpa[aP] using h6,?_⟩,fun h9=>⟨oZ h9,?_⟩⟩
 ·intro u c;simp only[aP,List.mem_map] at c;obtain⟨q,a,rfl⟩:=c;exact c8.mono _ _ (h1 q a) _ (wZ l q a)
 ·intro n b;simp only[aP,List.mem_map] at b;obtain⟨q,a,rfl⟩:=b;exact(Ih q a).1
 ·intro n b;simp only[aP,List.mem_map] at b;obtain⟨q,a,rfl⟩:=b;exact(Ih q a).2
theorem wC{rd:Nat->Option Nat->lN}(iW:Good rd)(s:ByteArray)(kind cR close:Nat):∀(k:Nat) (acc:List (ByteArray×PT)) (n:Nat) (bad:Option Nat),(bJ rd s kind cR close k acc n bad).ok=true->(bJ rd s kind cR close k acc n bad).bad=none->bad=none:=by
 intro k
 induction k with
 | zero=>intro acc n bad h;cases h
 | succ k ih =>
  intro acc n bad b c;simp only[bJ] at b c
  split at b
  ·cases b
  ·rename_i dq;have a:(aM rd s (acc.map (·.1)) 58 n bad).ok=true:=by cases h:(aM rd s (acc.map (·.1)) 58 n bad).ok;exact absurd h dq;rfl
   rw[if_neg dq] at c
   split at b
   ·rename_i d;rw[if_pos d] at c;exact(je iW s _ 58 n bad a c).1
   ·rename_i d;rw[if_neg d] at c
    split at b
    ·cases b
    ·rename_i ju;rw[if_neg ju] at c;exact(je iW s _ 58 n bad a (ih _ _ _ b c)).1
theorem oT{rd:Nat->Option Nat->lN}(iW:Good rd)(s:ByteArray)(kind cR close:Nat)(hk:9<=kind/\kind<=10):∀(k:Nat) (acc:List (ByteArray×PT)) (n:Nat) (bad:Option Nat),k+acc.length=6->(bJ rd s kind cR close k acc n bad).ok=true->(bJ rd s kind cR close k acc n bad).bad=none ->
  (∀ q∈acc,Ao q.2)->(∀ q∈acc,Lets q.1)->(acc.map (·.1)).Nodup->bad=none/\Ao (bJ rd s kind cR close k acc n bad).t:=by
 intro k
 induction k with
 | zero=>intro acc n bad _ h;cases h
 | succ k ih =>
  intro acc n bad v d f u o oZ;simp only[bJ] at d f ⊢
  split at d
  ·cases d
  ·rename_i dq;have i:(aM rd s (acc.map (·.1)) 58 n bad).ok=true:=by cases h:(aM rd s (acc.map (·.1)) 58 n bad).ok;exact absurd h dq;rfl
   rw[if_neg dq] at f ⊢
   have c:(aM rd s (acc.map (·.1)) 58 n bad).bad=none->bad=none/\(∀ q∈acc++[(ax s n,(aM rd s (acc.map (·.1)) 58 n bad).t)],Ao q.2)/\(∀ q∈acc++[(ax s n,(aM rd s (acc.map (·.1)) 58 n bad).t)],Lets q.1)/\((acc++[(ax s n,(aM rd s (acc.map (·.1)) 58 n bad).t)]).map (·.1)).Nodup:=by
    intro g;obtain⟨j,l,m⟩:=je iW s _ 58 n bad i g;refine⟨j,fun q hq=>?_,fun q hq=>?_,?_⟩
    ·rcases List.mem_append.1 hq with h|h
     ·exact u q h
     ·simp at h;subst h;exact m
    ·rcases List.mem_append.1 hq with h|h
     ·exact o q h
     ·simp at h;subst h;exact wV s n
    ·rw[List.map_append];refine List.nodup_append.2 ⟨oZ,by simp,fun a ha b g e=>?_⟩;simp at g;subst g e;exact l ha
   split at d
   ·rename_i p;rw[if_pos p] at f ⊢;obtain⟨j,l,m,r⟩:=c f;exact⟨j,mF kind _ (by omega) l (by simp) (by simp;omega) (fun h=>by omega) m (fun _=>r)⟩
   ·rename_i p;rw[if_neg p] at f ⊢
    split at d
    ·cases d
    ·rename_i ju;rw[if_neg ju] at f ⊢;have g:=wC iW s kind cR close k _ _ _ d f;obtain⟨j,l,m,r⟩:=c g;exact⟨j,(ih _ _ _ (by simp;omega) d f l m r).2⟩
theorem AD(k:Nat)(hk:k<7):Ao (PT.word k) :=
 ⟨by simp[PT.word];omega,rfl,fun u hu=>by simp[PT.word] at hu,fun h=>by simp[PT.word] at h;omega,fun h=>by simp[PT.word] at h;omega,⟨by simp[PT.word],fun n hn=>by simp[PT.word] at hn⟩,fun h=>by simp[PT.word] at h;omega⟩
theorem wF(s:ByteArray)(lines:List (ByteArray×PT))(hL:∀ q∈lines,Ao q.2):Good (cL s lines):=by
 intro n d b a;unfold cL at b a ⊢
 split at b
 ·cases b
 ·rename_i c;rw[if_neg c] at a;rw[if_neg c]
  split at a
  ·rename_i k f;exact⟨a,AD k (eY f).1⟩
  ·split at a
   ·rename_i t g;obtain⟨q,h,e⟩:=mT g;exact⟨a,by rw[<-e];exact hL q h⟩
   ·exact absurd a orElse_none
theorem wQ(kind:Nat)(hk:kind=7\/kind=8)(t:PT)(h:Ao t):Ao (aP kind [(⟨#[]⟩,t)]) :=
 mF kind _ (by omega) (fun q hq=>by simp at hq;subst hq;exact h) (by simp) (by simp) (fun _=>by simp) (fun q hq=>by simp at hq;subst hq;exact⟨Nat.zero_le _,fun b hb=>by simp at hb⟩) (fun h=>by omega)
theorem Bm(s:ByteArray)(lines:List (ByteArray×PT))(hL:∀ q∈lines,Ao q.2):∀ f,Good (aJ s lines f):=by
 intro f
 induction f with
 | zero=>intro n a h;cases h
 | succ f ih =>
  intro n a c b;simp only[aJ] at c b ⊢
  split at c
  ·rename_i i;rw[if_pos i] at b ⊢
   split at c
   ·cases c
   ·rename_i dq;have d:(aJ s lines f (n+1) a).ok=true:=by cases h:(aJ s lines f (n+1) a).ok;exact absurd h dq;rfl
    rw[if_neg dq] at b ⊢
    split at c
    ·rename_i hd;rw[if_pos hd] at b ⊢;obtain⟨j,k⟩:=ih _ _ d b;exact⟨j,wQ 7 (.inl rfl) _ k⟩
    ·cases c
  ·rename_i i;rw[if_neg i] at b ⊢
   split at c
   ·rename_i ju;rw[if_pos ju] at b ⊢
    split at c
    ·cases c
    ·rename_i dq;have d:(aJ s lines f (n+1) a).ok=true:=by cases h:(aJ s lines f (n+1) a).ok;exact absurd h dq;rfl
     rw[if_neg dq] at b ⊢;obtain⟨j,k⟩:=ih _ _ d b;exact⟨j,wQ 8 (.inr rfl) _ k⟩
   ·rename_i ju;rw[if_neg ju] at b ⊢
    split at c
    ·rename_i e;rw[if_pos e] at b ⊢;exact oT ih s 9 44 125 (by omega) 6 [] (n+1) a rfl c b (by simp) (by simp) (by simp)
    ·rename_i e;rw[if_neg e] at b ⊢
     split at c
     ·rename_i g;rw[if_pos g] at b ⊢;exact oT ih s 10 124 62 (by omega) 6 [] (n+1) a rfl c b (by simp) (by simp) (by simp)
     ·rename_i g;rw[if_neg g] at b ⊢;exact wF s lines hL n a c b
def Aq(rd:Nat->Option Nat->lN):Prop:=∀ n bad,(rd n bad).ok=true->(rd n bad).bad=none->bad=none
theorem lq{rd:Nat->Option Nat->lN}(iW:Aq rd)(s:ByteArray)(br:List ByteArray)(de:Nat):Aq (aM rd s br de):=by
 intro n c a b;unfold aM at a b
 split at a
 ·cases a
 ·rename_i d;rw[if_neg d] at b
  split at a
  ·rename_i e;rw[if_pos e] at b;exact(nG (iW _ _ a b)).1
  ·cases a
theorem nD{rd:Nat->Option Nat->lN}(iW:Aq rd)(s:ByteArray)(kind cR close:Nat):∀(k:Nat) (acc:List (ByteArray×PT)) (n:Nat) (bad:Option Nat),(bJ rd s kind cR close k acc n bad).ok=true->(bJ rd s kind cR close k acc n bad).bad=none->bad=none:=by
 intro k
 induction k with
 | zero=>intro acc n bad h;cases h
 | succ k ih =>
  intro acc n bad b c;simp only[bJ] at b c
  split at b
  ·cases b
  ·rename_i dq;have a:(aM rd s (acc.map (·.1)) 58 n bad).ok=true:=by cases h:(aM rd s (acc.map (·.1)) 58 n bad).ok;exact absurd h dq;rfl
   rw[if_neg dq] at c
   split at b
   ·rename_i d;rw[if_pos d] at c;exact lq iW s _ 58 n bad a c
   ·rename_i d;rw[if_neg d] at c
    split at b
    ·cases b
    ·rename_i ju;rw[if_neg ju] at c;exact lq iW s _ 58 n bad a (ih _ _ _ b c)
theorem yN(s:ByteArray)(lines:List (ByteArray×PT)):∀ f,Aq (aJ s lines f):=by
 intro f
 induction f with
 | zero=>intro n c h;cases h
 | succ f ih =>
  intro n c b a;simp only[aJ] at b a
  split at b
  ·rename_i i;rw[if_pos i] at a
   split at b
   ·cases b
   ·rename_i dq;have d:(aJ s lines f (n+1) c).ok=true:=by cases h:(aJ s lines f (n+1) c).ok;exact absurd h dq;rfl
    rw[if_neg dq] at a
    split at b
    ·rename_i hd;rw[if_pos hd] at a;exact ih _ _ d a
    ·cases b
  ·rename_i i;rw[if_neg i] at a
   split at b
   ·rename_i ju;rw[if_pos ju] at a
    split at b
    ·cases b
    ·rename_i dq;have d:(aJ s lines f (n+1) c).ok=true:=by cases h:(aJ s lines f (n+1) c).ok;exact absurd h dq;rfl
     rw[if_neg dq] at a;exact ih _ _ d a
   ·rename_i ju;rw[if_neg ju] at a
    split at b
    ·rename_i e;rw[if_pos e] at a;exact nD ih s 9 44 125 6 [] (n+1) c b a
    ·rename_i e;rw[if_neg e] at a
     split at b
     ·rename_i g;rw[if_pos g] at a;exact nD ih s 10 124 62 6 [] (n+1) c b a
     ·rename_i g;rw[if_neg g] at a;unfold cL at b a
      split at b
      ·cases b
      ·rename_i j;rw[if_neg j] at a
       split at a
       ·exact a
       ·split at a
        ·exact a
        ·exact absurd a orElse_none
theorem jR{r:lN}{deep:Option Nat}(h:bV r n deep=none):deep=none/\r.t.depth<=12:=by
 unfold bV at h
 split at h
 ·exact absurd h orElse_none
 ·exact⟨h,by omega⟩
theorem wH(s:ByteArray):∀(k:Nat) (lines:List (ByteArray×PT)) (n:Nat) (bad deep:Option Nat),(bO s k lines n bad deep).ok=true->(bO s k lines n bad deep).bad=none->(bO s k lines n bad deep).deep=none->bad=none/\deep=none:=by
 intro k
 induction k with
 | zero=>intro lines n bad deep h;cases h
 | succ k ih =>
  intro lines n bad deep b c d;have f:=lq (yN s lines (s.size+1)) s (lines.map (·.1)) 61;simp only[bO] at b c d
  split at b
  ·cases b
  ·rename_i dq;have a:(cd s lines n bad).ok=true:=by cases h:(cd s lines n bad).ok;exact absurd h dq;rfl
   rw[if_neg dq] at c d
   split at b
   ·rename_i e;rw[if_pos e] at c d;exact⟨f n bad a c,(jR d).1⟩
   ·rename_i e;rw[if_neg e] at c d
    split at b
    ·cases b
    ·rename_i g;rw[if_neg g] at c d;obtain⟨i,j⟩:=ih _ _ _ _ b c d;exact⟨f n bad a i,(jR j).1⟩
theorem yP(s:ByteArray):∀(k:Nat) (lines:List (ByteArray×PT)) (n:Nat) (bad deep:Option Nat),(bO s k lines n bad deep).ok=true->(bO s k lines n bad deep).bad=none->(bO s k lines n bad deep).deep=none->(∀ q∈lines,Ao q.2) ->
  ∃ q,(bO s k lines n bad deep).lines.getLast?=some q/\Ao q.2/\q.2.depth<=12:=by
 intro k
 induction k with
 | zero=>intro lines n bad deep h;cases h
 | succ k ih =>
  intro lines n bad deep b c d i;have g:=Bm s lines i (s.size+1);simp only[bO] at b c d ⊢
  split at b
  ·cases b
  ·rename_i dq;have a:(cd s lines n bad).ok=true:=by cases h:(cd s lines n bad).ok;exact absurd h dq;rfl
   rw[if_neg dq] at c d ⊢
   split at b
   ·rename_i e;rw[if_pos e] at c d ⊢;obtain⟨j,m,l⟩:=je g s _ 61 n bad a c;obtain⟨o,f⟩:=jR d;exact⟨(ax s n,(cd s lines n bad).t),by simp,l,f⟩
   ·rename_i e;rw[if_neg e] at c d ⊢
    split at b
    ·cases b
    ·rename_i p;rw[if_neg p] at c d ⊢;obtain⟨j,m⟩:=wH s k _ _ _ _ b c d;obtain⟨l,o,f⟩:=je g s _ 61 n bad a j;refine ih _ _ _ _ b c d (fun q hq=>?_);rcases List.mem_append.1 hq with h|h
     ·exact i q h
     ·simp at h;subst h;exact f
theorem yh(h:aL s=(0,0)):c8 12 (iJ s):=by
 unfold aL at h
 split at h
 ·cases h
 ·split at h
  ·cases h
  ·rename_i dq;have a:(bO s 10 [] 0 none none).ok=true:=by cases h:(bO s 10 [] 0 none none).ok;exact absurd h dq;rfl
   split at h
   ·cases h
   ·rename_i b
    split at h
    ·cases h
    ·rename_i hd;obtain⟨q,c,d,e⟩:=yP s 10 [] 0 none none a b hd (by simp);unfold iJ;rw[c];exact c8.mono _ _ d 12 e
end Go.Proofs.YtpffifpbpmlhdaaGreatDoor
