import PyProof.Rows.All
import Wide.All
import OpenK.AllK
import Wide.FinOn
import Lean
import PyProof.EqAt
import PyProof.EqKinds
import PyProof.TupleCall
import PyProof.ZipIter
import PyProof.Draws
import PyProof.EnumMake
import PyProof.ExcStrCall
import PyProof.ExcStrAll.ValueError
import PyProof.TupleOfStr
import PyProof.DictIter
import PyProof.DictWalks
import PyProof.Rows.SetFrom
import PyProof.CollectWalk
import PyProof.Rows.SortShell
import PyProof.Rows.SortWalk
import PyProof.ListRange
import KE.KEqDict
import KE.KDictSum
import KE.KIntText
import PyProof.Rows.StrFirst
import PyProof.Rows.FStr
import PyProof.FString
import PyProof.PureStr
import PyProof.FactsAll.str_6
import PyProof.ToksMono
import PyProof.FitsReplace
import PySem.Challenge.RW_bracketrows_k48_no_such_row
set_option Elab.async false
set_option linter.all false
set_option maxRecDepth 100000
section
local macro_rules | `(tactic| lia) => `(tactic| first|lia (splits:=9)|omega)
set_option compiler.extract_closed false
open PySem PySem.Spec PyProof.Rows
variable{XP:(Str->Option Value)->Heap->Prop}{C S b p:Addr}{A:Around}{env:Env}{e iter tg:Expr}{fd:FuncData}{base h h':Heap}{lo:Int}{pins:List (Addr×Obj)}{ks:List (Option Expr)}{bad ch fp:List Addr}{outer:List Env}{elts es ifs vs:List Expr}{ms ns:List Int}{a l sel:List Nat}{body rest:List Stmt}{own:List Str}{us ys:List Value}{M:Model}{c ep i j n t':Nat}{ad:Nat->Addr}{o:Obj}{pos pos' tpos:Pos}{P prog:Program}{K:W.Frag}{R:Result->Shared->Prop}{scope:Scope}{pl:Sem Bool}{t:SetTable}{qual x:Str}{kindOf:Str->Option NameKind}{mg:Str->Option Value}{T:String}{α:Type}{v:Value}{E Q:Value->Shared->Prop}{f:Value->Value->Sem Value}{w:World}
namespace L2
abbrev Key:=Sum Int Str
def DZ:Key->Value->Bool
 | .inl k,v=>Value.isInt k v
 | .inr x,v=>Value.isStrOf x v
def WH(w:World):Key->Int
 | .inl k=>hashInt k
 | .inr x=>hashStr w x
theorem CC:∀ {k:Key} {v:Value},DZ k v=true->(∃i t,k=Sum.inl i/\v=Value.int i t)\/(∃x t,k=Sum.inr x/\v=Value.str x t)
 | .inl i,v,h=>by
   obtain⟨t,e⟩:=Value.isInt_shape (k:=i) (v:=v) h;exact .inl ⟨i,t,rfl,e⟩
 | .inr x,v,h=>by
   obtain⟨t,e⟩:=Value.isStrOf_shape (x:=x) (v:=v) h;exact .inr ⟨x,t,rfl,e⟩
def Pj(i:Int)(t:Tok):DZ (.inl i) (.int i t)=true:=by simp[DZ,Value.isInt]
def Fo(x:Str)(t:Tok):DZ (.inr x) (.str x t)=true:=by simp[DZ,Value.isStrOf]
def Ux(a b:Int):decide ((Sum.inl a:Key)=Sum.inl b)=(a==b):=by
 by_cases e:a=b
 ·subst e;simp
 ·have h:¬ (Sum.inl a:Key)=Sum.inl b:=λq=>e (Sum.inl.inj q);rw[decide_eq_false h];exact(beq_eq_false_iff_ne.mpr e).symm
def Uu(a b:Str):decide ((Sum.inr a:Key)=Sum.inr b)=decide (a=b):=by
 by_cases e:a=b
 ·subst e;simp
 ·have h:¬ (Sum.inr a:Key)=Sum.inr b:=λq=>e (Sum.inr.inj q);rw[decide_eq_false h,decide_eq_false e]
def Uw(a:Int)(b:Str):decide ((Sum.inl a:Key)=Sum.inr b)=false:=decide_eq_false (λq=>nomatch q)
def Uv(a:Str)(b:Int):decide ((Sum.inr a:Key)=Sum.inl b)=false:=decide_eq_false (λq=>nomatch q)
def An(prog:Program)(w:World):PySem.KeyKind prog w Key where
 is:=DZ
 hash:=WH w
 inj:=λv a b p o=>by
  rcases CC p with⟨i,t,rfl,rfl⟩|⟨x,t,rfl,rfl⟩
  ·rcases CC o with⟨j,u,rfl,e⟩|⟨y,u,rfl,e⟩
   ·injection e with d _;rw[d]
   ·exact nomatch e
  ·rcases CC o with⟨j,u,rfl,e⟩|⟨y,u,rfl,e⟩
   ·exact nomatch e
   ·injection e with d _;rw[d]
 byValue:=λk v h=>by
  rcases CC h with⟨i,t,rfl,rfl⟩|⟨x,t,rfl,rfl⟩<;>rfl
 pyHash:=λl h=>by
  rcases CC l with⟨i,t,rfl,rfl⟩|⟨x,t,rfl,rfl⟩
  ·exact wpAny_pyHash_int h
  ·exact wpAny_pyHash_str h
 eqBool:=λq l h=>by
  rcases CC q with⟨i,t,rfl,rfl⟩|⟨x,t,rfl,rfl⟩
  ·rcases CC l with⟨j,u,rfl,rfl⟩|⟨y,u,rfl,rfl⟩
   ·rw[Ux]at h;exact wpAny_eqBool_int h
   ·rw[Uw]at h;exact SeqAt.EqAt.int_str i t y u _ _ _ _ h
  ·rcases CC l with⟨j,u,rfl,rfl⟩|⟨y,u,rfl,rfl⟩
   ·rw[Uv]at h;exact SeqAt.EqAt.str_int x t j u _ _ _ _ h
   ·rw[Uu]at h;exact wpAny_eqBool_str h
 «strs»:=λk x t v h=>by
  rcases CC h with⟨i,u,rfl,e⟩|⟨y,u,rfl,e⟩
  ·exact nomatch e
  ·injection e with d _
   subst d
   cases v<;>rfl
def N0(prog:Program)(w:World)(i:Int)(t:Tok):(An prog w).is (.inl i) (.int i t)=true:=Pj i t
def Nz(prog:Program)(w:World)(x:Str)(t:Tok):(An prog w).is (.inr x) (.str x t)=true:=Fo x t
inductive V where
 |non|bl (b:Bool)|int (i:Int)|str (x:Str)|byt (b:Array UInt8)|flt (b:UInt64)|ref (a:Addr)|ty (n:String)
 deriving DecidableEq
def RelV:V->Value->Prop
 | .non,u=>u=Value.none
 | .bl b,u=>u=Value.bool b
 | .int i,u=>∃t,u=Value.int i t
 | .str x,u=>∃t,u=Value.str x t
 | .byt b,u=>∃t,u=Value.bytes b t
 | .flt b,u=>∃t,u=Value.float b t
 | .ref a,u=>u=Value.ref a
 | .ty n,u=>u=Value.type n
abbrev Vals:List V->List Value->Prop:=Paired RelV
theorem Vals.length{xs:List V}(r:Vals xs us):xs.length=us.length:=Paired.length r
theorem Vals.get:∀ {a:List V} {us:List Value} {i:Nat} {x:V},Vals a us->a[i]? =some x->∃u,us[i]? =some u/\RelV x u
 |_,_,_,_, .nil,e=>by simp at e
 |_,_,0,_, .cons r _,e=>by simp at e;subst e;exact⟨_,rfl,r⟩
 |_,_,i+1,x, .cons _ t,e=>by
  obtain⟨u,b,d⟩:=Vals.get (i:=i) (x:=x) t (by simpa using e);exact⟨u,by simpa using b,d⟩
theorem Vals.set{x:V}{u:Value}(r:RelV x u):∀ {a:List V} {b:List Value} (i:Nat),Vals a b->Vals (a.set i x) (b.set i u)
 |_,_,_, .nil=> .nil
 |_,_,0, .cons _ t=> .cons r t
 |_,_,i+1, .cons q t=> .cons q (Vals.set r i t)
theorem Vals.append:∀ {a b:List V} {us ws:List Value},Vals a us->Vals b ws->Vals (a++b) (us++ws)
 |_,_,_,_, .nil,s=>s
 |_,_,_,_, .cons r t,s=> .cons r (Vals.append t s)
theorem Vals.take:∀ {a:List V} {b:List Value} (n:Nat),Vals a b->Vals (a.take n) (b.take n)
 |_,_,0,_=> .nil
 |_,_,_+1, .nil=> .nil
 |_,_,n+1, .cons r t=> .cons r (Vals.take n t)
theorem Vals.drop:∀ {a:List V} {b:List Value} (n:Nat),Vals a b->Vals (a.drop n) (b.drop n)
 |_,_,0,r=>r
 |_,_,_+1, .nil=> .nil
 |_,_,n+1, .cons _ t=>Vals.drop n t
def RelO:Option V->Option Value->Prop
 |some v,some u=>RelV v u
 |none,none=>True
 |_,_=>False
def KV{κ:Type}:List (κ×V)->List (κ×Value)->Prop:=Paired fun(p:κ×V) (q:κ×Value)=>p.1=q.1/\RelV p.2 q.2
def kV:Key->V
 | .inl i=> .int i
 | .inr x=> .str x
inductive HO where
 |lst (xs:List V)
 |tup (xs:List V)
 |dK (kvs:List (Key×V))|dT (kvs:List (List Key×V))
 |set (S:Int->Bool) (n:Nat)
 |ins (C dx:Addr) (fs:List (Str×V))
 |own (x:Addr)
 |xd (fs:List (Str×V))
 |met (f x:Addr)
 |rng (lo hi:Int)
 |frz (o:Obj) (u:HO)
 |tbl (ps:Array Value)
 |ext (φ:Heap->Prop)
abbrev Hp:=Addr->Option HO
end L2
variable{H H' H1:Hp}{kvs:List (List Key×V)}{xs:List V}
namespace L2
variable{a:Addr}{o:HO}
def upd(H:Hp)(a:Addr)(o:HO):Hp:=λb=>if b=a then some o else H b
def AF:upd H a o a=some o:=by unfold upd;rw[if_pos rfl]
def AH(h:b≠a):upd H a o b=H b:=by unfold upd;rw[if_neg h]
def Vr{u:HO}(h:H a=some o)(h':H b=some u)(d:o≠u):a≠b:=by
 intro e;subst e;rw[h]at h';exact d (Option.some.inj h')
def AM(h:H a=some o)(h':H b=none):a≠b:=by
 intro e;subst e;rw[h]at h';cases h'
section
variable(P:Program)(w:World)
def ObjOk(H:Hp)(h:Heap)(a:Addr):HO->Prop
 | .lst e=>e.length<=sizeLine/\∃ (b:List Value) (n:Nat),Vals e b/\h.get? a=some {cls:= .type "list",data:= .seq b.toArray n}
 | .tup e=>e.length<=sizeLine/\∃b:List Value,Vals e b/\IsTup h a b.toArray
 | .dK d=>d.length<=sizeLine/\(a==sysModules)=false/\∃vs,KV d vs/\h.DictOf (An P w) a vs
 | .dT d=>d.length<=sizeLine/\(a==sysModules)=false/\∃e:List (List Key×Addr×Value),
     Paired (fun(p:List Key×V) (q:List Key×Addr×Value)=>p.1=q.1/\H q.2.1=some (.tup (p.1.map kV))/\RelV p.2 q.2.2) d e/\
     ∃o l z,h.get? a=some o/\o.ExactDict/\o.data= .dict l z/\l.toList=e.map (entryOfKey (tupleKind (An P w)))/\(e.map (·.1)).Nodup
 | .set S n=>h.SetOf (intKind P w) a S n
 | .ins C j fs=>H j=some (.own a)/\fs.length<=1000/\j≠a/\h.get? a=some (W.instObj C j)/\
     ∃i,h.Ns1 j i/\(∀f,RelO (fs.lookup f) (i f))/\PySem.Within i (fs.map (·.1))
 | .own _=>∃o,h.get? a=some o
 | .xd fs=>∃i,h.Ns1 a i/\∀f,RelO (fs.lookup f) (i f)
 | .rng B G=>∃t u v,h.get? a=some {cls:= .type "range",data:= .fields #[.int B t, .int G u, .int 1 v]}
 | .frz o u=>h.get? a=some o/\ObjOk H h a u
 | .tbl ps=>h.get? a=some {cls:= .none,data:= .fields ps}
 | .met f x=>h.get? a=some (W.methodObj (.ref f) (.ref x))
 | .ext φ=>φ h/\(∃o,h.get? a=some o)/\∀r y:Heap,φ r->(∀o,r.get? a=some o->y.get? a=some o)->φ y
structure HOk (H:Hp) (h:Heap):Prop where
 all:∀a o,H a=some o->ObjOk P w H h a o
 sm:∀o,H sysModules=some o->∃ob u,o= .frz ob u
 bg:∃b o,1<b/\h.get? b=some o
instance (H:Hp) (h:Heap):CoeFun (HOk P w H h) λ_=>∀a o,H a=some o->ObjOk P w H h a o:=⟨HOk.all⟩
end
theorem ObjOk.lt(x:ObjOk P w H h a o):a<h.objs.size:=by
 cases o with
 |lst d=>obtain⟨_,_,_,_,e⟩:=x;exact Heap.lt_size e
 |tup d=>obtain⟨_,_,_,p⟩:=x;exact p.lt
 |dK b=>obtain⟨_,_,_,_,o,_,_,e,_⟩:=x;exact Heap.lt_size e
 |dT b=>obtain⟨_,_,_,_,o,_,_,e,_⟩:=x;exact Heap.lt_size e
 |set S n=>obtain⟨o,_,_,_,e,_⟩:=x;exact Heap.lt_size e
 |ins C i fs=>obtain⟨_,_,_,e,_⟩:=x;exact Heap.lt_size e
 |own y=>obtain⟨_,e⟩:=x;exact Heap.lt_size e
 |xd fs=>obtain⟨_,⟨_,_,_,e,_⟩,_⟩:=x;exact Heap.lt_size e
 |rng j l=>obtain⟨_,_,_,e⟩:=x;exact Heap.lt_size e
 |frz ob u=>obtain⟨e,_⟩:=x;exact Heap.lt_size e
 |tbl ps=>exact Heap.lt_size (show h.get? a=some _ from x)
 |met f y=>exact Heap.lt_size (show h.get? a=some _ from x)
 |ext φ=>obtain⟨_,⟨_,e⟩,_⟩:=x;exact Heap.lt_size e
theorem Paired.mapP{β:Type}{F G:α->β->Prop}:∀ {d:List α} {l₂:List β},Paired F d l₂->(∀a b,F a b->G a b)->Paired G d l₂
 |_,_, .nil,_=> .nil
 |_,_, .cons r t,f=> .cons (f _ _ r) (Paired.mapP t f)
def ObjOk.stay(x:ObjOk P w H h a o)(k:∀b u,(b=a\/H b=some (.own a))->h.get? b=some u->h'.get? b=some u)
 (L:∀b,H b=some (.own a)->H' b=some (.own a)) (ht:∀b B,H b=some (.tup B)->H' b=some (.tup B)):ObjOk P w H' h' a o:=by
 induction o with
 |lst B=>obtain⟨z,l,n,r,e⟩:=x;exact⟨z,l,n,r,k _ _ (.inl rfl) e⟩
 |tup B=>obtain⟨z,l,r,ob,e,c⟩:=x;exact⟨z,l,r,ob,k _ _ (.inl rfl) e,c⟩
 |dK G=>obtain⟨z,y,vs,r,ob,i,j,e,c⟩:=x;exact⟨z,y,vs,r,ob,i,j,k _ _ (.inl rfl) e,c⟩
 |dT G=>
  obtain⟨z,y,B,r,ob,i,j,e,c⟩:=x;exact⟨z,y,B,Paired.mapP r λp q z=>⟨z.1,ht _ _ z.2.1,z.2.2⟩,ob,i,j,k _ _ (.inl rfl) e,c⟩
 |set S n=>obtain⟨ob,i,j,t,e,c⟩:=x;exact⟨ob,i,j,t,k _ _ (.inl rfl) e,c⟩
 |ins C R fs=>
  obtain⟨d,z,ne,e,I,⟨J,i,j,M,c⟩,r⟩:=x;exact⟨L _ d,z,ne,k _ _ (.inl rfl) e,I,⟨J,i,j,k _ _ (.inr d) M,c⟩,r⟩
 |own y=>obtain⟨ob,e⟩:=x;exact⟨ob,k _ _ (.inl rfl) e⟩
 |xd fs=>obtain⟨I,⟨J,i,j,e,c⟩,r⟩:=x;exact⟨I,⟨J,i,j,k _ _ (.inl rfl) e,c⟩,r⟩
 |rng T U=>obtain⟨t,u,v,e⟩:=x;exact⟨t,u,v,k _ _ (.inl rfl) e⟩
 |frz ob u Q=>obtain⟨e,q⟩:=x;exact⟨k _ _ (.inl rfl) e,Q q⟩
 |tbl ps=>
  have e:h.get? a=some {cls:= .none,data:= .fields ps}:=x;show h'.get? a=some {cls:= .none,data:= .fields ps};exact k a _ (.inl rfl) e
 |met f y=>
  have e:h.get? a=some (W.methodObj (.ref f) (.ref y)):=x;show h'.get? a=some (W.methodObj (.ref f) (.ref y));exact k a _ (.inl rfl) e
 |ext φ=>obtain⟨p,⟨o,e⟩,st⟩:=x;exact⟨st _ _ p λo q=>k _ _ (.inl rfl) q,⟨o,k _ _ (.inl rfl) e⟩,st⟩
theorem HOk.lt(x:HOk P w H h)(e:H a=some o):a<h.objs.size:=(x a o e).lt
def HOk.fresh(x:HOk P w H h)(e:h.objs.size<=a):H a=none:=by
 cases q:H a with
 |none=>rfl
 |some u=>exact absurd (Nat.lt_of_lt_of_le (x.lt q) e) (Nat.lt_irrefl _)
def HOk.kept(x:HOk P w H h)(k:∀b u,h.get? b=some u->h'.get? b=some u):HOk P w H h':=⟨λa o e=>
 (x a o e).stay (λb u _ q=>k b u q) (λ_ q=>q) λ_ _ q=>q,x.sm,let⟨b,o,l,e⟩:=x.bg;⟨b,o,l,k _ _ e⟩⟩
def HOk.laid(x:HOk P w H h)(k:∀b u,h.get? b=some u->h'.get? b=some u)(i:h.objs.size<=a)(new:ObjOk P w (upd H a o) h' a o):HOk P w (upd H a o) h':=by
 refine⟨λb u e=>?_,λu e=>?_,let⟨b,o,l,e⟩:=x.bg;⟨b,o,l,k _ _ e⟩⟩
 rotate_left
 ·by_cases d:sysModules=a
  ·obtain⟨b,o,l,q⟩:=x.bg;exact absurd (Nat.lt_trans l (show b<sysModules from by rw[d];exact Nat.lt_of_lt_of_le (Heap.lt_size q) i)) (Nat.lt_irrefl 1)
  ·rw[AH d]at e;exact x.sm u e
 have j:=x.fresh i
 by_cases d:b=a
 ·subst d;rw[AF]at e;cases e;exact new
 ·rw[AH d]at e;exact(x b u e).stay (λc v _ q=>k c v q) (λc q=>by rw[AH (AM q j)];exact q) λc p q=>by rw[AH (AM q j)];exact q
def Rd(H:Hp)(a:Addr)(u:HO):Prop:=H a=some u\/∃o,H a=some (.frz o u)
def Rd.ok{u:HO}(r:Rd H a u)(x:HOk P w H h):ObjOk P w H h a u:=by
 rcases r with r|⟨o,r⟩
 ·exact x a u r
 ·obtain⟨_,q⟩:=x a _ r;exact q
def Mut:Option HO->Prop
 |some (.lst _)=>True
 |some (.dK _)=>True
 |some (.dT _)=>True
 |some (.set _ _)=>True
 |some (.ins _ _ _)=>True
 |some (.ext _)=>True
 |_=>False
section
variable{x e:Addr}{o':HO}
def HOk.write(ok:HOk P w H h)(i:Mut (H x))(J:e=x\/H e=some (.own x))(k:∀b u,b≠e->h.get? b=some u->h'.get? b=some u)(p:∃u,h'.get? e=some u)
 (new:ObjOk P w (upd H x o') h' x o'):HOk P w (upd H x o') h':=by
 refine⟨λb u q=>?_,λu q=>?_,?_⟩
 rotate_left
 ·by_cases a:sysModules=x
  ·exfalso;subst a
   cases z:H sysModules with
   |none=>rw[z]at i;exact i
   |some o=>
    obtain⟨ob,v,rfl⟩:=ok.sm o z;rw[z]at i;exact i
  ·rw[AH a]at q;exact ok.sm u q
 ·obtain⟨b,o,l,z⟩:=ok.bg
  by_cases a:b=e
  ·obtain⟨v,I⟩:=p;exact⟨e,v,a▸l,I⟩
  ·exact⟨b,o,l,k b o a z⟩
 have j:∀c y,H c=some (.own y)->c≠x:=λc y r z=>by subst z;rw[r]at i;exact i
 have B:∀c G,H c=some (.tup G)->c≠x:=λc G r z=>by subst z;rw[r]at i;exact i
 by_cases a:b=x
 ·subst a;rw[AF]at q;cases q;exact new
 ·rw[AH a]at q
  by_cases d:b=e
  ·have L:H b=some (.own x):=by
    rcases J with z|z
    ·exact absurd (d.trans z) a
    ·rw[d];exact z
   rw[q]at L;cases L;obtain⟨v,I⟩:=p;exact⟨v,by rw[d];exact I⟩
  ·refine(ok b u q).stay (λc v hc r=>k c v ?_ r) (λc r=>by rw[AH (j c b r)];exact r) λc G r=>by rw[AH (B c G r)];exact r
   rcases hc with rfl|hc
   ·exact d
   ·rintro rfl;rcases J with z|z
    ·exact j c b hc z
    ·rw[hc]at z;cases z;exact a rfl
end
structure Un (fs ex:List Addr) (H H':Hp) (h h':Heap):Prop where
 keep:∀b o,h.get? b=some o->H b=none->b∉fs->b∉ex->h'.get? b=some o
 slot:∀b o,h.get? b=some o->H b=none->b∈fs->b∉ex->∃sl,h'.get? b=some {o with slots:=sl}
 free:∀b o,h.get? b=some o->H b=none->b∉ex->H' b=none
 there:∀b o,h.get? b=some o->b∉ex->∃o',h'.get? b=some o'
 tups:∀b xs,H b=some (.tup xs)->H' b=some (.tup xs)
 frzs:∀b o u,H b=some (.frz o u)->H' b=some (.frz o u)
 tbls:∀b ps,H b=some (.tbl ps)->∃more,H' b=some (.tbl (ps++more))
section
variable{fs fs' ex ex':List Addr}{H2:Hp}{h1 h2:Heap}{x e:Addr}
def Un.any(u:Un fs ex H H1 h h1){ob:Obj}(q:h.get? b=some ob)(n:H b=none)(d:b∉ex):∃j,h1.get? b=some {ob with slots:=j}:=by
 by_cases i:b∈fs
 ·exact u.slot b ob q n i d
 ·exact⟨ob.slots,u.keep b ob q n i d⟩
def Un.kept(k:∀b u,h.get? b=some u->h'.get? b=some u):Un fs ex H H h h':=
 ⟨λb ob q _ _ _=>k b ob q,λb ob q _ _ _=>⟨ob.slots,k b ob q⟩,λ_ _ _ n _=>n,λb ob q _=>⟨ob,k b ob q⟩,λ_ _ q=>q,λ_ _ _ q=>q,λ_ ps q=>⟨#[],by rw[q];simp⟩⟩
def Un.refl:Un fs ex H H h h:=Un.kept λ_ _ q=>q
def Un.laid(k:∀b u,h.get? b=some u->h'.get? b=some u)(i:h.objs.size<=a)(d:H a=none):Un fs ex H (upd H a o) h h' where
 keep:=λb u q _ _ _=>k b u q
 slot:=λb u q _ _ _=>⟨u.slots,k b u q⟩
 free:=λb u q n _=>by rw[AH (Nat.ne_of_lt (Nat.lt_of_lt_of_le (Heap.lt_size q) i))];exact n
 there:=λb u q _=>⟨u,k b u q⟩
 tups:=λb j q=>by rw[AH (AM q d)];exact q
 frzs:=λb u j q=>by rw[AH (AM q d)];exact q
 tbls:=λb ps q=>⟨#[],by rw[AH (AM q d),q];simp⟩
def Un.write(i:Mut (H x))(y:e=x\/H e=some (.own x))(k:∀b u,b≠e->h.get? b=some u->h'.get? b=some u)(j:∃u,h'.get? e=some u):Un fs ex H (upd H x o) h h':=by
 have p:∀b,H b=none->b≠x:=λb n z=>by subst z;rw[n]at i;exact i
 have v:∀b,H b=none->b≠e:=λb n z=>by
  subst z;rcases y with r|r
  ·exact p b n r
  ·rw[n]at r;cases r
 have l:∀b u,H b=some u->¬Mut (some u)->b≠x:=λb u q B z=>by subst z;rw[q]at i;exact B i
 refine⟨λb u q n _ _=>k b u (v b n) q,λb u q n _ _=>⟨u.slots,k b u (v b n) q⟩,λb u q n _=>by rw[AH (p b n)];exact n,λb u q _=>?_,
  λb G q=>by rw[AH (l b _ q λz=>z)];exact q,λb u G q=>by rw[AH (l b _ q λz=>z)];exact q,λb ps q=>⟨#[],by rw[AH (l b _ q λz=>z),q];simp⟩⟩
 by_cases d:b=e
 ·subst d;exact j
 ·exact⟨u,k b u d q⟩
end
def trk(h:Heap)(H:Hp):List Addr:=(List.range h.objs.size).filter λa=>(H a).isSome
def Cd(h:Heap)(H:Hp):Heap:=W.hideAll h (trk h H)
def Pt(h:Heap)(H:Hp):(Cd h H).objs.size=h.objs.size:=W.hideAll_size _ _
def Q9{o:Obj}(e:h.get? b=some o)(n:H b=none):(Cd h H).get? b=some o:=
 W.hideAll_get _ e λa=>by
  have q:(H b).isSome=true:=(List.mem_filter.mp a).2;rw[n]at q;simp at q
def Se{o:Obj}(e:(Cd h H).get? b=some o):h.get? b=some o/\H b=none:=by
 have a:h.get? b=some o:=W.of_hideAll (trk h H) e;refine⟨a,?_⟩
 cases q:H b with
 |none=>rfl
 |some x=>
  have d:b∈trk h H:=List.mem_filter.mpr ⟨List.mem_range.mpr (Heap.lt_size a),by simp[q]⟩;have z:(Cd h H).get? b=none:=W.hideAll_none (trk h H) d;rw[z]at e;cases e
structure Mod (K:W.Frag) (mg:Str->Option Value) (base:Heap):Prop where
 kin:K.In base
 glob:base.Ns mainGlobals mg
 blt:∃mb,base.Ns builtinsNs mb/\∀x:Str,x≠"__name__"->mb x=bootBuiltins x
 nolimit:base.NoLimit
structure Cx where
 prog:Program
 w:World
 K:W.Frag
 mg:Str->Option Value
 base:Heap
 A:Around
 N:List Str
 s₀:Shared
 H₀:Hp
 env:Env
 outer:List Env
 stack:List Env
 ex:List Addr
 fn:Str->Bool
 calm:Bool
 pn:List (Addr×Obj)
 xe:Value->Shared->Prop
end L2
variable{X:Cx}
namespace L2
variable{a:Addr}{g':Array GenState}{d':Drawn}{o:HO}{pins':List (Addr×Obj)}{σ σ':List (Option V)}{Q:Unit->Shared->Prop}{v:V}
def frs(l:List Env):List Addr:=l.filterMap (·.frame)
abbrev Cx.fs(X:Cx):List Addr:=frs X.outer
def Vis(a:Scope)(x:Str):Prop:=a.names.lookup x=some .local\/a.names.lookup x=some .cell\/a.names.lookup x=some .free
def Loc(a:Scope)(x:Str):Prop:=a.names.lookup x=some .local\/a.names.lookup x=some .cell
def Look(env:Env)(h:Heap)(m:Str->Option Value)(x:Str)(u:Value):Prop:=
 (env.kindOf x=some .local/\m x=some u)\/((env.kindOf x=some .cell\/env.kindOf x=some .free)/\∃c,env.cells.lookup x=some c/\h.IsCell c (some u))
structure Cx.Ok (X:Cx):Prop where
 mod:Mod X.K X.mg X.base
 kind:X.env.scope.kind= .function
 glob:X.env.globals=mainGlobals
 blt:X.env.builtins=builtinsNs
 above:X.s₀.heap.objs.size<=X.env.locals
 inj:∀x y c,X.env.cells.lookup x=some c->X.env.cells.lookup y=some c->x=y
 has:∀x,(X.env.kindOf x=some .cell\/X.env.kindOf x=some .free)->∃c,X.env.cells.lookup x=some c
 cab:∀x c,X.fn x=true->X.env.cells.lookup x=some c->X.s₀.heap.objs.size<=c
 hd:X.calm=true->X.A.handled=none
 frames:X.A.frames=some X.stack
 stk:X.stack=X.outer\/(X.stack=X.env::X.outer/\X.env.frame=some X.env.locals)
 exf:∀b∈X.ex,b≠X.env.locals/\∀x c,X.env.cells.lookup x=some c->c≠b
 bs:∀b o,X.base.get? b=some o->X.s₀.heap.get? b=some o/\X.H₀ b=none
 bsz:X.base.objs.size<=X.s₀.heap.objs.size
 noex:∀b o,X.base.get? b=some o->b∉X.ex
 exfs:∀b∈X.ex,b∉X.fs
 funs:X.s₀.heap.FunFrames X.base X.outer
 frf:∀b∈X.fs,X.H₀ b=none
structure Inv (X:Cx) (pins:List (Addr×Obj)) (σ:List (Option V)) (H:Hp) (s:Shared):Prop where
 ok:X.Ok
 os:s.os=X.s₀.os
 bare:AllBare s.gens
 base:Un X.fs X.ex X.H₀ H X.s₀.heap s.heap
 loc:∃m,s.heap.Ns X.env.locals m/\∀ (i:Nat) (x:Str) (v:V),X.N[i]? =some x->σ[i]? =some (some v)->Vis X.env.scope x->∃u,RelV v u/\Look X.env s.heap m x u
 cell:∀x c,X.env.cells.lookup x=some c->∃v,s.heap.IsCell c v
 free:H X.env.locals=none
 freeC:∀x c,X.env.cells.lookup x=some c->H c=none
 pin:∀p∈X.pn++pins,s.heap.get? p.1=some p.2/\H p.1=none/\p.1≠X.env.locals/\p.1∉X.fs/\∀v,p.2.data≠ .cell v
 hok:HOk X.prog X.w H s.heap
 len:σ.length=X.N.length
section
variable{s:Shared}
def Cx.Ok.nofr(ok:X.Ok){o:Obj}(e:X.base.get? b=some o):b∉X.fs:=λa=>by
 have:=(ok.funs.mem a).1;rw[e]at this;cases this
theorem Inv.bs(I:Inv X pins σ H s):∀b o,X.base.get? b=some o->s.heap.get? b=some o/\H b=none:=λb o e=>
 ⟨I.base.keep b o (I.ok.bs b o e).1 (I.ok.bs b o e).2 (I.ok.nofr e) (I.ok.noex b o e),I.base.free b o (I.ok.bs b o e).1 (I.ok.bs b o e).2 (I.ok.noex b o e)⟩
def Inv.bk(I:Inv X pins σ H s):∀b o,X.base.get? b=some o->s.heap.get? b=some o:=λb o e=>(I.bs b o e).1
theorem Inv.mod(I:Inv X pins σ H s):Mod X.K X.mg X.base:=I.ok.mod
def Inv.kIn(I:Inv X pins σ H s):X.K.In s.heap:=I.ok.mod.kin.keeps I.bk
theorem Inv.lt(I:Inv X pins σ H s):X.env.locals<s.heap.objs.size:=let⟨_,a,_⟩:=I.loc;a.lt
def Inv.sz(I:Inv X pins σ H s):X.s₀.heap.objs.size<=s.heap.objs.size:=Nat.le_trans I.ok.above (Nat.le_of_lt I.lt)
def Inv.nofs(I:Inv X pins σ H s)(h:s.heap.objs.size<=a):a∉X.fs:=λb=>by
 obtain⟨_,o,d,_⟩:=I.ok.funs.mem b;exact absurd (Nat.lt_of_lt_of_le (Heap.lt_size d) (Nat.le_trans I.sz h)) (Nat.lt_irrefl _)
def Inv.cne(I:Inv X pins σ H s):∀x c,X.env.cells.lookup x=some c->c≠X.env.locals:=λx c e z=>by
 obtain⟨v,o,d,hd⟩:=I.cell x c e;obtain⟨m,⟨h,i,j,a,b,_⟩,_⟩:=I.loc;rw[z,a]at d;cases d;rw[b]at hd;cases hd
theorem Inv.funs(I:Inv X pins σ H s):s.heap.FunFrames X.base X.outer:=by
 have all:∀ (l:List Env),(∀b∈frs l,b∈X.fs)->X.s₀.heap.FunFrames X.base l->s.heap.FunFrames X.base l:=by
  intro l
  induction l with
  |nil=>intro _ _;trivial
  |cons env r j=>
   intro i p;obtain⟨hk,⟨L,o,a,q,v,hd⟩,x⟩:=p;have d:L∈X.fs:=i L (by unfold frs;rw[List.filterMap_cons,a];exact List.mem_cons_self);obtain⟨y,e⟩:=I.base.slot L o v (I.ok.frf L d) d λz=>I.ok.exfs L z d;exact⟨hk,⟨L,_,a,q,e,hd⟩,j (λb h=>i b (by unfold frs;rw[List.filterMap_cons,a];exact List.mem_cons_of_mem _ h)) x⟩
 exact all X.outer (λ_ h=>h) I.ok.funs
theorem Inv.stack(I:Inv X pins σ H s):s.heap.FunFrames X.base X.stack:=by
 rcases I.ok.stk with e|⟨e,a⟩
 ·rw[e];exact I.funs
 ·rw[e];obtain⟨m,b,_⟩:=I.loc;refine .cons (by rw[I.ok.kind];decide) a b ?_ I.funs;exact Heap.get?_none_of_le (Nat.le_trans I.ok.bsz I.ok.above)
def Inv.stkSub(I:Inv X pins σ H s):∀b∈frs X.stack,b∈X.env.locals::X.fs:=λb a=>by
 rcases I.ok.stk with e|⟨e,d⟩
 ·rw[e]at a;exact List.mem_cons_of_mem _ a
 ·rw[e]at a;unfold frs at a;rw[List.filterMap_cons,d]at a;exact a
def Inv.stkFree(I:Inv X pins σ H s):∀b∈frs X.stack,H b=none:=λb hb=>by
 rcases List.mem_cons.mp (I.stkSub b hb)with e|hb
 ·rw[e];exact I.free
 ·obtain⟨_,o,a,_⟩:=I.ok.funs.mem hb;exact I.base.free b o a (I.ok.frf b hb) λz=>I.ok.exfs b z hb
def Inv.step(I:Inv X pins σ H s)
 (h:∀b∈ch,(b∈X.ex\/X.s₀.heap.objs.size<=b)/\b≠X.env.locals/\(∀x c,X.env.cells.lookup x=some c->c≠b)/\∀p∈X.pn++pins,p.1≠b)
 (keep:∀b o,b≠X.env.locals->b∉X.fs->b∉ch->s.heap.get? b=some o->H b=none->h'.get? b=some o)
 (slot:∀b o,b≠X.env.locals->b∈X.fs->b∉ch->s.heap.get? b=some o->H b=none->∃R,h'.get? b=some {o with slots:=R}) (free:∀b o,b∉ch->s.heap.get? b=some o->H b=none->H' b=none)
 (there:∀b o,b∉ch->s.heap.get? b=some o->∃M,h'.get? b=some M)
 (tups:∀b G,H b=some (.tup G)->H' b=some (.tup G)) (frzs:∀b o u,H b=some (.frz o u)->H' b=some (.frz o u)) (tbls:∀b ps,H b=some (.tbl ps)->∃more,H' b=some (.tbl (ps++more)))
 (ns:∀m,s.heap.Ns X.env.locals m->h'.Ns X.env.locals m) (hok:HOk X.prog X.w H' h') (hg:AllBare g'):
 Inv X pins σ H' {s with heap:=h',gens:=g',drawn:=d',toks:=t'}:=by
 have P:∀b o,X.s₀.heap.get? b=some o->b≠X.env.locals:=λb o e=>Nat.ne_of_lt (Nat.lt_of_lt_of_le (Heap.lt_size e) I.ok.above);have y:∀b o,X.s₀.heap.get? b=some o->b∉X.ex->b∉ch:=λb o e a J=>by
  rcases(h b J).1 with z|z
  ·exact a z
  ·exact absurd (Nat.lt_of_lt_of_le (Heap.lt_size e) z) (Nat.lt_irrefl _)
 have cellK:∀x c,X.env.cells.lookup x=some c->∀v,s.heap.IsCell c v->h'.IsCell c v:=λx c e v ⟨o,L,hd⟩=>by
  have j:c∉ch:=λz=>(h c z).2.2.1 x c e rfl
  by_cases T:c∈X.fs
  ·obtain⟨R,q⟩:=slot c o (I.cne x c e) T j L (I.freeC x c e);exact⟨_,q,hd⟩
  ·exact⟨o,keep c o (I.cne x c e) T j L (I.freeC x c e),hd⟩
 refine⟨I.ok,I.os,hg,⟨λb o e n J a=>?_,λb o e n J a=>?_,λb o e n a=>?_,λb o e a=>?_,λb G e=>tups b G (I.base.tups b G e),λb o G e=>frzs b o G (I.base.frzs b o G e),λb ps e=>?_⟩,?_,λx c e=>?_,?_,λx c e=>?_,λp U=>?_,hok,I.len⟩
 ·exact keep b o (P b o e) J (y b o e a) (I.base.keep b o e n J a) (I.base.free b o e n a)
 ·obtain⟨R,B⟩:=I.base.slot b o e n J a;obtain⟨S,Q⟩:=slot b _ (P b o e) J (y b o e a) B (I.base.free b o e n a);exact⟨S,Q⟩
 ·obtain⟨M,B⟩:=I.base.there b o e a;exact free b M (y b o e a) B (I.base.free b o e n a)
 ·obtain⟨M,B⟩:=I.base.there b o e a;exact there b M (y b o e a) B
 ·obtain⟨m1,B⟩:=I.base.tbls b ps e;obtain⟨m2,Q⟩:=tbls b _ B;exact⟨m1++m2,by rw[Q,Array.append_assoc]⟩
 ·obtain⟨m,Z,hl⟩:=I.loc;refine⟨m,ns m Z,λi x v B Q e3=>?_⟩;obtain⟨u,r,l⟩:=hl i x v B Q e3;refine⟨u,r,?_⟩;rcases l with l|⟨k,c,e,z⟩
  ·exact .inl l
  ·exact .inr ⟨k,c,e,cellK x c e _ z⟩
 ·obtain⟨v,z⟩:=I.cell x c e;exact⟨v,cellK x c e v z⟩
 ·obtain⟨m,⟨o,_,_,L,_⟩,_⟩:=I.loc;exact free _ o (λz=>(h _ z).2.1 rfl) L I.free
 ·obtain⟨v,o,L,hd⟩:=I.cell x c e;exact free c o (λz=>(h c z).2.2.1 x c e rfl) L (I.freeC x c e)
 ·obtain⟨e,n,ne,Y,d⟩:=I.pin p U;have j:p.1∉ch:=λz=>(h p.1 z).2.2.2 p U rfl;exact⟨keep p.1 p.2 ne Y j e n,free p.1 p.2 j e n,ne,Y,d⟩
def Inv.un(I:Inv X pins σ H s)(u:Un X.fs [] H H' s.heap h')(hok:HOk X.prog X.w H' h'):Inv X pins σ H' {s with heap:=h',toks:=t'}:=by
 obtain⟨m,⟨o,v,x,j,r⟩,_⟩:=id I.loc;obtain⟨y,l⟩:=u.any j I.free (by simp);exact I.step (g':=s.gens) (d':=s.drawn) (ch:=[]) (λ_ z=>nomatch z) (λb o _ d _ e n=>u.keep b o e n d (by simp)) (λb o _ d _ e n=>u.slot b o e n d (by simp)) (λb o _ e n=>u.free b o e n (by simp)) (λb o _ e=>u.there b o e (by simp)) u.tups u.frzs u.tbls (λB p=>by
  obtain⟨G,h,i,a,q⟩:=p;rw[j]at a;cases a;exact⟨_,h,i,l,q⟩) hok I.bare
def Inv.call(I:Inv X pins σ H s)(u:Un (frs X.stack) ch H H' s.heap h')(hok:HOk X.prog X.w H' h')(hg:AllBare g')
 (d:∀b∈ch,(b∈X.ex\/X.s₀.heap.objs.size<=b)/\b≠X.env.locals/\(∀x c,X.env.cells.lookup x=some c->c≠b)/\∀p∈X.pn++pins,p.1≠b):
 Inv X pins σ H' {s with heap:=h',gens:=g',drawn:=d',toks:=t'}:=by
 obtain⟨m,⟨o,G,J,q,r⟩,_⟩:=id I.loc;obtain⟨L,i⟩:=u.any q I.free λz=>(d _ z).2.1 rfl;exact I.step (ch:=ch) d (λb o i v a e n=>u.keep b o e n (λz=>(List.mem_cons.mp (I.stkSub b z)).elim i v) a) (λb o _ _ a e n=>u.any e n a) (λb o a e n=>u.free b o e n a) (λb o a e=>u.there b o e a) u.tups u.frzs u.tbls (λM y=>by
  obtain⟨P,j,l,h,B⟩:=y;rw[q]at h;cases h;exact⟨_,j,l,i,B⟩) hok hg
def Inv.turned{it:Addr}(I:Inv X pins σ H s)(k:∀b o,b≠it->s.heap.get? b=some o->h'.get? b=some o)(j:H it=none)(h:it≠X.env.locals)
 (i:it∈X.ex\/X.s₀.heap.objs.size<=it) (l:∀x c,X.env.cells.lookup x=some c->c≠it) (y:∀p∈X.pn++pins,p.1≠it):Inv X pins σ H {s with heap:=h',toks:=t'}:=by
 have d:∀b u,H b=some u->b≠it:=λb u e z=>by rw[z,j]at e;cases e
 refine I.step (g':=s.gens) (d':=s.drawn) (ch:=[it]) (λb B=>?_) (λb o _ _ a e _=>k b o (λz=>a (by simp[z])) e) (λb o _ _ a e _=>⟨o.slots,k b o (λz=>a (by simp[z])) e⟩) (λ_ _ _ _ n=>n)
  (λb o a e=>⟨o,k b o (λz=>a (by simp[z])) e⟩) (λ_ _ e=>e) (λ_ _ _ e=>e) (λb ps e=>⟨#[],by rw[e];simp⟩) (λm G=>?_) ⟨λb u e=>?_,I.hok.sm,let⟨o,_,_,e,_⟩:=I.ok.mod.glob;⟨mainGlobals,o,by decide,k _ _ (λz=>by
    rcases i with q|q
    ·exact I.ok.noex _ _ e (z▸q)
    ·exact absurd (Nat.lt_of_lt_of_le (Heap.lt_size e) (Nat.le_trans I.ok.bsz q)) (by rw[z];exact Nat.lt_irrefl _)) (I.bk _ _ e)⟩⟩ I.bare
 ·have e:b=it:=by simpa using B
  subst e;exact⟨i,h,l,y⟩
 ·obtain⟨o,J,L,M,r⟩:=G;exact⟨o,J,L,k _ o (Ne.symm h) M,r⟩
 ·refine(I.hok b u e).stay (λc v a q=>k c v ?_ q) (λ_ q=>q) λ_ _ q=>q;rcases a with z|z
  ·rw[z];exact d b u e
  ·exact d c _ z
def Inv.tok(I:Inv X pins σ H s)(t:Nat):Inv X pins σ H {s with toks:=t}:=I.un (h':=s.heap) (t':=t) Un.refl I.hok
theorem Inv.kept(I:Inv X pins σ H s)(k:∀b u,s.heap.get? b=some u->h'.get? b=some u):Inv X pins σ H {s with heap:=h',toks:=t'}:=I.un (Un.kept k) (I.hok.kept k)
theorem Inv.laid(I:Inv X pins σ H s)(k:∀b u,s.heap.get? b=some u->h'.get? b=some u)(d:s.heap.objs.size<=a)(new:ObjOk X.prog X.w (upd H a o) h' a o):
 Inv X pins σ (upd H a o) {s with heap:=h',toks:=t'}:=I.un (Un.laid k d (I.hok.fresh d)) (I.hok.laid k d new)
theorem Inv.write{x e:Addr}(I:Inv X pins σ H s)(d:Mut (H x))(h:e=x\/H e=some (.own x))(k:∀b u,b≠e->s.heap.get? b=some u->h'.get? b=some u)(a:∃u,h'.get? e=some u)
 (new:ObjOk X.prog X.w (upd H x o) h' x o):Inv X pins σ (upd H x o) {s with heap:=h',toks:=t'}:=I.un (Un.write d h k a) (I.hok.write d h k a new)
def Inv.weak(I:Inv X pins σ H s)(b:σ'.length=σ.length)(w:∀ (i:Nat) v,σ'[i]? =some (some v)->σ[i]? =some (some v)):Inv X pins σ' H s:=
 ⟨I.ok,I.os,I.bare,I.base,let⟨m,d,a⟩:=I.loc;⟨m,d,λi x v e h j=>a i x v e (w i v h) j⟩,I.cell,I.free,I.freeC,I.pin,I.hok,b.trans I.len⟩
def Inv.pins_of(I:Inv X pins σ H s)(h:∀p∈pins',s.heap.get? p.1=some p.2/\H p.1=none/\p.1≠X.env.locals/\p.1∉X.fs/\∀v,p.2.data≠ .cell v):Inv X pins' σ H s:=
 ⟨I.ok,I.os,I.bare,I.base,I.loc,I.cell,I.free,I.freeC,λp a=>(List.mem_append.mp a).elim (λz=>I.pin p (List.mem_append_left _ z)) (h p),I.hok,I.len⟩
def F5{N:List Str}(d:N.Nodup)(a:N[i]? =some x)(b:N[j]? =some x):i=j:=by
 obtain⟨l,e⟩:=List.getElem?_eq_some_iff.mp a;obtain⟨o,h⟩:=List.getElem?_eq_some_iff.mp b;exact(List.getElem_inj d).mp (e.trans h.symm)
def Fl{u:Value}(I:Inv X pins σ H s)(hN:X.N.Nodup)(Z:X.N[i]? =some x)(J:Loc X.env.scope x)(r:RelV v u)
 (h:∀s',Inv X pins (σ.set i (some v)) H s'->(∃a,Heap.SameBut a s.heap s'.heap/\(a=X.env.locals\/X.env.cells.lookup x=some a))->Q () s') (hf:X.fn x=true\/X.env.scope.names.lookup x=some .local:=by first|exact .inl rfl|exact .inr rfl|assumption):wpAny M A (storeName X.env x u) Q E s:=by
 obtain⟨m,hn,hl⟩:=id I.loc;have hcls:(X.env.scope.kind== .class||(X.env.scope.kind== .module&&X.env.locals !=X.env.globals))=false:=by rw[I.ok.kind];rfl
 have S:i<σ.length:=by rw[I.len];exact(List.getElem?_eq_some_iff.mp Z).1
 have cne:=I.cne;have tracked:∀ {a:Addr} {h':Heap},(∃o,s.heap.get? a=some o/\H a=none)->Heap.SameBut a s.heap h'->(∃o',h'.get? a=some o')->HOk X.prog X.w H h':=fun{a h'} ha B hz=>by
  refine⟨λb ob e=>?_,I.hok.sm,?_⟩
  rotate_left
  ·obtain⟨b,o,l,e⟩:=I.hok.bg
   by_cases P:b=a
   ·obtain⟨v,hv⟩:=hz;exact⟨a,v,P▸l,hv⟩
   ·exact⟨b,o,l,(B.2 b P).trans e⟩
  obtain⟨_,_,L⟩:=ha;refine(I.hok b ob e).stay (λc w' hc q=>(B.2 c ?_).trans q) (λ_ q=>q) λ_ _ q=>q;rintro rfl;rcases hc with rfl|hc
  ·rw[L]at e;cases e
  ·rw[L]at hc;cases hc
 rcases J with hk|hk
 ·refine wpAny_storeName_local hk hn (λh' hn' B=>?_) hcls;obtain⟨oL,_,_,hoL,_⟩:=id hn;refine h _ ⟨I.ok,I.os,I.bare,⟨λb o e n P J=>?_,λb o e n P J=>?_,I.base.free,λb o e J=>?_,I.base.tups,I.base.frzs,I.base.tbls⟩,⟨_,hn',λj y v' G R e3=>?_⟩,λy c e=>?_,I.free,I.freeC,λp hp=>?_,tracked ⟨oL,hoL,I.free⟩ B (let⟨o,_,_,e,_⟩:=hn';⟨o,e⟩),by simpa using I.len⟩ ⟨_,B, .inl rfl⟩
  ·exact(B.2 b (Nat.ne_of_lt (Nat.lt_of_lt_of_le (Heap.lt_size e) I.ok.above))).trans (I.base.keep b o e n P J)
  ·obtain⟨sl,G⟩:=I.base.slot b o e n P J;exact⟨sl,(B.2 b (Nat.ne_of_lt (Nat.lt_of_lt_of_le (Heap.lt_size e) I.ok.above))).trans G⟩
  ·obtain⟨o',G⟩:=I.base.there b o e J;exact⟨o',(B.2 b (Nat.ne_of_lt (Nat.lt_of_lt_of_le (Heap.lt_size e) I.ok.above))).trans G⟩
  ·by_cases T:j=i
   ·subst T;rw[Z]at G;cases G;rw[List.getElem?_set_self S]at R
    cases R
    exact⟨u,r, .inl ⟨hk,by simp⟩⟩
   ·rw[List.getElem?_set_ne (Ne.symm T)]at R;obtain⟨u',r',q⟩:=hl j y v' G R e3;refine⟨u',r',?_⟩;rcases q with⟨k,e⟩|⟨k,c,e,z⟩
    ·refine .inl ⟨k,?_⟩;have:y≠x:=λe=>T (F5 hN G (e▸Z));simp[this,e]
    ·exact .inr ⟨k,c,e,z.sameBut B (cne y c e)⟩
  ·obtain⟨w',z⟩:=I.cell y c e;exact⟨w',z.sameBut B (cne y c e)⟩
  ·obtain⟨e,n,ne,nf,d⟩:=I.pin p hp;exact⟨(B.2 p.1 ne).trans e,n,ne,nf,d⟩
 ·have U:X.fn x=true:=by
   rcases hf with z|z
   ·exact z
   ·rw[z]at hk;cases hk
  obtain⟨c,hc⟩:=I.ok.has x (.inl hk);obtain⟨w',z⟩:=I.cell x c hc;refine wpAny_storeName_cell I.ok.kind hk hc z (λh' Y B=>?_);obtain⟨oc,hoc,hocd⟩:=id z;refine h {s with heap:=h'} ⟨I.ok,I.os,I.bare,⟨λb o e n P J=>?_,λb o e n P J=>?_,I.base.free,λb o e J=>?_,I.base.tups,I.base.frzs,I.base.tbls⟩,⟨m,hn.sameBut B (Ne.symm (cne x c hc)),λj y v' G R e3=>?_⟩,λy c' e=>?_,I.free,I.freeC,λp hp=>?_,tracked ⟨oc,hoc,I.freeC x c hc⟩ B (let⟨o,e,_⟩:=Y;⟨o,e⟩),by simpa using I.len⟩ ⟨c,B, .inr hc⟩
  ·exact(B.2 b (Nat.ne_of_lt (Nat.lt_of_lt_of_le (Heap.lt_size e) (I.ok.cab x c U hc)))).trans (I.base.keep b o e n P J)
  ·obtain⟨sl,G⟩:=I.base.slot b o e n P J;exact⟨sl,(B.2 b (Nat.ne_of_lt (Nat.lt_of_lt_of_le (Heap.lt_size e) (I.ok.cab x c U hc)))).trans G⟩
  ·obtain⟨o',G⟩:=I.base.there b o e J;exact⟨o',(B.2 b (Nat.ne_of_lt (Nat.lt_of_lt_of_le (Heap.lt_size e) (I.ok.cab x c U hc)))).trans G⟩
  ·by_cases T:j=i
   ·subst T;rw[Z]at G;cases G;rw[List.getElem?_set_self S]at R
    cases R
    exact⟨u,r, .inr ⟨.inl hk,c,hc,Y⟩⟩
   ·rw[List.getElem?_set_ne (Ne.symm T)]at R;obtain⟨u',r',q⟩:=hl j y v' G R e3;refine⟨u',r',?_⟩;rcases q with q|⟨k,c',e,z'⟩
    ·exact .inl q
    ·refine .inr ⟨k,c',e,z'.sameBut B ?_⟩;rintro rfl;exact T (F5 hN G (I.ok.inj _ _ _ e hc▸Z))
  ·by_cases hcc:c'=c
   ·subst hcc;exact⟨_,Y⟩
   ·obtain⟨w2,z2⟩:=I.cell y c' e;exact⟨w2,z2.sameBut B hcc⟩
  ·obtain⟨e,n,ne,nf,d⟩:=I.pin p hp;refine⟨(B.2 p.1 ?_).trans e,n,ne,nf,d⟩;intro q;rw[q,hoc]at e;have q':oc=p.2:=Option.some.inj e;exact d w' (by rw[<-q'];exact hocd)
def Dt{u:Value}(I:Inv X pins σ H s)(b:X.N.Nodup)(d:X.N[i]? =some x)(e:Loc X.env.scope x)(r:RelV v u)
 (h:∀a,Inv X pins (σ.set i (some v)) H a->Q () a) (hf:X.fn x=true\/X.env.scope.names.lookup x=some .local:=by first|exact .inl rfl|exact .inr rfl|assumption):wpAny M A (storeName X.env x u) Q E s:=
 Fl I b d e r (λa j _=>h a j) hf
def Inv.call'{s':Shared}(I:Inv X pins σ H s)(d:s'.os=s.os)(u:Un (frs X.stack) ch H H' s.heap s'.heap)(hok:HOk X.prog X.w H' s'.heap)(hg:AllBare s'.gens)
 (a:∀b∈ch,(b∈X.ex\/X.s₀.heap.objs.size<=b)/\b≠X.env.locals/\(∀x c,X.env.cells.lookup x=some c->c≠b)/\∀p∈X.pn++pins,p.1≠b):Inv X pins σ H' s':=by
 obtain⟨h',g',d',t',h⟩:=s';have e:h=s.os:=d;subst e;exact I.call (g':=g') (t':=t') (d':=d') u hok hg a
end
abbrev XK:=Value->Option Addr->Hp->Prop
abbrev W3:=List (Option V)
abbrev VK:=V->Hp->Prop
abbrev TE:=W3->Hp->VK->Prop
abbrev TT:=W3->Hp->(Bool->Hp->Prop)->Prop
abbrev TA:=W3->Hp->(List V->Hp->Prop)->Prop
structure Ends where
 nx:W3->Hp->Prop
 rt:VK
 bk:W3->Hp->Prop:=λ_ _=>False
 ct:W3->Hp->Prop:=λ_ _=>False
abbrev TS:=Ends->W3->Hp->Prop
end L2
variable{D:Ends}{trs:List (TE×TE)}{ts:List TE}{ta te to:TE}{tb:TS}{tt:TT}{r:V->List V->Hp->VK->Prop}{σ:W3}
namespace L2
variable{c:Expr}{rest:List Expr}{t:TE}{tc:TT}{v x:V}{tget:V->V->Hp->VK->Prop}
def EP(X:Cx)(pins:List (Addr×Obj))(σ:W3)(Q:VK)(u:Value)(b:Shared):Prop:=∃v a,Inv X pins σ a b/\RelV v u/\Q v a
def TP(X:Cx)(pins:List (Addr×Obj))(σ:W3)(Q:Bool->Hp->Prop)(b:Bool)(d:Shared):Prop:=∃a,Inv X pins σ a d/\Q b a
def AP(X:Cx)(pins:List (Addr×Obj))(σ:W3)(Q:List V->Hp->Prop)(us:List Value)(b:Shared):Prop:=∃vs a,Inv X pins σ a b/\Vals vs us/\Q vs a
def SP(X:Cx)(pins:List (Addr×Obj))(D:Ends)(f:Flow)(b:Shared):Prop:=
 match f with
 | .next=>∃σ' a,Inv X pins σ' a b/\D.nx σ' a
 | .brk=>∃σ' a,Inv X pins σ' a b/\D.bk σ' a
 | .cont=>∃σ' a,Inv X pins σ' a b/\D.ct σ' a
 | .ret u=>∃v σ' a,Inv X pins σ' a b/\RelV v u/\D.rt v a
def PE(X:Cx)(e:Expr)(t:TE):Prop:=
 ∀ (pins:List (Addr×Obj)) (s:Shared) (σ:W3) (H:Hp) (Q:VK),Inv X pins σ H s->t σ H Q->wpAny (model X.prog X.w) X.A (eval e X.env) (EP X pins σ Q) X.xe s
def PT(X:Cx)(e:Expr)(t:TT):Prop:=
 ∀ (pins:List (Addr×Obj)) (s:Shared) (σ:W3) (H:Hp) (Q:Bool->Hp->Prop),Inv X pins σ H s->t σ H Q->wpAny (model X.prog X.w) X.A (isTrue e X.env (eval e X.env)) (TP X pins σ Q) X.xe s
def PW(X:Cx)(e:Expr)(t:TT):Prop:=
 ∀ (whole:Sem Value) (pins:List (Addr×Obj)) (s:Shared) (σ:W3) (H:Hp) (Q:Bool->Hp->Prop),Inv X pins σ H s->t σ H Q->wpAny (model X.prog X.w) X.A (isTrue e X.env whole) (TP X pins σ Q) X.xe s
def PW.pt{t:TT}(h:PW X e t):PT X e t:=h _
def PA(X:Cx)(b:List Expr)(t:TA):Prop:=
 ∀ (a:Pos) (pins:List (Addr×Obj)) (s:Shared) (σ:W3) (H:Hp) (Q:List V->Hp->Prop),Inv X pins σ H s->t σ H Q->wpAny (model X.prog X.w) X.A (spliced (backTo a (starEach b X.env))) (AP X pins σ Q) X.xe s
def PS(X:Cx)(st:Stmt)(t:TS):Prop:=
 ∀ (pins:List (Addr×Obj)) (s:Shared) (σ:W3) (H:Hp) (D:Ends),Inv X pins σ H s->t D σ H->wpAny (model X.prog X.w) X.A (exec st X.env) (SP X pins D) X.xe s
def PSs(X:Cx)(st:List Stmt)(t:TS):Prop:=
 ∀ (pins:List (Addr×Obj)) (s:Shared) (σ:W3) (H:Hp) (D:Ends),Inv X pins σ H s->t D σ H->wpAny (model X.prog X.w) X.A (execs st X.env) (SP X pins D) X.xe s
def thn{t:Sem α}{Q Q':α->Shared->Prop}{s:Shared}(h:wpAny M A t Q E s)(b:∀a s,Q a s->Q' a s):wpAny M A t Q' E s:=wpAny_mono h b λ_ _ x=>x
section
def BJ(i:Nat):TE:=λσ H Q=>∃v,σ[i]? =some (some v)/\Q v H
def tC(v:V):TE:=λ_ H Q=>Q v H
def K7{x:Str}(b:X.N[i]? =some x)(d:Vis X.env.scope x)(hd:(x==("__debug__":Str))=false:=by decide)(a:(x==("__classdict__":Str))=false:=by decide):PE X (.Name x pos) (BJ i):=by
 intro pins s σ H Q I h;obtain⟨v,e,h⟩:=h;obtain⟨m,j,o⟩:=I.loc;obtain⟨u,r,l⟩:=o i x v b e d;have fin:EP X pins σ Q u s:=⟨v,H,I,r,h⟩;rcases l with⟨hk,hm⟩|⟨hk,c,hc,hcell⟩
 ·exact wpAny_Name (wpAny_loadName_local I.ok.kind hk j hm fin) hd
 ·rcases hk with hk|hk
  ·exact wpAny_Name (wpAny_loadName_cell I.ok.kind hk hc hcell fin) hd
  ·exact wpAny_Name (wpAny_loadName_free I.ok.kind hk hc hcell fin a) hd
def AC{i j pos}:PE X (.Constant (.int i) j pos) (tC (.int i)):=λ_ _ _ H _ I h=>wpAny_Constant_int ⟨.int i,H,I.tok _,⟨_,rfl⟩,h⟩
def Bq{b j pos}:PE X (.Constant (.bool b) j pos) (tC (.bl b)):=λ_ _ _ H _ I h=>Constant_bool ⟨.bl b,H,I,rfl,h⟩
def Ao{j pos}:PE X (.Constant .none j pos) (tC .non):=λ_ _ _ H _ I h=>Constant_none ⟨.non,H,I,rfl,h⟩
def Cm{x j pos}:PE X (.Constant (.str x) j pos) (tC (.str x)):=λ_ _ _ H _ I h=>Calls.Constant_str ⟨.str x,H,I.tok _,⟨_,rfl⟩,h⟩
def Gl(X:Cx)(x:Str):Prop:=X.env.kindOf x=some .globalImplicit
def CQ{s:Shared}{x:Str}{u:Value}(I:Inv X pins σ H s)(hg:Gl X x)(a:X.mg x=some u)(h:Q u s)
 (hd:(x==("__debug__":Str))=false:=by decide):wpAny (model X.prog X.w) X.A (eval (.Name x pos) X.env) Q E s:=
 Calls.Name_function_global I.ok.kind hg (Calls.loadGlobal_global (by rw[I.ok.glob];exact I.mod.glob.keeps I.bk) a h) hd
def B0{s:Shared}{x:Str}{u:Value}(I:Inv X pins σ H s)(hg:Gl X x)(a:X.mg x=none)(b:bootBuiltins x=some u)(h:Q u s)
 (d:x≠"__name__":=by decide) (hd:(x==("__debug__":Str))=false:=by decide):wpAny (model X.prog X.w) X.A (eval (.Name x pos) X.env) Q E s:=by
 obtain⟨j,e,i⟩:=I.mod.blt;exact Calls.Name_function_global I.ok.kind hg (Calls.loadGlobal_builtin (by rw[I.ok.glob];exact I.mod.glob.keeps I.bk) a (by rw[I.ok.blt];exact e.keeps I.bk) ((i x d).trans b) h) hd
def SR{x:Str}{u:Value}(hg:Gl X x)(a:X.mg x=some u)(r:RelV v u)(hd:(x==("__debug__":Str))=false:=by decide):PE X (.Name x pos) (tC v):=
 λ_ _ _ H _ I h=>CQ I hg a ⟨v,H,I,r,h⟩ hd
def SY{x:Str}{u:Value}(hg:Gl X x)(a:X.mg x=none)(b:bootBuiltins x=some u)(r:RelV v u)(d:x≠"__name__":=by decide)(hd:(x==("__debug__":Str))=false:=by decide):PE X (.Name x pos) (tC v):=
 λ_ _ _ H _ I h=>B0 I hg a b ⟨v,H,I,r,h⟩ d hd
variable{a b:Expr}{tb:TE}
def PC(X:Cx)(op:CmpOp)(a b:Expr)(t:TE):Prop:=
 ∀ (pins:List (Addr×Obj)) (s:Shared) (σ:W3) (H:Hp) (Q:VK),Inv X pins σ H s->t σ H Q->
   wpAny (model X.prog X.w) X.A (eval a X.env) (λv d=>wpAny (model X.prog X.w) X.A (eval b X.env) (λu e=>wpAny (model X.prog X.w) X.A (compareOp op v u) (EP X pins σ Q) X.xe e) X.xe d) X.xe s
def tB(t:TE):TT:=λσ H Q=>t σ H λx d=>∃c,x= .bl c/\Q c d
def K5{op:CmpOp}(h:PC X op a b t)(e:behindInMarks op b=false:=by first|exact nobehind _ (by decide) (by decide)|rfl):PT X (.Compare a [op] [b] pos) (tB t):=by
 intro pins s σ H Q I i;refine wpAny_isTrue_Compare1 (thn (h pins s σ H _ I i) λv y e=>thn e λu z j=>thn j λc B ⟨x,l,o,p,r⟩=>?_) e;obtain⟨d,rfl,q⟩:=r
 cases p
 exact wpAny_truthy_bool ⟨l,o,q⟩
variable{tA tB':TT}
def MM(t u:TT):TT:=λσ H Q=>t σ H λc d=>if c=true then u σ d Q else Q false d
def tOr(t u:TT):TT:=λσ H Q=>t σ H λc d=>if c=true then Q true d else u σ d Q
def MH(t:TT):TT:=λσ H Q=>t σ H λc d=>Q (!c) d
def GL(d:PT X a tA):PW X (.BoolOp .And [a] pos) tA:=by
 intro i pins s σ H Q I h;refine isTrue_and (thn (d pins s σ H Q I h) λc j e=>?_)
 cases c with
 |true=>exact isTrue_and_nil e
 |false=>exact e
def Bi(d:PT X a tA):PW X (.BoolOp .Or [a] pos) tA:=by
 intro i pins s σ H Q I h;refine isTrue_or (thn (d pins s σ H Q I h) λc j e=>?_)
 cases c with
 |false=>exact isTrue_or_nil e
 |true=>exact e
def Gk(j:PT X a tA)(l:PW X (.BoolOp .And (b::rest) pos) tB'):PW X (.BoolOp .And (a::b::rest) pos) (MM tA tB'):=by
 intro o pins s σ H Q I h;refine isTrue_and (thn (j pins s σ H _ I h) λc p ⟨d,e,i⟩=>?_)
 cases c with
 |true=>exact l o pins p σ d Q e i
 |false=>exact⟨d,e,i⟩
def BZ(j:PT X a tA)(l:PW X (.BoolOp .Or (b::rest) pos) tB'):PW X (.BoolOp .Or (a::b::rest) pos) (tOr tA tB'):=by
 intro o pins s σ H Q I h;refine isTrue_or (thn (j pins s σ H _ I h) λc p q=>?_);obtain⟨d,e,i⟩:=q
 cases c with
 |true=>exact⟨d,e,i⟩
 |false=>exact l o pins p σ d Q e i
def BB(d:PT X a tA):PT X (.UnaryOp .Not a pos) (MH tA):=by
 intro pins s σ H Q I h;exact isTrue_not (d pins s σ H (λc e=>Q (!c) e) I h)
def Lf(ta tb:TE):TE:=λσ H Q=>ta σ H λx d=>∃c,x= .bl c/\if c=true then tb σ d Q else Q (.bl false) d
def MG(ta tb:TE):TE:=λσ H Q=>ta σ H λx d=>∃c,x= .bl c/\if c=true then Q (.bl true) d else tb σ d Q
def Ld(ta:TE):TE:=λσ H Q=>ta σ H λx d=>∃c,x= .bl c/\Q (.bl (!c)) d
def DD{op}(h:PE X a t):PE X (.BoolOp op [a] pos) t:=λpins s σ H Q I d=>BoolOp_one (h pins s σ H Q I d)
def E8(j:PE X a ta)(l:PE X (.BoolOp .And (b::rest) pos) tb):PE X (.BoolOp .And (a::b::rest) pos) (Lf ta tb):=by
 intro pins s σ H Q I h;refine BoolOp_and (thn (j pins s σ H _ I h) λv o p=>?_);obtain⟨x,e,i,q,d⟩:=p;obtain⟨c,rfl,d⟩:=d
 cases q
 refine wpAny_truthy_bool ?_
 cases c with
 |true=>exact l pins o σ e Q i d
 |false=>exact⟨.bl false,e,i,rfl,d⟩
def HF(j:PE X a ta)(l:PE X (.BoolOp .Or (b::rest) pos) tb):PE X (.BoolOp .Or (a::b::rest) pos) (MG ta tb):=by
 intro pins s σ H Q I h;refine BoolOp_or (thn (j pins s σ H _ I h) λv o p=>?_);obtain⟨x,e,i,q,d⟩:=p;obtain⟨c,rfl,d⟩:=d
 cases q
 refine wpAny_truthy_bool ?_
 cases c with
 |false=>exact l pins o σ e Q i d
 |true=>exact⟨.bl true,e,i,rfl,d⟩
def K8(e:PE X a ta):PE X (.UnaryOp .Not a pos) (Ld ta):=by
 intro pins s σ H Q I h;refine UnaryOp_ (thn (e pins s σ H _ I h) λv p i=>?_);obtain⟨x,j,l,o,d⟩:=i;obtain⟨c,rfl,d⟩:=d
 cases o
 exact not_of (wpAny_truthy_bool ⟨.bl (!c),j,l,rfl,d⟩)
def tIf(t:TT)(ta tb:TE):TE:=λσ H Q=>t σ H λc d=>if c=true then ta σ d Q else tb σ d Q
def BU(o:PT X c tA)(p:PE X a ta)(q:PE X b tb):PE X (.IfExp c a b pos) (tIf tA ta tb):=by
 intro pins s σ H Q I h;refine wpAny_IfExp (thn (o pins s σ H _ I h) λd e ⟨i,j,l⟩=>?_)
 cases d with
 |true=>exact p pins e σ i Q j l
 |false=>exact q pins e σ i Q j l
end
def SqL(K:W.Frag)(H:Hp)(a:Addr)(xs:List V):Prop:=
 Rd H a (.lst xs)\/
  ∃ (o:Obj) (b:Array Value) (n:Nat),K.lookup a=some o/\o.cls= .type "list"/\o.dict=none/\o.data= .seq b n/\b.size<=sizeLine/\Vals xs b.toList
def SqT(K:W.Frag)(H:Hp)(a:Addr)(xs:List V):Prop:=
 Rd H a (.tup xs)\/
  ∃ (o:Obj) (b:Array Value) (n:Nat),K.lookup a=some o/\o.cls= .type "tuple"/\o.data= .seq b n/\b.size<=sizeLine/\Vals xs b.toList
def FU:Value->Option V
 | .none=>some .non
 | .bool b=>some (.bl b)
 | .int i _=>some (.int i)
 | .str x _=>some (.str x)
 | .bytes b _=>some (.byt b)
 | .float b _=>some (.flt b)
 | .ref a=>some (.ref a)
 | .type n=>some (.ty n)
 |_=>none
def RelV.abs{u:Value}(r:RelV x u):FU u=some x:=by
 cases x with
 |non=>cases r;rfl
 |bl _=>cases r;rfl
 |int _=>obtain⟨t,rfl⟩:=r;rfl
 |str _=>obtain⟨t,rfl⟩:=r;rfl
 |byt _=>obtain⟨t,rfl⟩:=r;rfl
 |flt _=>obtain⟨t,rfl⟩:=r;rfl
 |ref _=>cases r;rfl
 |ty _=>cases r;rfl
theorem RelV.inj{y:V}{u:Value}(r:RelV x u)(q:RelV y u):x=y:=Option.some.inj (r.abs.symm.trans q.abs)
theorem Vals.inj:∀ {a b:List V} {us:List Value},Vals a us->Vals b us->a=b
 |_,_,_, .nil, .nil=>rfl
 |_,_,_, .cons r t, .cons d e=>by rw[r.inj d,Vals.inj t e]
section
variable{s:Shared}{a:Addr}{ys:List V}
def SqL.of(h:H a=some (.lst xs)):SqL K H a xs:= .inl (.inl h)
def SqT.of(h:H a=some (.tup xs)):SqT K H a xs:= .inl (.inl h)
def Inv.list(I:Inv X pins σ H s)(h:SqL X.K H a xs):∃b:List Value,Vals xs b/\PlainL s.heap a b.toArray/\xs.length<=sizeLine:=by
 rcases h with h|⟨o,b,n,hk,d,hd,i,j,r⟩
 ·obtain⟨z,b,n,r,e⟩:=h.ok I.hok;exact⟨b,r,⟨_,n,e,rfl,rfl,rfl⟩,z⟩
 ·refine⟨b.toList,r,⟨o,n,I.kIn a o hk,d,hd,by simpa using i⟩,?_⟩;have e:=r.length;simp only[Array.length_toList]at e;lia
def Inv.tuple(I:Inv X pins σ H s)(h:SqT X.K H a xs):∃b:List Value,Vals xs b/\IsTup s.heap a b.toArray/\xs.length<=sizeLine:=by
 rcases h with h|⟨o,b,n,hk,d,i,j,r⟩
 ·obtain⟨z,b,r,p⟩:=h.ok I.hok;exact⟨b,r,p,z⟩
 ·refine⟨b.toList,r,⟨o,I.kIn a o hk,d,n,by simpa using i⟩,?_⟩;have e:=r.length;simp only[Array.length_toList]at e;lia
def Inv.list_inj(I:Inv X pins σ H s)(h:SqL X.K H a xs)(h':SqL X.K H a ys):xs=ys:=by
 obtain⟨b,r,⟨o,n,e,_,_,d⟩,_⟩:=I.list h;obtain⟨its',l,⟨q,v,i,_,_,j⟩,_⟩:=I.list h';rw[e]at i;cases i;rw[d]at j;injection j with p _
 have:b=its':=by simpa using congrArg Array.toList p
 subst this;exact r.inj l
end
abbrev Cx.wish(X:Cx)(E:Value->Shared->Prop):Cx:={X with xe:=E}
abbrev Cx.nox(X:Cx):Cx:=X.wish λ_ _=>False
theorem Cx.Ok.wish(ok:X.Ok)(E:Value->Shared->Prop):(X.wish E).Ok:=
 ⟨ok.mod,ok.kind,ok.glob,ok.blt,ok.above,ok.inj,ok.has,ok.cab,ok.hd,ok.frames,ok.stk,ok.exf,ok.bs,ok.bsz,ok.noex,ok.exfs,ok.funs,ok.frf⟩
def Cx.Ok.unwish(ok:(X.wish E).Ok):X.Ok:=
 ⟨ok.mod,ok.kind,ok.glob,ok.blt,ok.above,ok.inj,ok.has,ok.cab,ok.hd,ok.frames,ok.stk,ok.exf,ok.bs,ok.bsz,ok.noex,ok.exfs,ok.funs,ok.frf⟩
section
variable{s:Shared}
theorem Inv.wish(I:Inv X pins σ H s)(E:Value->Shared->Prop):Inv (X.wish E) pins σ H s:=⟨I.ok.wish E,I.os,I.bare,I.base,I.loc,I.cell,I.free,I.freeC,I.pin,I.hok,I.len⟩
theorem Inv.unwish(I:Inv (X.wish E) pins σ H s):Inv X pins σ H s:=⟨I.ok.unwish,I.os,I.bare,I.base,I.loc,I.cell,I.free,I.freeC,I.pin,I.hok,I.len⟩
theorem SP.unwish{f:Flow}{s':Shared}(h:SP (X.wish E) pins D f s'):SP X pins D f s':=by
 cases f with
 |next=>obtain⟨σ',a,I,q⟩:=h;exact⟨σ',a,I.unwish,q⟩
 |brk=>obtain⟨σ',a,I,q⟩:=h;exact⟨σ',a,I.unwish,q⟩
 |cont=>obtain⟨σ',a,I,q⟩:=h;exact⟨σ',a,I.unwish,q⟩
 |ret u=>obtain⟨v,σ',a,I,r,q⟩:=h;exact⟨v,σ',a,I.unwish,r,q⟩
theorem PSs.nox{st:List Stmt}{t:TS}(h:PSs X.nox st t):PSs X st t:=λpins s σ H D I a=>
 wpAny_mono (h pins s σ H D (I.wish _) a) (λ_ _ q=>q.unwish) λ_ _ z=>False.elim z
end
section
variable{st:Stmt}{rest:List Stmt}{t u:TS}
def tNext:TS:=λD σ H=>D.nx σ H
def Cc(t u:TS):TS:=λD σ H=>t {D with nx:=u D} σ H
def AT:PSs X [] tNext:=λ_ _ σ H _ I h=>wpAny_execs_nil ⟨σ,H,I,h⟩
def AD(a:PS X st t)(b:PSs X rest u):PSs X (st::rest) (Cc t u):=by
 intro pins s σ H D I h;refine wpAny_execs_cons (thn (a pins s σ H {D with nx:=u D} I h) λf d q=>?_)
 cases f with
 |next=>
  obtain⟨σ',i,j,q⟩:=q;exact b pins d σ' i D j q
 |ret v=>exact q
 |brk=>exact q
 |cont=>exact q
def AE(a:PS X st t):PSs X [st] t:=by
 intro pins s σ H D I h;refine wpAny_execs_cons (thn (a pins s σ H D I h) λf b q=>?_)
 cases f with
 |next=>exact wpAny_execs_nil q
 |ret v=>exact q
 |brk=>exact q
 |cont=>exact q
def tCont:TS:=λD σ H=>D.ct σ H
def Nl:PS X (.Continue pos) tCont:=λ_ _ σ H _ I h=>wpAny_Continue ⟨σ,H,I,h⟩
def Inv.quiet{s:Shared}(I:Inv X pins σ H s):interactive X.env=false:=by simp[interactive,I.ok.kind]
def G8(te:TE):TS:=λD σ H=>te σ H λ_ a=>D.nx σ a
def Am(a:PE X e te)(b:swapsWith e none pos.line X.env=pure false:=by rfl):PS X (.Expr e pos) (G8 te):=by
 intro pins s σ H D I h;exact wpAny_Expr_any (thn (a pins s σ H _ I h) λv l ⟨x,d,i,o,j⟩=>⟨σ,d,i,j⟩) I.quiet b
def EL(te:TE):TS:=λD σ H=>te σ H D.rt
def AI(a:PE X e te):PS X (.Return (some e) pos) (EL te):=by
 intro pins s σ H D I h;exact wpAny_Return_some (thn (a pins s σ H _ I h) λv l ⟨x,b,d,i,j⟩=>⟨x,σ,b,d,i,j⟩)
def De(c:TT)(t u:TS):TS:=λD σ H=>c σ H λb a=>if b=true then t D σ a else u D σ a
def AS{a b:List Stmt}(p:PT X c tc)(q:PSs X a t)(r:PSs X b u):PS X (.If c a b pos) (De tc t u):=by
 intro pins s σ H D I h;refine wpAny_If (thn (p pins s σ H _ I h) λd i v=>?_);obtain⟨j,l,o⟩:=v
 cases d with
 |true=>exact q pins i σ j D l o
 |false=>exact r pins i σ j D l o
end
abbrev TG:=V->W3->Hp->(W3->Hp->Prop)->Prop
abbrev TGs:=List V->W3->Hp->(W3->Hp->Prop)->Prop
def PG(X:Cx)(target:Expr)(t:TG):Prop:=
 ∀ (pins:List (Addr×Obj)) (s:Shared) (σ:W3) (H:Hp) (v:V) (u:Value) (Q:W3->Hp->Prop),Inv X pins σ H s->RelV v u->t v σ H Q->
   wpAny (model X.prog X.w) X.A (assign target X.env u) (λ_ b=>∃σ' a,Inv X pins σ' a b/\Q σ' a) X.xe s
def PGs(X:Cx)(d:List Expr)(t:TGs):Prop:=
 ∀ (pins:List (Addr×Obj)) (s:Shared) (σ:W3) (H:Hp) (vs:List V) (a:List Value) (Q:W3->Hp->Prop),Inv X pins σ H s->Vals vs a->t vs σ H Q->
   wpAny (model X.prog X.w) X.A (assignInOrder ((assignEach d X.env).map (·.2)) a) (λ_ e=>∃σ' b,Inv X pins σ' b e/\Q σ' b) X.xe s
abbrev TSet:=V->V->V->Hp->(Hp->Prop)->Prop
def HW(X:Cx)(t:TSet):Prop:=
 ∀ (pins:List (Addr×Obj)) (s:Shared) (σ:W3) (H:Hp) (o i v:V) (a b u:Value) (Q:Hp->Prop),Inv X pins σ H s->RelV o a->RelV i b->RelV v u->t o i v H Q->
   wpAny (model X.prog X.w) X.A (setItem a b u) (λ_ e=>∃d,Inv X pins σ d e/\Q d) X.xe s
abbrev TIp:=V->V->Hp->VK->Prop
def PIp(X:Cx)(op:Operator)(t:TIp):Prop:=
 ∀ (pins:List (Addr×Obj)) (s:Shared) (σ:W3) (H:Hp) (x y:V) (v u:Value) (Q:VK),Inv X pins σ H s->RelV x v->RelV y u->t x y H Q->
   wpAny (model X.prog X.w) X.A (inplaceOp op v u) (EP X pins σ Q) X.xe s
def Aw(i:Nat):TG:=λv σ H Q=>Q (σ.set i (some v)) H
def Ah{x:Str}(a:X.N.Nodup)(b:X.N[i]? =some x)(d:Loc X.env.scope x)(hf:X.fn x=true\/X.env.scope.names.lookup x=some .local:=by first|exact .inl rfl|exact .inr rfl|assumption):PG X (.Name x pos) (Aw i):=by
 intro pins s σ H v u Q I r h;exact wpAny_assign_Name (Dt I a b d r (λj e=>⟨_,H,e,h⟩) hf)
def gNil:TGs:=λvs σ H Q=>vs=[]/\Q σ H
def FJ(t:TG)(u:TGs):TGs:=λvs σ H Q=>∃v r,vs=v::r/\t v σ H λσ' a=>u r σ' a Q
def CF:PGs X [] gNil:=by
 intro pins s σ H vs a Q I r h;obtain⟨e,h⟩:=h;subst e
 cases r
 exact assignInOrder_nil ⟨σ,H,I,h⟩
def A0{t:TG}{u:TGs}(a:PG X e t)(b:PGs X es u)
 (d:(assignEach (e::es) X.env).map (·.2)=assign e X.env::(assignEach es X.env).map (·.2):=by rfl):PGs X (e::es) (FJ t u):=by
 intro pins s σ H vs y Q I r h;obtain⟨v,z,i,h⟩:=h;subst i
 cases r with
 |cons r j=>
  rw[d];refine assignInOrder_cons (thn (a pins s σ H _ _ _ I r h) λ_ l o=>?_);obtain⟨σ1,p,q,x⟩:=o;exact b pins l σ1 p _ _ Q q j x
def EQ(K:W.Frag)(n:Nat)(t:TGs):TG:=λv σ H Q=>∃a b,v= .ref a/\SqT K H a b/\b.length=n/\t b σ H Q
def Uc{k:Nat}{t:TGs}(l:X.calm=true)(h:PGs X es t)
 (p:(assignEach es X.env).length=n:=by rfl) (d:(assignEach es X.env).findIdx? (·.1)=none:=by rfl):PG X (.Tuple es k pos) (EQ X.K n t):=by
 intro pins s σ H v u Q I r i;obtain⟨a,q,x,y,z,i⟩:=i;subst x
 cases r
 obtain⟨B,j,ht,M⟩:=I.tuple y;refine assign_Tuple_tuple (I.ok.hd l) ht (by simp[p,<-z,j.length]) d λG J=>?_;have L:Inv X pins σ H {s with heap:=G}:=I.kept (t':=s.toks) λb o e=>J b o (Nat.ne_of_lt (Heap.lt_size e)) e;exact h pins _ σ H q _ Q L (by simpa using j) i
def FT(a b:TE)(t:TSet):TG:=λv σ H Q=>a σ H λo d=>b σ d λi e=>t o i v e λh=>Q σ h
def CT{o i:Expr}{ti:TE}{t:TSet}(e:PE X o to)(j:PE X i ti)(l:HW X t)
 (p:∀v,assign (.Subscript o i pos) X.env v=(do
   let a<-holding [v] (eval o X.env)
   let b<-holding [v,a] (eval i X.env)
   standAt pos
   holding [v,a,b] (setItem a b v)
   release [v,a,b] []):=by intro _;rfl):PG X (.Subscript o i pos) (FT to ti t):=by
 intro pins s σ H v u Q I r h;rw[p];refine wpAny_bind (wpAny_holding (thn (e pins s σ H _ I h) λa q d=>?_));obtain⟨x,z,B,G,J⟩:=d;refine wpAny_bind (wpAny_holding (thn (j pins q σ z _ B J) λb L d=>?_));obtain⟨y,M,P,R,S⟩:=d;refine wpAny_bind (wpAny_standAt (wpAny_bind (wpAny_holding (thn (l pins L σ M x y v a b u _ P G R r S) λ_ Z d=>?_))));obtain⟨T,U,Y⟩:=d;exact wpAny_release ⟨σ,T,U,Y⟩
def Bb(te:TE)(g:TG):TS:=λD σ H=>te σ H λx a=>g x σ a D.nx
def B7{g:TG}(a:PE X e te)(hg:PG X tg g)(b:swapsWithSole [tg] e pos.line X.env=pure false:=by rfl)(d:swappedStores [tg] e X.env=pure none:=by rfl)
 (i:(assignEach [tg] X.env).map (·.2)=[assign tg X.env]:=by rfl):PS X (.Assign [tg] e pos) (Bb te g):=by
 intro pins s σ H D I h;refine wpAny_Assign_stores (thn (a pins s σ H _ I h) λv j ⟨x,l,o,p,r⟩=>?_) b d;rw[i];exact thn (hg pins j σ l x v _ o p r) λ_ y q=>q
def Bz{x:Str}(a:X.N.Nodup)(b:X.N[i]? =some x)(d:Loc X.env.scope x)(j:PE X e te)(l:swapsWith e (some (.Name x pos')) pos.line X.env=pure false:=by rfl)(hf:X.fn x=true\/X.env.scope.names.lookup x=some .local:=by first|exact .inl rfl|exact .inr rfl|assumption):
 PS X (.Assign [.Name x pos'] e pos) (Bb te (Aw i)):=by
 intro pins s σ H D I h;refine wpAny_Assign_Name (thn (j pins s σ H _ I h) λv B ⟨y,o,p,q,r⟩=>?_) l;exact Dt p a b d q (λG z=>⟨_,o,z,r⟩) hf
def ML(i:Nat)(te:TE)(a:TIp):TS:=λD σ H=>∃x,σ[i]? =some (some x)/\te σ H λy b=>a x y b λz d=>D.nx (σ.set i (some z)) d
def EC{x:Str}{op:Operator}{ti:TIp}(q:X.N.Nodup)(p:X.N[i]? =some x)(d:Loc X.env.scope x)(B:PE X e te)(G:PIp X op ti)(hf:X.fn x=true\/X.env.scope.names.lookup x=some .local:=by first|exact .inl rfl|exact .inr rfl|assumption):
 PS X (.AugAssign (.Name x pos') op e pos) (ML i te ti):=by
 intro pins s σ H D I h;obtain⟨v,J,h⟩:=h;obtain⟨m,L,M⟩:=I.loc;have j:Vis X.env.scope x:=by rcases d with k|k;exact .inl k;exact .inr (.inl k)
 obtain⟨u,r,l⟩:=M i x v p J j;refine wpAny_AugAssign_Name ?_;have go:wpAny (model X.prog X.w) X.A (eval e X.env) (λw a=>wpAny (model X.prog X.w) X.A (inplaceOp op u w) (λr b=>wpAny (model X.prog X.w) X.A (storeName X.env x r) (λ_=>SP X pins D .next) X.xe b) X.xe a) X.xe s:=by
  refine thn (B pins s σ H _ I h) λw P o=>?_;obtain⟨y,Q,R,S,T⟩:=o;refine thn (G pins P σ Q v y u w _ R r S T) λz s2 o=>?_;obtain⟨zv,U,Y,Z,q2⟩:=o;exact Dt Y q p d Z (λs3 I3=>⟨_,U,I3,q2⟩) hf
 rcases l with⟨hk,hm⟩|⟨hk,c,hc,hcell⟩
 ·exact wpAny_loadName_local I.ok.kind hk L hm go
 ·rcases hk with hk|hk
  ·exact wpAny_loadName_cell I.ok.kind hk hc hcell go
  ·rcases d with k|k
   ·have:X.env.scope.names.lookup x=some .free:=hk;rw[k]at this;cases this
   ·have:X.env.scope.names.lookup x=some .free:=hk;rw[k]at this;cases this
def Le(e h te:TE)(a:V->V->Hp->VK->Prop)(d:TIp)(b:TSet):TS:=λD σ H=>e σ H λo j=>h σ j λi l=>a o i l λx p=>te σ p λy q=>d x y q λz r=>b o i z r λv=>D.nx σ v
def Mb(X:Cx)(t:V->V->Hp->VK->Prop):Prop:=
 ∀ (pins:List (Addr×Obj)) (s:Shared) (σ:W3) (H:Hp) (o i:V) (a b:Value) (Q:VK),Inv X pins σ H s->RelV o a->RelV i b->t o i H Q->
   wpAny (model X.prog X.w) X.A (getItem a b) (EP X pins σ Q) X.xe s
def Dz{o i:Expr}{ti:TE}{tip:TIp}{tset:TSet}{op:Operator}(r:PE X o to)(x:PE X i ti)(hg:Mb X tget)(y:PE X e te)(z:PIp X op tip)(B:HW X tset)
 (G:∀a b new,augStore i a b new=(do holding [new,a,b] (setItem a b new);release [new,a,b] [];pure .next):=by intros;rfl):PS X (.AugAssign (.Subscript o i tpos) op e pos) (Le to ti te tget tip tset):=by
 intro pins s σ H D I h;refine wpAny_AugAssign_SubscriptAny (thn (r pins s σ H _ I h) λa J ⟨j,L,M,l,P⟩=>?_) G;refine thn (x pins J σ L _ M P) λb Q d=>?_;obtain⟨p,R,S,q,T⟩:=d;refine thn (hg pins Q σ R j p a b _ S l q T) λold U d=>?_;obtain⟨Y,Z,I3,r3,q3⟩:=d;refine thn (y pins U σ Z _ I3 q3) λv s4 d=>?_;obtain⟨x4,H4,I4,r4,q4⟩:=d;refine thn (z pins s4 σ H4 Y x4 old v _ I4 r3 r4 q4) λnew s5 d=>?_;obtain⟨x5,H5,I5,r5,q5⟩:=d;exact thn (B pins s5 σ H5 j p x5 a b new _ I5 l q r5 q5) λ_ s6 ⟨H6,I6,q6⟩=>⟨σ,H6,I6,q6⟩
def ipI(f:Int->Int->Int):TIp:=λx y H Q=>∃i j,x= .int i/\y= .int j/\Q (.int (f i j)) H
def Cq:PIp X .Add (ipI λi j=>i+j):=by
 intro pins s σ H x y v u Q I a b h;obtain⟨i,j,d,e,q⟩:=h;subst d;subst e;obtain⟨t,rfl⟩:=a;obtain⟨l,rfl⟩:=b;exact iadd_int ⟨.int _,H,I.tok _,⟨_,rfl⟩,q⟩
def U2:PIp X .Sub (ipI λi j=>i-j):=by
 intro pins s σ H x y v u Q I a b h;obtain⟨i,j,d,e,q⟩:=h;subst d;subst e;obtain⟨t,rfl⟩:=a;obtain⟨l,rfl⟩:=b;exact isub_int ⟨.int _,H,I.tok _,⟨_,rfl⟩,q⟩
def Kw(c:TT)(tb:TS):TS:=λD σ H=>∃W:Nat->W3->Hp->Prop,(∃m,W m σ H)/\∀m σ H,W m σ H->
 c σ H λb a=>if b=true then∃N:W3->Hp->Prop,(∀σ' d,N σ' d->∃e,e<m/\W e σ' d)/\tb {D with nx:=N,ct:=N,bk:=D.nx} σ a else D.nx σ a
def JY(q:PassesOwn (model X.prog X.w) X.A X.env X.xe)(G:PT X c tc)(J:PSs X body tb):PS X (.While c body [] pos) (Kw tc tb):=by
 intro pins s σ H D I h;obtain⟨W,⟨L,M⟩,turn⟩:=h;refine wpAny_While (codeAny_whileLoop (λn P=>∃σ' r,Inv X pins σ' r P/\W n σ' r) ?_ L ⟨σ,H,I,M⟩);rintro n Q ⟨σ1,x,R,S⟩;refine wpAny_passesOwn q (thn (G pins Q σ1 x _ R (turn n σ1 x S)) λb T U=>?_);obtain⟨y,z,d⟩:=U
 cases b with
 |true=>
  obtain⟨N,B,d⟩:=d;rw[if_pos rfl];refine wpAny_passesOwn q (thn (J pins T σ1 y _ z d) λf Y e=>?_)
  cases f with
  |next=>
   obtain⟨σ3,a,i,j⟩:=e;obtain⟨l,o,p⟩:=B σ3 a j;exact⟨l,o,σ3,a,i,p⟩
  |cont=>
   obtain⟨σ3,a,i,j⟩:=e;obtain⟨l,o,p⟩:=B σ3 a j;exact⟨l,o,σ3,a,i,p⟩
  |brk=>exact e
  |ret v=>exact e
 |false=>
  rw[if_neg Bool.false_ne_true];exact wpAny_execs_nil ⟨σ1,y,z,d⟩
structure W4 where
 go:Nat->Hp->Prop
 yld:Nat->Hp->V->Hp->Prop
 stop:Nat->Hp->Prop
def BM(X:Cx)(pins:List (Addr×Obj))(H:Hp)(b:Addr):Prop:=
 H b=none/\b≠X.env.locals/\b∉X.fs/\(b∈X.ex\/X.s₀.heap.objs.size<=b)/\(∀x c,X.env.cells.lookup x=some c->c≠b)/\∀p∈X.pn++pins,p.1≠b
def Inv.fpOk{s:Shared}(I:Inv X pins σ H s)(a:s.heap.objs.size<=b)(d:H' b=none):BM X pins H' b:=by
 refine⟨d,Nat.ne_of_gt (Nat.lt_of_lt_of_le I.lt a),I.nofs a, .inr (Nat.le_trans I.sz a),λx c e z=>?_,λp h z=>?_⟩
 ·obtain⟨v,q⟩:=I.cell x c e;exact absurd (Nat.lt_of_lt_of_le q.lt (by rw[z];exact a)) (Nat.lt_irrefl _)
 ·exact absurd (Nat.lt_of_lt_of_le (Heap.lt_size (I.pin p h).1) (by rw[z];exact a)) (Nat.lt_irrefl _)
structure Turn (P:Program) (w:World) (K:W.Frag) (tg:Expr) (J:W4) (fp:List Addr) (it:Addr) (tn:Nat->Heap->Prop):Prop where
 mem:it∈fp
 obj:∀i h,tn i h->∀b∈fp,∃o,h.get? b=some o/\∀v,o.data≠ .cell v
 keep:∀i h h',tn i h->(∀b∈fp,∀o,h.get? b=some o->h'.get? b=some o)->tn i h'
 item:∀ (X:Cx),X.prog=P->X.w=w->X.K=K->X.calm=true->∀ (i:Nat) (pins:List (Addr×Obj)) (s:Shared) (σ:W3) (H:Hp) (E:Value->Shared->Prop),Inv X pins σ H s->(∀b∈fp,BM X pins H b)->tn i s.heap->J.go i H->
  wpAny (model P w) X.A (pyNext (.ref it)) (λr s1=>∃u,r=some u/\
   wpAny (model P w) X.A (letOwnedTupleGo tg (.ref it) u) (λ_ s2=>∃x H',Inv X pins σ H' s2/\RelV x u/\J.yld i H x H'/\tn (i+1) s2.heap/\∀b∈fp,H' b=none) E s1) E s
 done:∀ (X:Cx),X.prog=P->X.w=w->X.K=K->X.calm=true->∀ (i:Nat) (pins:List (Addr×Obj)) (s:Shared) (σ:W3) (H:Hp) (E:Value->Shared->Prop),Inv X pins σ H s->(∀b∈fp,BM X pins H b)->tn i s.heap->J.stop i H->
  wpAny (model P w) X.A (pyNext (.ref it)) (λr s1=>r=none/\Inv X pins σ H s1) E s
 self:∀ (A:Around) (i:Nat) (s:Shared) (Q:Value->Shared->Prop) (E:Value->Shared->Prop),tn i s.heap->Q (.ref it) s->wpAny (model P w) A (pyIter (.ref it)) Q E s
abbrev TI:=W3->Hp->(W4->Hp->Prop)->Prop
end L2
variable{g:TG}
namespace L2
variable{dx:Addr}{p:Addr×Obj}{vs:Array Value}{b:Bool}{op':CmpOp}{a:Expr}{g:Int->Int->Int}{C:Int->Int->Prop}{kw:List (Str×Value)}{ns:List Str}{its:List Value}{o:Option Value}{f:Str}{mA:Str->Option Value}{v x y:V}{r:V->Hp->VK->Prop}{R:V->V->Hp->Prop}{rd:V->V->Hp->VK->Prop}{Q:Value×List Value->Shared->Prop}
def PIE(X:Cx)(pins:List (Addr×Obj))(σ:W3)(tg:Expr)(R:W4->Hp->Prop)(a:Value)(e:Shared):Prop:=
 ∃ (h:Addr) (i:List Addr) (j:Nat->Heap->Prop) (J:W4) (d:Hp),a= .ref h/\Inv X pins σ d e/\Turn X.prog X.w X.K tg J i h j/\j 0 e.heap/\(∀b∈i,BM X pins d b)/\R J d
def PI(X:Cx)(tg iter:Expr)(a:TI):Prop:=
 ∀ (pins:List (Addr×Obj)) (s:Shared) (σ:W3) (H:Hp) (R:W4->Hp->Prop),Inv X pins σ H s->a σ H R->
   wpAny (model X.prog X.w) X.A (eval iter X.env) (λv b=>wpAny (model X.prog X.w) X.A (pyIter v) (PIE X pins σ tg R) X.xe b) X.xe s
def EK{s:Shared}{it:Addr}{u:Value}{o:Obj}{n:String}{Q:Unit->Shared->Prop}(b:s.heap.get? it=some o)(d:o.cls= .type n)(hd:o.data= .fields vs)
 (e:["enumerate","zip","dict_itemiterator","dict_reverseitemiterator","odict_iterator","itertools.zip_longest","itertools.pairwise"].contains n=false) (a:Q () s):wpAny M A (letOwnedTupleGo tg (.ref it) u) Q E s:=by
 unfold letOwnedTupleGo
 cases tg<;>first
  |exact wpAny_pure a
  |(cases u<;>first
     |exact wpAny_pure a
     |(refine wpAny_bind (wpAny_load b ?_)
       rw[d,hd];show wpAny M A (if(["enumerate","zip","dict_itemiterator","dict_reverseitemiterator","odict_iterator","itertools.zip_longest","itertools.pairwise"].contains n&&vs[0]? ==some (rawInt _))=true then _ else _) Q E s;rw[if_neg (by intro h;rw[e,Bool.false_and]at h;cases h)];exact wpAny_pure a))
def Itl(K:W.Frag)(a:Addr):W4:=
 ⟨λi H=>∃b x,SqL K H a b/\b[i]? =some x,λi H x d=>d=H/\∀b,SqL K H a b->b[i]? =some x,λi H=>∃b,SqL K H a b/\b.length<=i⟩
def Itr(a:Int)(n:Nat):W4:=⟨λi _=>i<n,λi H x b=>b=H/\x= .int (a+i),λi _=>n<=i⟩
def Ox(a it:Addr):Turn P w K tg (Itl K a) [it] it (λi h=>h.IsListIter it a i) where
 mem:=by simp
 obj:=λi h st b j=>by
  have e:b=it:=by simpa using j
  subst e;obtain⟨o,e,c,d⟩:=st;exact⟨o,e,λv z=>by rw[d]at z;cases z⟩
 keep:=λi h q st k=>st.at λo e=>k it (by simp) o e
 item:=by
  intro X B G J Z i pins s σ H E I r st hg;subst B G J;obtain⟨xs,x,y,L⟩:=hg;obtain⟨M,Q,p,hz⟩:=I.list y;obtain⟨u,hu,ru⟩:=Q.get L;obtain⟨R,S,f2,T,U,Y⟩:=r it (by simp);refine wpAny_pyNext_list_item st p.isList (x:=u) (by simpa using hu) λq l sb=>?_;have I1:Inv X pins σ H {s with heap:=q}:=I.turned (t':=s.toks) (λb o j e=>(sb.2 b j).trans e) R S T U Y;obtain⟨o,e,c,d⟩:=id l;exact⟨u,rfl,EK (s:={s with heap:=q}) e c d (by decide) ⟨x,H,I1,ru,⟨rfl,λys hy=>by rw[I.list_inj hy y];exact L⟩,l,λb j=>(r b j).1⟩⟩
 done:=by
  intro X B G J Z i pins s σ H E I r st hg;subst B G J;obtain⟨xs,y,L⟩:=hg;obtain⟨M,Q,p,hz⟩:=I.list y;obtain⟨R,S,f2,T,U,Y⟩:=r it (by simp);have hl:=Q.length;exact wpAny_pyNext_list_end (I.ok.hd Z) st p.isList (by simp;lia) λq eb=>⟨rfl,I.turned (t':=s.toks) (λb o j e=>eb b o j e) R S T U Y⟩
 self:=λ_ _ _ _ _ st h=>wpAny_pyIter_listiter st h
def OA(it:Addr)(j:Int)(n:Nat):Turn P w K tg (Itr j n) [it] it (λi h=>IsRangeIter h it (j+(i:Nat)*1) ((n:Int)-(i:Nat)) 1) where
 mem:=by simp
 obj:=λi h st b a=>by
  have e:b=it:=by simpa using a
  subst e;exact⟨_,st,λv z=>by
   have R:Data.fields _=Data.cell v:=z
   cases R⟩
 keep:=λi h l st k=>k it (by simp) _ st
 item:=by
  intro X q r x y i pins s σ H E I p st hg;subst q r x;obtain⟨B,G,S,J,L,M⟩:=p it (by simp);have W:=Walks.range (prog:=X.prog) (w:=X.w) (I.ok.hd y) it j 1 n;refine W.item i s _ _ hg st λv l Q T d U=>?_;obtain⟨t,rfl⟩:=T;have Y:Inv X pins σ H {s with heap:=l,toks:=Q}:=I.turned (λb o a e=>U b o (by simpa using a) e) B G J L M;refine⟨_,rfl,EK (s:={s with heap:=l,toks:=Q}) (n:="range_iterator") d rfl rfl (by decide) ⟨.int (j+i),H,Y,⟨t,?_⟩,⟨rfl,rfl⟩,d,λb a=>(p b a).1⟩⟩;rw[Int.mul_one]
 done:=by
  intro X q r x y i pins s σ H E I p st hg;subst q r x;obtain⟨B,G,S,J,L,M⟩:=p it (by simp);exact wpAny_pyNext_range_end (I.ok.hd y) st (by have:n<=i:=hg;lia) λl Z=>⟨rfl,I.turned (t':=s.toks) (λb o a e=>Z b o a e) B G J L M⟩
 self:=λ_ _ _ _ _ st h=>wpAny_pyIter_rangeiter st h
def HI(K:W.Frag)(d:TE):TI:=λσ H R=>d σ H λx b=>∃a,x= .ref a/\(∃e,SqL K b a e)/\R (Itl K a) b
def SK{l:Expr}{tl:TE}(j:PE X l tl):PI X tg l (HI X.K tl):=by
 intro pins s σ H R I h;refine thn (j pins s σ H _ I h) λv d r=>?_;obtain⟨x,y,i,z,B⟩:=r;obtain⟨a,e,⟨M,G⟩,q⟩:=B;subst e
 cases z
 obtain⟨J,P,p,Q⟩:=i.list G;refine wpAny_pyIter_list p.isList ?_;refine⟨d.heap.objs.size,[d.heap.objs.size],_,_,y,rfl,i.kept (t':=d.toks) λb o e=>Heap.get?_push_of_some _ e,Ox a _,⟨_,Heap.get?_push_size _ rfl,rfl,rfl⟩,λb L=>?_,q⟩;have e:b=d.heap.objs.size:=by simpa using L
 subst e;exact i.fpOk (Nat.le_refl _) (i.hok.fresh (Nat.le_refl _))
theorem Qh{s:Shared}{R:W4->Hp->Prop}{hi:Int}{t u v:Tok}{tk:Nat}(I:Inv X pins σ H s)(d: -(2^62)<=lo)(h:lo<2^62)(i: -(2^62)<=hi)(j:hi<2^62)
 (q:R (Itr lo (hi-lo).toNat) H):wpAny (model X.prog X.w) X.A (pyIter (.ref s.heap.objs.size)) (PIE X pins σ tg R) E {s with heap:=s.heap.push {cls:= .type "range",data:= .fields #[.int lo t, .int hi u, .int 1 v]},toks:=tk}:=by
 refine wpAny_pyIter_range (IsRange.new ..) (small_one d h i j) ?_;have a:Inv X pins σ H {s with heap:=s.heap.push {cls:= .type "range",data:= .fields #[.int lo t, .int hi u, .int 1 v]},toks:=tk}:=I.kept λb o e=>Heap.get?_push_of_some _ e;refine⟨(s.heap.push {cls:= .type "range",data:= .fields #[.int lo t, .int hi u, .int 1 v]}).objs.size,[(s.heap.push {cls:= .type "range",data:= .fields #[.int lo t, .int hi u, .int 1 v]}).objs.size],_,_,H,rfl,
  a.kept (t':=tk) λb o e=>Heap.get?_push_of_some _ e,OA _ lo (hi-lo).toNat,?_,λb l=>?_,q⟩
 ·have p:lo+((0:Nat):Int)*1=lo:=by simp
  have r:(((hi-lo).toNat:Nat):Int)-((0:Nat):Int)=Builtin.Range.rangeSize lo hi 1:=by rw[rangeSize_one];split<;>lia
  show IsRangeIter _ _ (lo+((0:Nat):Int)*1) ((((hi-lo).toNat:Nat):Int)-((0:Nat):Int)) 1;rw[p,r];exact Heap.get?_push_size _ rfl
 ·have e:b=(s.heap.push {cls:= .type "range",data:= .fields #[.int lo t, .int hi u, .int 1 v]}).objs.size:=by simpa using l
  subst e;exact a.fpOk (Nat.le_refl _) (a.hok.fresh (Nat.le_refl _))
def Lx(a:TA):TI:=λσ H R=>a σ H λvs b=>∃j:Int,vs=[.int j]/\ -(2^62)<=j/\j<2^62/\R (Itr 0 j.toNat) b
def CM{ta:TA}{p:Pos}(hg:Gl X "range")(d:X.mg "range"=none)(i:PA X [a] ta)(l:starEach [a] X.env=[(false,eval a X.env)]:=by rfl):PI X tg (.Call (.Name "range" p) [a] [] pos) (Lx ta):=by
 intro pins s σ H R I h;refine Call_ (B0 I hg d boot_range (PyProof.Rows.callWith_type1 (thn (i pos pins s σ H _ I h) λz B ⟨vs,G,o,v,b⟩=>?_) l rfl));obtain⟨j,e,b,x,q⟩:=b;subst e
 cases v with
 |cons r y=>
  cases y
  obtain⟨t,rfl⟩:=r;exact call_range_1 (Qh o (by lia) (by lia) b x (by simpa using q))
def MJ(d:TI)(g:TG)(tb:TS):TS:=λD σ H=>d σ H λJ e=>∃W:Nat->Nat->W3->Hp->Prop,(∃m,W 0 m σ e)/\∀i m σ H,W i m σ H->
 (J.stop i H/\D.nx σ H)\/(J.go i H/\∃N:W3->Hp->Prop,(∀σ' a,N σ' a->∃b,b<m/\W (i+1) b σ' a)/\∀x a,J.yld i H x a->g x σ a λσ2 h=>tb {D with nx:=N,ct:=N,bk:=D.nx} σ2 h)
def DC(a:List Addr)(h:Heap):List (Addr×Obj):=a.filterMap λb=>(h.get? b).map λo=>(b,o)
def Cf{b:Addr}{o:Obj}(a:b∈fp)(e:h.get? b=some o):(b,o)∈DC fp h:=List.mem_filterMap.mpr ⟨b,a,by rw[e];rfl⟩
def PV(a:p∈DC fp h):p.1∈fp/\h.get? p.1=some p.2:=by
 obtain⟨b,d,e⟩:=List.mem_filterMap.mp a
 cases q:h.get? b with
 |none=>rw[q]at e;cases e
 |some o=>
  rw[q]at e;have i:(b,o)=p:=Option.some.inj e;subst i;exact⟨d,q⟩
def Inv.pinned{s:Shared}(I:Inv X pins σ H s)(hf:∀b∈fp,BM X pins H b)(i:∀b∈fp,∃o,s.heap.get? b=some o/\∀v,o.data≠ .cell v):Inv X (pins++DC fp s.heap) σ H s:=
 I.pins_of λp j=>(List.mem_append.mp j).elim (λz=>I.pin p (List.mem_append_right _ z)) λz=>by
  obtain⟨a,e⟩:=PV z;obtain⟨l,q,r,_⟩:=hf p.1 a;obtain⟨o,h,d⟩:=i p.1 a;rw[e]at h;cases h;exact⟨e,l,q,r,d⟩
def Inv.unpinned{pl:List (Addr×Obj)}{s:Shared}(I:Inv X (pins++pl) σ H s):Inv X pins σ H s:=I.pins_of λp a=>I.pin p (List.mem_append_right _ (List.mem_append_left _ a))
def A8{wi:TI}{g:TG}(B:PassesOwn (model X.prog X.w) X.A X.env X.xe)(hc:X.calm=true)(hi:PI X tg iter wi)(hg:PG X tg g)(a:PSs X body tb)
 (hs:∀x,foldedSetIterable iter X.env x=pure x:=by intro _;rfl):PS X (.For tg iter body [] pos) (MJ wi g tb):=by
 intro pins s σ H D I h;refine wpAny_For (thn (hi pins s σ H _ I h) λv s1 h1=>thn h1 λitv s2 h2=>?_) hs;obtain⟨it,G,tn,J,H2,e,I2,T,R,f2,W,⟨m0,w0⟩,turn⟩:=h2;subst e;have j:∀ {H':Hp},(∀b∈G,H' b=none)->∀b∈G,BM X pins H' b:=λhn b a=>⟨hn b a,(f2 b a).2⟩;refine codeAny_forLoop_any (λn s'=>∃i σ' H',Inv X pins σ' H' s'/\tn i s'.heap/\(∀b∈G,H' b=none)/\W i n σ' H') ?_ m0 ⟨0,σ,H2,I2,R,λb a=>(f2 b a).1,w0⟩;rintro n s3 ⟨i,σ3,Q,I3,L,M,w3⟩;rcases turn i n σ3 Q w3 with⟨stop,qn⟩|⟨go,N,hN,step⟩
 ·refine wpAny_passesOwn B (thn (T.done X rfl rfl rfl hc i pins s3 σ3 Q X.xe I3 (j M) L stop) λr s4 y=>?_);obtain⟨S,I4⟩:=y;subst S;exact wpAny_execs_nil ⟨σ3,Q,I4,qn⟩
 ·refine wpAny_passesOwn B (thn (T.item X rfl rfl rfl hc i pins s3 σ3 Q X.xe I3 (j M) L go) λr s4 y=>?_);obtain⟨u,S,h4⟩:=y;subst S;refine wpAny_passesOwn B (thn h4 λ_ s5 y=>?_);obtain⟨x,H5,I5,r5,y5,z,U⟩:=y;have Y:=I5.pinned (j U) (T.obj _ _ z);refine wpAny_passesOwn B (thn (hg _ s5 σ3 H5 x u _ Y r5 (step x H5 y5)) λ_ s6 y=>?_);obtain⟨σ6,H6,I6,q6⟩:=y;refine wpAny_passesOwn B (thn (a _ s6 σ6 H6 _ I6 q6) λf Z q=>?_);have again:∀ {σ7:W3} {l:Hp},Inv X (pins++DC G s5.heap) σ7 l Z->N σ7 l->∃m,m<n/\∃i σ' H',Inv X pins σ' H' Z/\tn i Z.heap/\(∀b∈G,H' b=none)/\W i m σ' H':=fun{σ7 l} p P=>by
   obtain⟨m',hm,w7⟩:=hN σ7 l P;refine⟨m',hm,i+1,σ7,l,p.unpinned,T.keep _ _ _ z λb a o e=>(p.pin (b,o) (List.mem_append_right _ (List.mem_append_right _ (Cf a e)))).1,λb a=>?_,w7⟩;obtain⟨o,e,d⟩:=T.obj _ _ z b a;exact(p.pin (b,o) (List.mem_append_right _ (List.mem_append_right _ (Cf a e)))).2.1
  cases f with
  |next=>obtain⟨σ7,l,p,P⟩:=q;exact again p P
  |cont=>obtain⟨σ7,l,p,P⟩:=q;exact again p P
  |brk=>obtain⟨σ7,l,p,q⟩:=q;exact⟨σ7,l,p.unpinned,q⟩
  |ret v=>obtain⟨x7,σ7,l,p,r7,q⟩:=q;exact⟨x7,σ7,l,p.unpinned,r7,q⟩
theorem RD{a:Addr}{g:TG}(Pv:Nat->W3->Hp->Prop)(h0:Pv 0 σ H)(l:∀i σ H,i<=xs.length->Pv i σ H->SqL K H a xs)
 (o:∀i x σ H,xs[i]? =some x->Pv i σ H->g x σ H λσ2 h=>tb {D with nx:=Pv (i+1),ct:=Pv (i+1),bk:=D.nx} σ2 h) (hd:∀σ H,Pv xs.length σ H->D.nx σ H):
 ∃W:Nat->Nat->W3->Hp->Prop,(∃m,W 0 m σ H)/\∀i m σ H,W i m σ H->
  ((Itl K a).stop i H/\D.nx σ H)\/((Itl K a).go i H/\∃N:W3->Hp->Prop,(∀σ' b,N σ' b->∃j,j<m/\W (i+1) j σ' b)/\∀x b,(Itl K a).yld i H x b->g x σ b λσ2 h=>tb {D with nx:=N,ct:=N,bk:=D.nx} σ2 h):=by
 refine⟨λi m σ H=>m=xs.length-i/\i<=xs.length/\Pv i σ H,⟨xs.length,by simp,Nat.zero_le _,h0⟩,?_⟩;rintro i m σ H ⟨rfl,r,p⟩;have q:=l i σ H r p
 by_cases d:i<xs.length
 ·refine .inr ⟨⟨xs,xs[i],q,by simp[d]⟩,Pv (i+1),λσ' b v=>⟨xs.length-(i+1),by lia,rfl,d,v⟩,λx b y=>?_⟩;obtain⟨e,y⟩:=y;subst e;exact o i x σ _ (y xs q) p
 ·have e:i=xs.length:=by lia
  subst e;exact .inl ⟨⟨xs,q,Nat.le_refl _⟩,hd σ H p⟩
theorem Py{g:TG}(Pv:Nat->W3->Hp->Prop)(h0:Pv 0 σ H)
 (j:∀i σ H,i<n->Pv i σ H->g (.int (lo+i)) σ H λσ2 d=>tb {D with nx:=Pv (i+1),ct:=Pv (i+1),bk:=D.nx} σ2 d) (hd:∀σ H,Pv n σ H->D.nx σ H):
 ∃W:Nat->Nat->W3->Hp->Prop,(∃m,W 0 m σ H)/\∀i m σ H,W i m σ H->
  ((Itr lo n).stop i H/\D.nx σ H)\/((Itr lo n).go i H/\∃N:W3->Hp->Prop,(∀σ' a,N σ' a->∃h,h<m/\W (i+1) h σ' a)/\∀x a,(Itr lo n).yld i H x a->g x σ a λσ2 d=>tb {D with nx:=N,ct:=N,bk:=D.nx} σ2 d):=by
 refine⟨λi m σ H=>m=n-i/\i<=n/\Pv i σ H,⟨n,by simp,Nat.zero_le _,h0⟩,?_⟩;rintro i m σ H ⟨rfl,o,p⟩
 by_cases b:i<n
 ·refine .inr ⟨b,Pv (i+1),λσ' a l=>⟨n-(i+1),by lia,rfl,b,l⟩,λx a y=>?_⟩;obtain⟨e,y⟩:=y;subst e y;exact j i σ _ b p
 ·have e:i=n:=by lia
  subst e;exact .inl ⟨Nat.le_refl _,hd σ H p⟩
abbrev R2:=V->V->Hp->VK->Prop
def OpR(X:Cx)(f:Value->Value->Sem Value)(r:R2):Prop:=
 ∀ (pins:List (Addr×Obj)) (s:Shared) (σ:W3) (H:Hp) (x y:V) (v u:Value) (Q:VK),Inv X pins σ H s->RelV x v->RelV y u->r x y H Q->
   wpAny (model X.prog X.w) X.A (f v u) (EP X pins σ Q) X.xe s
def UnR(X:Cx)(f:Value->Sem Value)(r:V->Hp->VK->Prop):Prop:=
 ∀ (pins:List (Addr×Obj)) (s:Shared) (σ:W3) (H:Hp) (x:V) (v:Value) (Q:VK),Inv X pins σ H s->RelV x v->r x H Q->
   wpAny (model X.prog X.w) X.A (f v) (EP X pins σ Q) X.xe s
def CallR(X:Cx)(f:Value)(r:List V->Hp->VK->Prop):Prop:=
 ∀ (pins:List (Addr×Obj)) (s:Shared) (σ:W3) (H:Hp) (a:List V) (b:List Value) (Q:VK),Inv X pins σ H s->Vals a b->r a H Q->
   wpAny (model X.prog X.w) X.A (call f b) (EP X pins σ Q) X.xe s
def WM(X:Cx)(r:V->Hp->(Bool->Hp->Prop)->Prop):Prop:=
 ∀ (pins:List (Addr×Obj)) (s:Shared) (σ:W3) (H:Hp) (x:V) (v:Value) (Q:Bool->Hp->Prop),Inv X pins σ H s->RelV x v->r x H Q->
   wpAny (model X.prog X.w) X.A (truthy v) (TP X pins σ Q) X.xe s
def tOp(r:R2)(a tb:TE):TE:=λσ H Q=>a σ H λx b=>tb σ b λy d=>r x y d Q
def tUn(r:V->Hp->VK->Prop)(a:TE):TE:=λσ H Q=>a σ H λx b=>r x b Q
def rI(C:Int->Int->Prop)(g:Int->Int->V):R2:=λx y H Q=>∃i j,x= .int i/\y= .int j/\C i j/\Q (g i j) H
def rI0(g:Int->Int->V):R2:=λx y H Q=>∃i j,x= .int i/\y= .int j/\Q (g i j) H
def rU(g:Int->V):V->Hp->VK->Prop:=λx H Q=>∃i,x= .int i/\Q (g i) H
section
variable{b c:Expr}{tb tc:TE}
def HV(o:PE X a ta)(p:PE X b tb){s:Shared}(I:Inv X pins σ H s)
 (h:ta σ H λx l=>tb σ l λy d=>R x y d) {Q:Value->Shared->Prop} {f:Value->Value->Sem Value}
 (hf:∀v u j x y d,Inv X pins σ d j->RelV x v->RelV y u->R x y d->wpAny (model X.prog X.w) X.A (f v u) Q X.xe j):
 wpAny (model X.prog X.w) X.A (eval a X.env) (λv e=>wpAny (model X.prog X.w) X.A (eval b X.env) (λu i=>wpAny (model X.prog X.w) X.A (f v u) Q X.xe i) X.xe e) X.xe s:=by
 refine thn (o pins s σ H _ I h) λv q ⟨x,l,r,z,B⟩=>?_;refine thn (p pins q σ l _ r B) λu j ⟨y,d,G,J,L⟩=>?_;exact hf v u j x y d G z J L
def AJ{op:Operator}{r:R2}(d:OpR X (binaryOp op) r)(e:PE X a ta)(i:PE X b tb):PE X (.BinOp a op b pos) (tOp r ta tb):=by
 intro pins s σ H Q I h;exact wpAny_BinOp (HV e i I h λv u j x y l o p z q=>d pins j σ l x y v u Q o p z q)
def B2{op:UnaryOp}(d:UnR X (unaryOp op) r)(e:PE X a ta):PE X (.UnaryOp op a pos) (tUn r ta):=by
 intro pins s σ H Q I h;exact UnaryOp_ (thn (e pins s σ H _ I h) λv i ⟨x,j,l,o,p⟩=>d pins i σ j x v Q l o p)
def opI{f:Value->Value->Sem Value}
 (rule:∀ (i j:Int) (t u:Tok) (s:Shared) (Q:Value->Shared->Prop) (E:Value->Shared->Prop),C i j->Q (.int (g i j) s.toks) {s with toks:=s.toks+1}->wpAny (model X.prog X.w) X.A (f (.int i t) (.int j u)) Q E s):
 OpR X f (rI C λi j=> .int (g i j)):=by
 intro pins s σ H x y v u Q I d e h;obtain⟨i,j,rfl,rfl,l,q⟩:=h;obtain⟨t,rfl⟩:=d;obtain⟨o,rfl⟩:=e;exact rule i j t o s _ _ l ⟨.int (g i j),H,I.tok _,⟨_,rfl⟩,q⟩
def WF{f:Value->Value->Sem Value}
 (rule:∀ (i j:Int) (t u:Tok) (s:Shared) (Q:Value->Shared->Prop) (E:Value->Shared->Prop),Q (.int (g i j) s.toks) {s with toks:=s.toks+1}->wpAny (model X.prog X.w) X.A (f (.int i t) (.int j u)) Q E s):
 OpR X f (rI0 λi j=> .int (g i j)):=by
 intro pins s σ H x y v u Q I d e h;obtain⟨i,j,rfl,rfl,q⟩:=h;obtain⟨t,rfl⟩:=d;obtain⟨l,rfl⟩:=e;exact rule i j t l s _ _ ⟨.int (g i j),H,I.tok _,⟨_,rfl⟩,q⟩
def FQ{f:Value->Value->Sem Value}{g:Int->Int->Bool}
 (rule:∀ (i j:Int) (t u:Tok) (s:Shared) (Q:Value->Shared->Prop) (E:Value->Shared->Prop),Q (.bool (g i j)) s->wpAny (model X.prog X.w) X.A (f (.int i t) (.int j u)) Q E s):
 OpR X f (rI0 λi j=> .bl (g i j)):=by
 intro pins s σ H x y v u Q I d e h;obtain⟨i,j,rfl,rfl,q⟩:=h;obtain⟨t,rfl⟩:=d;obtain⟨l,rfl⟩:=e;exact rule i j t l s _ _ ⟨.bl (g i j),H,I,rfl,q⟩
def WO(i j:Int):Prop:=0<j/\j<1073741824
def Me(i j:Int):Prop:=0<=j/\j<=1000000/\i.natAbs<2^64
def CMul(i j:Int):Prop:=(-(2^64)<i/\i<2^64)\/(-(2^64)<j/\j<2^64)
def CMul.ok{i j:Int}(h:CMul i j):IntMulOk i j:=by
 rcases h with⟨h1,h2⟩|⟨h1,h2⟩
 ·exact .of_left (intBits_le_64 h1 h2)
 ·exact .of_right (intBits_le_64 h1 h2)
def op_add:OpR X (binaryOp .Add) (rI0 λi j=> .int (i+j)):=WF λ_ _ _ _ _ _ _ q=>add_int q
def op_mul:OpR X (binaryOp .Mult) (rI CMul λi j=> .int (i*j)):=opI λ_ _ _ _ _ _ _ d q=>mul_int q d.ok
theorem Sa:OpR X (binaryOp .FloorDiv) (rI WO λi j=> .int (i/j)):=opI λi j _ _ _ _ _ d q=>by
 have e:(0:Int)<j:=d.1;have h:j<1073741824:=d.2;exact floordiv_int (by lia) (by rw[Int.fdiv_eq_ediv_of_nonneg i (by lia)];exact q) (.inl (PyProof.noPylong_small (by lia)))
def DF:OpR X (binaryOp .Mod) (rI (λ_ j=>0<j) λi j=> .int (i%j)):=opI λi j _ _ _ _ _ d q=>by
 have e:(0:Int)<j:=d;exact mod_int' (by lia) (by rw[Int.fmod_eq_emod_of_nonneg i (by lia)];exact q)
def Ui:OpR X (binaryOp .Pow) (rI Me λi j=> .int (i^j.toNat)):=opI λ_ _ _ _ _ _ _ d q=>pow_int_small d.1 d.2.1 d.2.2 q
def unI{f:Value->Sem Value}{g:Int->Int}
 (rule:∀ (i:Int) (t:Tok) (s:Shared) (Q:Value->Shared->Prop) (E:Value->Shared->Prop),Q (.int (g i) s.toks) {s with toks:=s.toks+1}->wpAny (model X.prog X.w) X.A (f (.int i t)) Q E s):
 UnR X f (rU λi=> .int (g i)):=by
 intro pins s σ H x v Q I d h;obtain⟨i,rfl,q⟩:=h;obtain⟨t,rfl⟩:=d;exact rule i t s _ _ ⟨.int (g i),H,I.tok _,⟨_,rfl⟩,q⟩
def By:UnR X (unaryOp .USub) (rU λi=> .int (-i)):=unI λ_ _ _ _ _ q=>neg_int q
end
def MO:V->V->Bool
 | .non, .non=>true| .non, .int _=>true| .int _, .non=>true| .non, .bl _=>true| .bl _, .non=>true| .non, .str _=>true| .str _, .non=>true
 | .int _, .int _=>true| .bl _, .bl _=>true| .str _, .str _=>true| .byt _, .byt _=>true
 | .int _, .str _=>true| .str _, .int _=>true| .bl _, .str _=>true| .str _, .bl _=>true
 |_,_=>false
def rEq:R2:=λx y H Q=>MO x y=true/\Q (.bl (decide (x=y))) H
def rNe:R2:=λx y H Q=>MO x y=true/\Q (.bl (!decide (x=y))) H
def Ey{i j:Int}:decide (V.int i=V.int j)=(i==j):=by
 rw[Bool.eq_iff_iff];simp
def Gv{i j:Bool}:decide (V.bl i=V.bl j)=(i==j):=by
 rw[Bool.eq_iff_iff];simp
def Km{i j:Str}:decide (V.str i=V.str j)=(i==j):=by
 rw[Bool.eq_iff_iff];simp
def Kn{i j:Array UInt8}:decide (V.byt i=V.byt j)=(i.toList==j.toList):=by
 rw[Bool.eq_iff_iff]
 cases i
 cases j
 simp
section
variable{b c:Expr}{tb tc:TE}
def Ag{s:Shared}{Q:VK}{k k':Bool}(I:Inv X pins σ H s)(q:Q (.bl k) H)(e:k=k'):EP X pins σ Q (.bool k') s:=by
 subst e;exact⟨.bl k,H,I,rfl,q⟩
def op_eq:OpR X (compareOp .Eq) rEq:=by
 intro pins s σ H x y v u Q I o d h;obtain⟨l,q⟩:=h
 cases x with
 |non=>
  cases o
  cases y with
  |non=>cases d;exact PySem.EqNone.eq_none_none (Ag I q (by simp))
  |bl j=>cases d;exact PySem.EqNone.eq_none_bool (Ag I q (by simp))
  |int j=>obtain⟨e,rfl⟩:=d;exact PySem.EqNone.eq_none_int (Ag I q (by simp))
  |str j=>obtain⟨e,rfl⟩:=d;exact PySem.EqNone.eq_none_str (Ag I q (by simp))
  |_=>exact absurd (show false=true from l) Bool.false_ne_true
 |bl i=>
  cases o
  cases y with
  |non=>cases d;exact PySem.EqNone.eq_bool_none (Ag I q (by simp))
  |bl j=>cases d;exact eq_bool (Ag I q Gv)
  |str j=>obtain⟨e,rfl⟩:=d;exact PySem.EqMixed.eq_bool_str (Ag I q (by simp))
  |_=>exact absurd (show false=true from l) Bool.false_ne_true
 |int i=>
  obtain⟨t,rfl⟩:=o
  cases y with
  |non=>cases d;exact PySem.EqNone.eq_int_none (Ag I q (by simp))
  |int j=>obtain⟨e,rfl⟩:=d;exact eq_int (Ag I q Ey)
  |str j=>obtain⟨e,rfl⟩:=d;exact PySem.EqMixed.eq_int_str (Ag I q (by simp))
  |_=>exact absurd (show false=true from l) Bool.false_ne_true
 |str i=>
  obtain⟨t,rfl⟩:=o
  cases y with
  |non=>cases d;exact PySem.EqNone.eq_str_none (Ag I q (by simp))
  |bl j=>cases d;exact PySem.EqMixed.eq_str_bool (Ag I q (by simp))
  |int j=>obtain⟨e,rfl⟩:=d;exact PySem.EqMixed.eq_str_int (Ag I q (by simp))
  |str j=>obtain⟨e,rfl⟩:=d;exact eq_str (Ag I q Km)
  |_=>exact absurd (show false=true from l) Bool.false_ne_true
 |byt i=>
  obtain⟨t,rfl⟩:=o
  cases y with
  |byt j=>obtain⟨e,rfl⟩:=d;exact W.eq_bytes (Ag I q Kn)
  |_=>exact absurd (show false=true from l) Bool.false_ne_true
 |_=>cases y<;>exact absurd (show false=true from l) Bool.false_ne_true
def op_ne:OpR X (compareOp .NotEq) rNe:=by
 intro pins s σ H x y v u Q I o d h;obtain⟨l,q⟩:=h
 cases x with
 |non=>
  cases o
  cases y with
  |non=>cases d;exact PySem.EqNone.ne_none_none (Ag I q (by simp))
  |bl j=>cases d;exact PySem.EqNone.ne_none_bool (Ag I q (by simp))
  |int j=>obtain⟨e,rfl⟩:=d;exact PySem.EqNone.ne_none_int (Ag I q (by simp))
  |str j=>obtain⟨e,rfl⟩:=d;exact PySem.EqNone.ne_none_str (Ag I q (by simp))
  |_=>exact absurd (show false=true from l) Bool.false_ne_true
 |bl i=>
  cases o
  cases y with
  |non=>cases d;exact PySem.EqNone.ne_bool_none (Ag I q (by simp))
  |bl j=>cases d;exact ne_bool (Ag I q (congrArg not Gv))
  |str j=>obtain⟨e,rfl⟩:=d;exact PySem.EqMixed.ne_bool_str (Ag I q (by simp))
  |_=>exact absurd (show false=true from l) Bool.false_ne_true
 |int i=>
  obtain⟨t,rfl⟩:=o
  cases y with
  |non=>cases d;exact PySem.EqNone.ne_int_none (Ag I q (by simp))
  |int j=>obtain⟨e,rfl⟩:=d;exact ne_int (Ag I q (congrArg not Ey))
  |str j=>obtain⟨e,rfl⟩:=d;exact PySem.EqMixed.ne_int_str (Ag I q (by simp))
  |_=>exact absurd (show false=true from l) Bool.false_ne_true
 |str i=>
  obtain⟨t,rfl⟩:=o
  cases y with
  |non=>cases d;exact PySem.EqNone.ne_str_none (Ag I q (by simp))
  |bl j=>cases d;exact PySem.EqMixed.ne_str_bool (Ag I q (by simp))
  |int j=>obtain⟨e,rfl⟩:=d;exact PySem.EqMixed.ne_str_int (Ag I q (by simp))
  |str j=>obtain⟨e,rfl⟩:=d;exact ne_str (Ag I q (congrArg not Km))
  |_=>exact absurd (show false=true from l) Bool.false_ne_true
 |byt i=>
  obtain⟨t,rfl⟩:=o
  cases y with
  |byt j=>obtain⟨e,rfl⟩:=d;exact W.ne_bytes (Ag I q (congrArg not Kn))
  |_=>exact absurd (show false=true from l) Bool.false_ne_true
 |_=>cases y<;>exact absurd (show false=true from l) Bool.false_ne_true
def HH:OpR X (compareOp .Lt) (rI0 λi j=> .bl (decide (i<j))):=FQ λ_ _ _ _ _ _ _ q=>lt_int q
def CA:OpR X (compareOp .LtE) (rI0 λi j=> .bl (decide (i<=j))):=FQ λ_ _ _ _ _ _ _ q=>le_int q
def Ct:OpR X (compareOp .Gt) (rI0 λi j=> .bl (decide (j<i))):=FQ λ_ _ _ _ _ _ _ q=>gt_int q
def Lu:OpR X (compareOp .GtE) (rI0 λi j=> .bl (decide (j<=i))):=FQ λ_ _ _ _ _ _ _ q=>ge_int q
def PM:OpR X (compareOp .In) (λx y H Q=>∃i j,x= .str i/\y= .str j/\Q (.bl (!(Builtin.Str.occurrences j i 0 j.length 1).isEmpty)) H):=by
 intro pins s σ H x y v u Q I d e h;obtain⟨i,j,rfl,rfl,q⟩:=h;obtain⟨t,rfl⟩:=d;obtain⟨l,rfl⟩:=e;exact in_str (Ag I q rfl)
def NP:OpR X (compareOp .NotIn) (λx y H Q=>∃i j,x= .str i/\y= .str j/\Q (.bl (!(!(Builtin.Str.occurrences j i 0 j.length 1).isEmpty))) H):=by
 intro pins s σ H x y v u Q I d e h;obtain⟨i,j,rfl,rfl,q⟩:=h;obtain⟨t,rfl⟩:=d;obtain⟨l,rfl⟩:=e;exact notIn_str (Ag I q rfl)
def OpR.or{f:Value->Value->Sem Value}{r r':R2}(h:OpR X f r)(h':OpR X f r'):OpR X f (λx y H Q=>r x y H Q\/r' x y H Q):=by
 intro pins s σ H x y v u Q I d e q;rcases q with q|q
 ·exact h pins s σ H x y v u Q I d e q
 ·exact h' pins s σ H x y v u Q I d e q
def LE(b:Expr){op:CmpOp}(h:op≠ .In:=by decide)(d:op≠ .NotIn:=by decide):behindInMarks op b=false:=by
 have e:(op==CmpOp.In)=false:=by cases op<;>first|rfl|exact absurd rfl h
 have i:(op==CmpOp.NotIn)=false:=by cases op<;>first|rfl|exact absurd rfl d
 cases b<;>simp[behindInMarks,e,i]
def SW{op:CmpOp}{r:R2}(d:OpR X (compareOp op) r)(e:PE X a ta)(i:PE X b tb)(j:behindInMarks op b=false):PE X (.Compare a [op] [b] pos) (tOp r ta tb):=by
 intro pins s σ H Q I h;exact wpAny_Compare1 (HV e i I h λv u l x y o p z B q=>d pins l σ o x y v u Q p z B q) j
def EE(t:TE):TT:=λσ H Q=>t σ H λx d=>∃k,x= .bl k/\Q k d
def R9{op:CmpOp}{r:R2}(d:OpR X (compareOp op) r)(i:PE X a ta)(j:PE X b tb)(l:behindInMarks op b=false):PT X (.Compare a [op] [b] pos) (EE (tOp r ta tb)):=by
 intro pins s σ H Q I h;refine wpAny_isTrue_Compare1 (thn (i pins s σ H _ I h) λv o ⟨x,p,q,B,G⟩=>thn (j pins o σ p _ q G) λu J ⟨y,L,M,P,R⟩=>
  thn (d pins J σ L x y v u _ M B P R) λc Z ⟨z,S,T,U,k,e,Y⟩=>?_) l
 subst e
 cases U
 exact wpAny_truthy_bool ⟨S,T,Y⟩
def Ge(r e:R2)(ta tb tc:TE):TE:=λσ H Q=>ta σ H λx h=>tb σ h λy i=>r x y i λz d=>∃k,z= .bl k/\
 (if k=true then tc σ d λj l=>e y j l Q else Q (.bl false) d)
def Ja{op:CmpOp}{r r':R2}(q:OpR X (compareOp op) r)(i:OpR X (compareOp op') r')(B:PE X a ta)(G:PE X b tb)(J:PE X c tc)
 (L:lastMarks [op,op'] [b,c]=false:=by with_unfolding_all rfl):PE X (.Compare a [op,op'] [b,c] pos) (Ge r r' ta tb tc):=by
 intro pins s σ H Q I h;refine Compare_chain (thn (B pins s σ H _ I h) λv M ⟨x,P,R,S,T⟩=>chain_link (thn (G pins M σ P _ R T) λu U ⟨y,Y,Z,j,q2⟩=>
  thn (q pins U σ Y x y v u _ Z S j q2) λd s3 ⟨z,l,o,r3,k,e,p⟩=>?_)) L
 subst e
 cases r3
 refine wpAny_truthy_bool ?_
 cases k with
 |false=>exact ite_ff ⟨.bl false,l,o,rfl,p⟩
 |true=>exact ite_tt (chain_last (thn (J pins s3 σ l _ o p) λw' s4 ⟨z',H4,I4,r4,q4⟩=>i pins s4 σ H4 y z' u w' Q I4 j r4 q4))
def Ee{op:CmpOp}{r r':R2}(q:OpR X (compareOp op) r)(i:OpR X (compareOp op') r')(B:PE X a ta)(G:PE X b tb)(J:PE X c tc)
 (L:lastMarks [op,op'] [b,c]=false:=by with_unfolding_all rfl):PT X (.Compare a [op,op'] [b,c] pos) (EE (Ge r r' ta tb tc)):=by
 intro pins s σ H Q I h;refine isTrue_chain (thn (B pins s σ H _ I h) λv M ⟨x,P,R,S,T⟩=>test_link (thn (G pins M σ P _ R T) λu U ⟨y,Y,Z,j,q2⟩=>
  thn (q pins U σ Y x y v u _ Z S j q2) λd s3 ⟨z,l,o,r3,k,e,p⟩=>?_)) L
 subst e
 cases r3
 refine wpAny_truthy_bool ?_
 cases k with
 |false=>
  obtain⟨k',e',q'⟩:=p
  cases e'
  exact ite_ff ⟨l,o,q'⟩
 |true=>
  refine ite_tt (test_last (thn (J pins s3 σ l _ o p) λw' s4 ⟨z',H4,I4,r4,q4⟩=>thn (i pins s4 σ H4 y z' u w' _ I4 j r4 q4) λd' s5 z_=>?_));obtain⟨z2,H5,I5,r5,k2,e2,q5⟩:=z_;subst e2
  cases r5
  exact wpAny_truthy_bool ⟨H5,I5,q5⟩
def DP(K:W.Frag)(x:V)(H:Hp)(k:Bool):Prop:=
 match x with
 | .non=>k=false
 | .bl b=>k=b
 | .int i=>k=(i !=0)
 | .str y=>y.length<=sizeLine/\k=((y.length:Int) !=0)
 | .byt y=>y.size<=sizeLine/\k=((y.size:Int) !=0)
 | .ref p=>(∃d,SqL K H p d/\k= !d.isEmpty)\/(∃d,SqT K H p d/\k= !d.isEmpty)\/∃e,H p=some (.dK e)/\k= !e.isEmpty
 |_=>False
def Ob{κ:Type}{kvs:List (κ×V)}{vs:List (κ×Value)}(r:KV kvs vs):(!vs.isEmpty)= !kvs.isEmpty:=by
 cases r<;>rfl
def IK(r:Vals xs its):(!its.toArray.isEmpty)= !xs.isEmpty:=by
 cases r<;>simp
def line63:(sizeLine:Nat)<2^63:=by rw[sizeLine_eq];decide
def TC:WM X (λx H Q=>∃k,DP X.K x H k/\Q k H):=by
 intro pins s σ H x v Q I z h;obtain⟨k,e,q⟩:=h;have R:=line63;have S:sizeLine=16777216:=sizeLine_eq
 cases x with
 |non=>
  cases z
  have d:k=false:=e;subst d;exact truthy_none ⟨H,I,q⟩
 |bl b=>
  cases z
  have d:k=b:=e;subst d;exact wpAny_truthy_bool ⟨H,I,q⟩
 |int i=>
  obtain⟨t,rfl⟩:=z;have d:k=(i !=0):=e;subst d;exact PySem.P.truthy_int ⟨H,I,q⟩
 |str y=>
  obtain⟨t,rfl⟩:=z;obtain⟨L,d⟩:y.length<=sizeLine/\k=((y.length:Int) !=0):=e;subst d;exact PySem.P.truthy_str (by lia) ⟨H,I.tok _,q⟩
 |byt y=>
  obtain⟨t,rfl⟩:=z;obtain⟨L,d⟩:y.size<=sizeLine/\k=((y.size:Int) !=0):=e;subst d;exact W.truthy_bytes (by lia) ⟨H,I.tok _,q⟩
 |ref p=>
  cases z
  have d:(∃o,SqL X.K H p o/\k= !o.isEmpty)\/(∃o,SqT X.K H p o/\k= !o.isEmpty)\/∃j,H p=some (.dK j)/\k= !j.isEmpty:=e;rcases d with⟨o,hx,d⟩|⟨o,hx,d⟩|⟨j,hx,d⟩
  ·subst d;obtain⟨B,r,G,J⟩:=I.list hx;have l:=r.length;exact wpAny_truthy_list G.isList (by simp only[List.size_toArray];lia) ⟨H,I.tok _,by rw[IK r];exact q⟩
  ·subst d;obtain⟨B,r,G,J⟩:=I.tuple hx;have l:=r.length;exact truthy_tuple G (by simp only[List.size_toArray];lia) ⟨H,I.tok _,by rw[IK r];exact q⟩
  ·subst d;obtain⟨J,M,vs,r,m⟩:j.length<=sizeLine/\(p==sysModules)=false/\∃vs,KV j vs/\s.heap.DictOf (An X.prog X.w) p vs:=I.hok p _ hx;have l:j.length=vs.length:=Paired.length r;exact wpAny_truthy_dict M m (by lia) ⟨H,I.tok _,by rw[Ob r];exact q⟩
 |_=>exact(show False from e).elim
def Qi(e:PE X a ta)(i:∀whole,isTrue a X.env whole=(do let v<-whole;standAt a.pos;holding [v] (truthy v))):
 PT X a (λσ H Q=>ta σ H λx d=>∃k,DP X.K x d k/\Q k d):=by
 intro pins s σ H Q I h;exact isTrue_plain (thn (e pins s σ H _ I h) λv j ⟨x,l,o,p,q⟩=>TC pins j σ l x v Q o p q) (i _)
def OO:OpR X (binaryOp .Add) (λx y H Q=>∃i j,x= .str i/\y= .str j/\i.length+j.length<=sizeLine/\Q (.str (i++j)) H):=by
 intro pins s σ H x y v u Q I d e h;obtain⟨i,j,rfl,rfl,l,q⟩:=h;obtain⟨t,rfl⟩:=d;obtain⟨o,rfl⟩:=e;exact add_str (λo p=>⟨.str (i++j),H,I.tok _,⟨_,rfl⟩,q⟩) l
def vals1(r:Vals [x] us):∃u,us=[u]/\RelV x u:=by
 cases r with
 |cons d e=>cases e;exact⟨_,rfl,d⟩
def vals2(r:Vals [x,y] us):∃u w',us=[u,w']/\RelV x u/\RelV y w':=by
 cases r with
 |cons d e=>
  cases e with
  |cons h i=>cases i;exact⟨_,_,rfl,d,h⟩
def QF(l:X.calm=true):CallR X (.builtin "max") (λe H Q=>∃i j,e=[.int i, .int j]/\Q (.int (if j>i then j else i)) H):=by
 intro pins s σ H e o Q I r h;obtain⟨i,j,rfl,q⟩:=h;obtain⟨u,p,rfl,⟨t,rfl⟩,⟨v,rfl⟩⟩:=vals2 r;refine max_two_ints (I.ok.hd l) λx y k=>⟨_,H,I.kept k,?_,q⟩
 by_cases d:j>i
 ·rw[if_pos d,if_pos d];exact⟨_,rfl⟩
 ·rw[if_neg d,if_neg d];exact⟨_,rfl⟩
def QH:CallR X (.type "int") (λd H Q=>(∃i,d=[.int i]/\Q (.int i) H)\/∃k,d=[.bl k]/\Q (.int (if k then 1 else 0)) H):=by
 intro pins s σ H d j Q I r h;rcases h with⟨i,rfl,q⟩|⟨k,rfl,q⟩
 ·obtain⟨u,rfl,t,rfl⟩:=vals1 r;exact call_int_int ⟨.int i,H,I,⟨_,rfl⟩,q⟩
 ·obtain⟨u,rfl,e⟩:=vals1 r
  cases e
  exact call_int_bool ⟨.int (if k then 1 else 0),H,I.tok _,⟨_,rfl⟩,q⟩
end
structure ObjM (h:Heap) (x dx C:Addr) (mA:Str->Option Value):Prop where
 obj:h.get? x=some (W.instObj C dx)
 ns:h.Ns1 dx mA
 ne:dx≠x
def Pf(n:h.Ns1 dx mA):∃d,h.get? dx=some d/\∀name,W.lookIn name d=some (mA name):=by
 obtain⟨o,i,v,j,hd,hk,_,l⟩:=n;refine⟨o,j,λname=>?_⟩;have e:=l name;unfold nsFind findBy at e;rw[<-Array.find?_toList]at e;unfold W.lookIn;rw[hd]
 dsimp only
 split
 ·rename_i y q
  rw[q]at e;exact congrArg some e
 ·rename_i q
  rw[q]at e;have a:i.toList.any (·.refKey)=false:=by
   rw[List.any_eq_false];intro y p;obtain⟨z,t,b⟩:=hk y (Array.mem_toList_iff.mp p);simp[DictEntry.refKey,b]
  have r:¬i.toList.any (·.refKey)=true:=by rw[a];exact Bool.false_ne_true
  rw[if_neg r];exact congrArg some e
def ObjM.look{x C:Addr}(I:ObjM h x dx C mA):∃a,W.InstAt h x (W.instObj C dx) C (some a)/\∀name,W.lookIn name a=some (mA name):=
 let⟨a,b,d⟩:=Pf I.ns
 ⟨a,⟨I.obj,rfl,rfl,b⟩,d⟩
section
variable{s:Shared}{x C f:Addr}{name:Str}{v:Value}
def So{expr:Bool}{Q:Value->Shared->Prop}(X:K.In s.heap)(I:ObjM s.heap x dx C mA)(hg:W.plainGet K C name=true)(b:W.hasDictIn K C=true)
 (d:W.findIn K (.ref C) name=some none) (e:mA name=some v) (a:W.handedIn v=true) (h:Q v {s with toks:=s.toks+1}):
 wpAny (model prog w) A (getAttr (.ref x) name expr) Q E s:=by
 obtain⟨j,J,i⟩:=I.look;exact W.get_value X J (W.plainGet_of hg).1 (W.findObj_own b d rfl (by rw[i,e])) a h
def RA(X:K.In s.heap)(I:ObjM s.heap x dx C mA)(hg:W.plainGet K C name=true)
 (hf:W.findIn K (.ref C) name=some (some (.ref f))) (ht:W.isFn K (.ref f)=true) (a:mA name=none) (h:Q (.ref f,[.ref x]) s):
 wpAny (model prog w) A (getMethod (.ref x) name pl) Q E s:=by
 obtain⟨b,J,d⟩:=I.look;exact W.method_fn X J (W.plainGet_of hg).1 (W.plainGet_of hg).2 hf (beq_iff_eq.mp ht) (by show(W.lookIn name b).map (·.isSome)=some false;rw[d,a];rfl) h
def Rc{Q:Unit->Shared->Prop}(X:K.In s.heap)(I:ObjM s.heap x dx C mA)
 (q:W.findIn K (.ref C) "__setattr__"=some (some (.builtin "object.__setattr__"))) (z:W.plainOver K C=true) (ht:W.takerIn K C name=some none) (B:W.hasDictIn K C=true)
 (G:PySem.Within mA ns) (hsz:ns.length<=sizeLine)
 (h:∀i,ObjM i x dx C (λy=>if y=name then some v else mA y)->Heap.SameBut dx s.heap i->Q () {s with heap:=i,toks:=s.toks+2}):
 wpAny (model prog w) A (setAttr (.ref x) name v) Q E s:=by
 obtain⟨R,J,S⟩:=I.look;refine W.set_plain X J q (W.osa_open (s:={s with toks:=s.toks+1}) (r:=none) X J z ht λb=>?_);obtain⟨T,H,j⟩:=W.any_some B;have L:s.heap.get? x=some ⟨.ref C,some dx, .plain,#[]⟩:=I.obj;refine wpAny_bind (wpAny_pure (wpAny_bind (wpAny_bind (wpAny_loadPart L (wpAny_bind (W.Looks.here (s:={s with toks:=s.toks+1}) (W.looks_clsIn X H) ?_))))));rw[j];refine wpAny_pure (a:=some dx) (wpAny_bind (wpAny_pure (wpAny_bind ?_)));refine wpAny_nsSet1 (s:={s with toks:=s.toks+1}) I.ns λi d e=>?_;obtain⟨U,M,P,l,o,p⟩:=d.count (PySem.Within.cons name v G);refine wpAny_bind (wpAny_lookBehind l (by rw[o];exact pastItsLine_dict (Nat.le_trans p (by rw[List.length_cons];lia))) ?_);exact wpAny_pure (h _ ⟨(e.2 _ (Ne.symm I.ne)).trans I.obj,d,I.ne⟩ e)
def Q1{R:Result->Shared->Prop}{vs:List Value}(X:K.In s.heap)(a:W.makesIn K C=true)
 (b:W.findIn K (.ref C) "__init__"=some (some (.ref f))) (hf:W.typeIn K (.ref f)=some (.type "function"))
 (h:codeAny (model prog w) (A.under (.builtin "type.__call__" ⟨.ref C::vs,kw⟩)) (.call (.ref f) ⟨.ref (s.heap.objs.size+1)::vs,kw⟩) (W.InitBack (s.heap.objs.size+1) R)
   {s with heap:=(s.heap.push W.emptyDict).push (W.instObj C s.heap.objs.size)}):
 codeAny (model prog w) A (.call (.ref C) ⟨vs,kw⟩) R s:=by
 obtain⟨e,g,d,t,os⟩:=s;exact W.make_core (W.makes_of X a) (W.looks_findIn X b) (λself=>W.bind_fn X self hf) (.inl rfl) h
end
def Al(f:Str)(v:V):List (Str×V)->List (Str×V)
 |[]=>[(f,v)]
 |(g,x)::r=>if g=f then(g,v)::r else(g,x)::Al f v r
theorem Hw(f g:Str)(v:V):∀fs:List (Str×V),(Al f v fs).lookup g=if g=f then some v else fs.lookup g
 |[]=>by
  show List.lookup g [(f,v)]=_
  by_cases h:g=f
  ·have a:(g==f)=true:=beq_iff_eq.mpr h;simp only[List.lookup,a,if_pos h]
  ·have a:(g==f)=false:=beq_eq_false_iff_ne.mpr h;simp only[List.lookup,a,if_neg h]
 |(k,x)::r=>by
  have b:=Hw f g v r;rw[show Al f v ((k,x)::r)=(if k=f then(k,v)::r else(k,x)::Al f v r)from rfl]
  by_cases hk:k=f
  ·rw[if_pos hk]
   by_cases h:g=k
   ·have a:(g==k)=true:=beq_iff_eq.mpr h;simp only[List.lookup,a,if_pos (h.trans hk)]
   ·have a:(g==k)=false:=beq_eq_false_iff_ne.mpr h;simp only[List.lookup,a,if_neg (λe:g=f=>h (e.trans hk.symm))]
  ·rw[if_neg hk]
   by_cases h:g=k
   ·have a:(g==k)=true:=beq_iff_eq.mpr h;simp only[List.lookup,a,if_neg (λe:g=f=>hk (h.symm.trans e))]
   ·have a:(g==k)=false:=beq_eq_false_iff_ne.mpr h;simp only[List.lookup,a];exact b
theorem Fn(f:Str)(v:V):∀fs:List (Str×V),f∈(Al f v fs).map (·.1)/\∀g,g∈fs.map (·.1)->g∈(Al f v fs).map (·.1)
 |[]=>⟨by simp[Al],λg h=>by simp at h⟩
 |(k,x)::r=>by
  obtain⟨a,b⟩:=Fn f v r;rw[show Al f v ((k,x)::r)=(if k=f then(k,v)::r else(k,x)::Al f v r)from rfl]
  by_cases hk:k=f
  ·rw[if_pos hk];subst hk;exact⟨by simp,λg h=>by simpa using h⟩
  ·rw[if_neg hk];refine⟨?_,λg h=>?_⟩
   ·rw[List.map_cons];exact List.mem_cons_of_mem _ a
   ·rw[List.map_cons]at h⊢;rcases List.mem_cons.mp h with e|e
    ·exact List.mem_cons.mpr (.inl e)
    ·exact List.mem_cons_of_mem _ (b g e)
theorem Hx(f:Str)(v:V):∀fs:List (Str×V),(Al f v fs).length<=fs.length+1
 |[]=>by simp[Al]
 |(k,x)::r=>by
  have a:=Hx f v r;rw[show Al f v ((k,x)::r)=(if k=f then(k,v)::r else(k,x)::Al f v r)from rfl]
  by_cases hk:k=f
  ·rw[if_pos hk,List.length_cons,List.length_cons];lia
  ·rw[if_neg hk,List.length_cons,List.length_cons];lia
def RelO.some_of(r:RelO (some v) o):∃u,o=some u/\RelV v u:=by
 cases o with
 |none=>exact(show False from r).elim
 |some u=>exact⟨u,rfl,r⟩
def RelO.none_of(r:RelO none o):o=none:=by
 cases o with
 |none=>rfl
 |some u=>exact(show False from r).elim
def Px{u:Value}(r:RelV v u):W.handedIn u=true:=by
 cases v with
 |non=>cases(show u=Value.none from r);rfl
 |bl b=>cases(show u=Value.bool b from r);rfl
 |int i=>obtain⟨t,e⟩:=(show∃t,u=Value.int i t from r);cases e;rfl
 |str x=>obtain⟨t,e⟩:=(show∃t,u=Value.str x t from r);cases e;rfl
 |byt b=>obtain⟨t,e⟩:=(show∃t,u=Value.bytes b t from r);cases e;rfl
 |flt b=>obtain⟨t,e⟩:=(show∃t,u=Value.float b t from r);cases e;rfl
 |ref a=>cases(show u=Value.ref a from r);rfl
 |ty n=>cases(show u=Value.type n from r);rfl
section
variable{a C:Addr}{fs fs':List (Str×V)}
def Eu(hok:HOk P w H h)(e:H a=some (.ins C dx fs)):∃b,ObjM h a dx C b/\(∀f,RelO (fs.lookup f) (b f))/\PySem.Within b (fs.map (·.1))/\fs.length<=1000/\H dx=some (.own a):=by
 obtain⟨d,z,ne,ob,b,n,r,q⟩:=(show ObjOk P w H h a (.ins C dx fs)from hok a _ e);exact⟨b,⟨ob,n,ne⟩,r,q,z,d⟩
end
structure Cls (K:W.Frag) (C:Addr):Prop where
 pg:W.plainGet K C Str.empty=true
 hd:W.hasDictIn K C=true
 po:W.plainOver K C=true
 sa:W.findIn K (.ref C) "__setattr__"=some (some (.builtin "object.__setattr__"))
def Cls.get{C:Addr}(c:Cls K C)(f:Str):W.plainGet K C f=true:=c.pg
def NoAttr(K:W.Frag)(C:Addr)(f:Str):Prop:=W.findIn K (.ref C) f=some none
def NoAttr.taker{C:Addr}(n:NoAttr K C f):W.takerIn K C f=some none:=by
 unfold W.takerIn;rw[show W.findIn K (.ref C) f=some none from n]
 rfl
structure Meth (K:W.Frag) (C:Addr) (m:Str) (f:Addr):Prop where
 at_:W.findIn K (.ref C) m=some (some (.ref f))
 fn:W.isFn K (.ref f)=true
 kp:W.keepIn K (.ref f)=true
section
variable{s:Shared}{a C:Addr}{fs:List (Str×V)}
def IN{Q:Value->Shared->Prop}(I:Inv X pins σ H s)(e:H a=some (.ins C dx fs))(c:Cls X.K C)(n:NoAttr X.K C f)(l:fs.lookup f=some v)
 (h:∀u d,Inv X pins σ H d->RelV v u->Q u d):wpAny (model X.prog X.w) A (getAttr (.ref a) f b) Q E s:=by
 obtain⟨j,O,r,_,_,_⟩:=Eu I.hok e;obtain⟨u,p,i⟩:=RelO.some_of (v:=v) (o:=j f) (by rw[<-l];exact r f);exact So I.kIn O (c.get f) c.hd n p (Px i) (h u _ (I.tok _) i)
def Ff{m:Str}{g:Addr}(I:Inv X pins σ H s)(e:H a=some (.ins C dx fs))(c:Cls X.K C)(k:Meth X.K C m g)(l:fs.lookup m=none)
 (h:Q (.ref g,[.ref a]) s):wpAny (model X.prog X.w) A (getMethod (.ref a) m pl) Q E s:=by
 obtain⟨b,O,r,_,_,_⟩:=Eu I.hok e;have d:b m=none:=RelO.none_of (by rw[<-l];exact r m);exact RA I.kIn O (c.get m) k.at_ k.fn d h
def IE{u:Value}{Q:Unit->Shared->Prop}(I:Inv X pins σ H s)(e:H a=some (.ins C dx fs))(c:Cls X.K C)(n:NoAttr X.K C f)(R:fs.length<1000)(B:RelV y u)
 (h:∀i,Inv X pins σ (upd H a (.ins C dx (Al f y fs))) i->Q () i):wpAny (model X.prog X.w) A (setAttr (.ref a) f u) Q E s:=by
 obtain⟨j,O,r,l,_,p⟩:=Eu I.hok e;have G:(fs.map (·.1)).length<=sizeLine:=by rw[List.length_map,sizeLine_eq];lia
 refine Rc I.kIn O c.sa c.po n.taker c.hd l G λJ d L=>h _ ?_;have hd:∃o,J.get? dx=some o:=let⟨o,_,_,M,_⟩:=d.ns;⟨o,M⟩;refine I.write (x:=a) (e:=dx) (by rw[e];exact True.intro) (.inr p) (λb q P z=>(L.2 b P).trans z) hd ?_;refine⟨by rw[AH O.ne];exact p,?_,O.ne,d.obj,_,d.ns,λg=>?_,λg hg=>?_⟩
 ·have:=Hx f y fs;lia
 ·show RelO ((Al f y fs).lookup g) (if g=f then some u else j g);rw[Hw]
  by_cases q:g=f
  ·rw[if_pos q,if_pos q];exact B
  ·rw[if_neg q,if_neg q];exact r g
 ·by_cases q:g=f
  ·rw[q];exact(Fn f y fs).1
  ·refine(Fn f y fs).2 g (l g λz=>hg ?_);show(if g=f then some u else j g)=none;rw[if_neg q];exact z
def Inv.made(I:Inv X pins σ H s):Inv X pins σ (upd (upd H s.heap.objs.size (.own (s.heap.objs.size+1))) (s.heap.objs.size+1) (.ins C s.heap.objs.size []))
 {s with heap:=(s.heap.push W.emptyDict).push (W.instObj C s.heap.objs.size)}:=by
 have d:(s.heap.push W.emptyDict).get? s.heap.objs.size=some W.emptyDict:=Heap.get?_push_size s.heap rfl;have h:((s.heap.push W.emptyDict).push (W.instObj C s.heap.objs.size)).get? (s.heap.objs.size+1)=some (W.instObj C s.heap.objs.size):=by
  have:=Heap.get?_push_size (s.heap.push W.emptyDict) (o:=W.instObj C s.heap.objs.size) rfl;rwa[Heap.size_push]at this
 have i:(s.heap.push W.emptyDict).Ns s.heap.objs.size (λ_=>none):=⟨W.emptyDict,#[],_,d,rfl,(λe j=>absurd j (by simp)),λ_=>rfl⟩;have l:=I.laid (a:=s.heap.objs.size) (o:= .own (s.heap.objs.size+1)) (h':=s.heap.push W.emptyDict) (t':=s.toks) (λb u q=>Heap.get?_push_of_some _ q) (Nat.le_refl _) ⟨_,d⟩;refine l.laid (a:=s.heap.objs.size+1) (o:= .ins C s.heap.objs.size []) (t':=s.toks) (λb u q=>Heap.get?_push_of_some _ q) (Nat.le_of_eq (Heap.size_push _ _)) ?_;have ne:s.heap.objs.size≠s.heap.objs.size+1:=Nat.ne_of_lt (Nat.lt_succ_self _);refine⟨by rw[AH ne,AF],Nat.zero_le _,ne,h,λ_=>none,(Heap.Ns1.of_empty i).at λo q=>Heap.get?_push_of_some _ q,λ_=>True.intro,λy p=>absurd rfl p⟩
def S7{Q:Value->Shared->Prop}(d:attributeBase e f env (eval e env)=eval e env)
 (h:wpAny (model prog w) A (eval e env) (λo b=>wpAny (model prog w) A (getAttr o f true) Q E b) E s):wpAny (model prog w) A (eval (.Attribute e f pos) env) Q E s:=
 Attribute_any_ h (by rw[arm_eval_Attribute,d])
end
def HL(K:W.Frag)(d:TE)(f:Str):TE:=λσ H Q=>d σ H λx b=>∃a C e fs v,x= .ref a/\b a=some (.ins C e fs)/\Cls K C/\NoAttr K C f/\fs.lookup f=some v/\Q v b
def HN(K:W.Frag)(e h:TE)(f:Str):TS:=λD σ H=>h σ H λy i=>e σ i λx b=>∃a C d fs,x= .ref a/\b a=some (.ins C d fs)/\Cls K C/\NoAttr K C f/\fs.length<1000/\
 D.nx σ (upd b a (.ins C d (Al f y fs)))
def FV(X:Cx)(op:Operator)(a:V->V->Hp->VK->Prop):Prop:=
 ∀ (pins:List (Addr×Obj)) (s:Shared) (σ:W3) (H:Hp) (x y:V) (u v:Value) (Q:VK),Inv X pins σ H s->RelV x u->RelV y v->a x y H Q->wpAny (model X.prog X.w) X.A (inplaceOp op u v) (EP X pins σ Q) X.xe s
def GI(K:W.Frag)(i j:TE)(l:V->V->Hp->VK->Prop)(f:Str):TS:=λD σ H=>i σ H λx e=>∃a C o fs v,x= .ref a/\e a=some (.ins C o fs)/\Cls K C/\NoAttr K C f/\fs.lookup f=some v/\
 j σ e λy p=>l v y p λz h=>∃d b,h a=some (.ins C d b)/\b.length<1000/\D.nx σ (upd h a (.ins C d (Al f z b)))
section
variable{o value:Expr}{tv:TE}
def Ue(b:PE X e ta)(d:attributeBase e f X.env (eval e X.env)=eval e X.env):PE X (.Attribute e f pos) (HL X.K ta f):=by
 intro pins s σ H Q I h;refine S7 d (thn (b pins s σ H _ I h) λu G i=>?_);obtain⟨x,j,p,r,a,C,J,fs,v,ex,y,c,n,l,q⟩:=i;subst ex;obtain rfl:u=Value.ref a:=r;exact IN p y c n l λL M z B=>⟨v,j,z,B,q⟩
def UX(b:PE X o ta)(d:PE X value tv)(i:swapsWith value (some (.Attribute o f pos')) pos.line X.env=pure false):PS X (.Assign [.Attribute o f pos'] value pos) (HN X.K ta tv f):=by
 intro pins s σ H D I h;refine plainObj_wpAny_Assign_Attribute (thn (d pins s σ H _ I h) λu j ⟨y,p,r,v,q⟩=>thn (b pins j σ p _ r q) λz P ⟨x,Q,B,G,a,C,R,fs,ex,J,c,n,l,L⟩=>?_) i;subst ex;obtain rfl:z=Value.ref a:=G;exact IE B J c n l v λS M=>⟨σ,_,M,L⟩
def O8{op:Operator}(j:PE X o ta)(p:PE X value tv)(b:FV X op rd):PS X (.AugAssign (.Attribute o f tpos) op value pos) (GI X.K ta tv rd f):=by
 intro pins s σ H D I h;refine wpAny_AugAssign_AttributeAny (thn (j pins s σ H _ I h) λr s1 d=>?_);obtain⟨x,B,G,J,a,C,dx,fs,v,ex,L,c,n,l,q⟩:=d;subst ex;obtain rfl:r=Value.ref a:=J;refine IN G L c n l λu M P Q=>thn (p pins M σ B _ P q) λR S ⟨y,T,U,Y,Z⟩=>thn (b pins S σ T v y u R _ U Q Y Z) λw4 s4 d=>?_;obtain⟨z,H3,I4,rz,dx',fs',i,l',q4⟩:=d;exact IE I4 i c n l' rz λs5 I5=>⟨σ,_,I5,q4⟩
def rAdd:V->V->Hp->VK->Prop:=λx y H Q=>∃i j,x= .int i/\y= .int j/\Q (.int (i+j)) H
def U3:FV X .Add rAdd:=by
 rintro pins s σ H x y u v Q I b d ⟨i,j,rfl,rfl,q⟩;obtain⟨t,rfl⟩:=(show∃t,u=Value.int i t from b);obtain⟨a,rfl⟩:=(show∃a,v=Value.int j a from d);exact PyProof.Rows.iadd_int ⟨.int (i+j),H,I.tok _,⟨_,rfl⟩,q⟩
end
section
variable{s:Shared}{Q:Value->Shared->Prop}{c:Value}
inductive TyOf (K:W.Frag) (H:Hp):V->Value->Prop where
 |non:TyOf K H .non (.type "NoneType")
 |bl (x:Bool):TyOf K H (.bl x) (.type "bool")
 |int (i:Int):TyOf K H (.int i) (.type "int")
 |str (x:Str):TyOf K H (.str x) (.type "str")
 |flt (x:UInt64):TyOf K H (.flt x) (.type "float")
 |lst {a:Addr} {xs:List V} (e:H a=some (.lst xs)):TyOf K H (.ref a) (.type "list")
 |frz {a:Addr} {o:Obj} {xs:List V} (e:H a=some (.frz o (.lst xs))):TyOf K H (.ref a) (.type "list")
 |tup {a:Addr} {xs:List V} (e:H a=some (.tup xs)):TyOf K H (.ref a) (.type "tuple")
 |dK {a:Addr} {kvs:List (Key×V)} (e:H a=some (.dK kvs)):TyOf K H (.ref a) (.type "dict")
 |dT {a:Addr} {kvs:List (List Key×V)} (e:H a=some (.dT kvs)):TyOf K H (.ref a) (.type "dict")
 |ins {a C dx:Addr} {fs:List (Str×V)} (e:H a=some (.ins C dx fs)) (cl:Cls K C) (ha:W.findIn K (.ref C) "__class__"=some (some (.builtin "object.__class__")))
   (hn:W.specialIn K (.builtin "object.__class__") "__get__"=some (some (.builtin "getset_descriptor.__get__"))) (htk:W.takesIn K (.builtin "object.__class__")=some true)
   (hm:W.mroIn K C (.type "object")=some true):TyOf K H (.ref a) (.ref C)
def Pk{u t:Value}(I:Inv X pins σ H s)(d:RelV x u)(ty:TyOf X.K H x t)(e:W.kitOne X.K t c=some b)(h:∀L,Q (.bool b) {s with toks:=L}):
 wpAny (model X.prog X.w) A (call (.builtin "isinstance") [u,c]) Q E s:=by
 cases ty with
 |non=>cases(show u=Value.none from d);exact W.kia_one W.kitx_none I.kIn True.intro e (λz=>nomatch z) h
 |bl y=>cases(show u=Value.bool y from d);exact W.kia_one W.kitx_bool I.kIn True.intro e (λz=>nomatch z) h
 |int i=>obtain⟨t,q⟩:=(show∃t,u=Value.int i t from d);cases q;exact W.kia_one W.kitx_int I.kIn True.intro e (λz=>nomatch z) h
 |str y=>obtain⟨t,q⟩:=(show∃t,u=Value.str y t from d);cases q;exact W.kia_one W.kitx_str I.kIn True.intro e (λz=>nomatch z) h
 |flt y=>obtain⟨t,q⟩:=(show∃t,u=Value.float y t from d);cases q;exact W.kia_one W.kitx_float I.kIn True.intro e (λz=>nomatch z) h
 | @lst a v j=>
   cases(show u=Value.ref a from d)
   obtain⟨_,_,n,_,l⟩:=(show ObjOk X.prog X.w H s.heap a (.lst v)from I.hok a _ j);exact W.kia_one W.kitx_list I.kIn ⟨_,l,rfl⟩ e (λz=>nomatch z) h
 | @frz a ob v j=>
   cases(show u=Value.ref a from d)
   obtain⟨_,_,_,n,_,l⟩:=(show ObjOk X.prog X.w H s.heap a (.frz ob (.lst v))from I.hok a _ j);exact W.kia_one W.kitx_list I.kIn ⟨_,l,rfl⟩ e (λz=>nomatch z) h
 | @tup a v j=>
   cases(show u=Value.ref a from d)
   obtain⟨_,_,_,p⟩:=(show ObjOk X.prog X.w H s.heap a (.tup v)from I.hok a _ j);obtain⟨o,l,B,_⟩:=p;exact W.kia_one W.kitx_tuple I.kIn ⟨o,l,B⟩ e (λz=>nomatch z) h
 | @dK a r j=>
   cases(show u=Value.ref a from d)
   obtain⟨_,_,vs,_,p⟩:=(show ObjOk X.prog X.w H s.heap a (.dK r)from I.hok a _ j);obtain⟨o,M,P,l,B,_⟩:=p;exact W.kia_one W.kitx_dict I.kIn ⟨o,l,B.1⟩ e (λz=>nomatch z) h
 | @dT a r j=>
   cases(show u=Value.ref a from d)
   obtain⟨_,_,v,_,o,M,P,l,B,_⟩:=(show ObjOk X.prog X.w H s.heap a (.dT r)from I.hok a _ j);exact W.kia_one W.kitx_dict I.kIn ⟨o,l,B.1⟩ e (λz=>nomatch z) h
 | @ins a C U fs j cl R S G T=>
   cases(show u=Value.ref a from d)
   obtain⟨Y,O,_⟩:=Eu I.hok j;obtain⟨Z,J,_⟩:=O.look;exact W.kia_one (W.kitx_own (cl.get _) cl.hd R S G T) I.kIn J e (λz=>nomatch z) h
end
structure Room (k:Nat) (A:Around):Prop where
 hd:A.handled=none
 dp:A.depth+3*k+5<recursionLimit
 un:A.units+16*k+200<cLine
 gd:A.guards=some []
def Room.mono{k:Nat}(r:Room k A)(h:j<=k):Room j A:=⟨r.hd,by have:=r.dp;lia,by have:=r.un;lia,by first|exact r.gd|simpa[Around.deeper,Around.under,Code.guards,Code.isGuard,guardIds,pushGuards]using r.gd⟩
theorem Room.deeper{k:Nat}(r:Room (k+1) A)(env:Env):Room k (A.deeper env):=
 ⟨r.hd,by have:=r.dp;show A.depth+1+3*k+5<_;lia,by have:=r.un;show A.units+3+16*k+200<_;lia,by first|exact r.gd|simpa[Around.deeper,Around.under,Code.guards,Code.isGuard,guardIds,pushGuards]using r.gd⟩
def Oa{C:Addr}:(A.under (.builtin "type.__call__" ⟨.ref C::us,kw⟩)).depth=A.depth+1:=by
 first|rfl|simp[Around.under,Code.weight,Code.isCreation,Code.isGuard,Code.isCaller,Code.frames,Code.isFrame,guardIds]
def OZ{C:Addr}:(A.under (.builtin "type.__call__" ⟨.ref C::us,kw⟩)).units=A.units+1:=by
 first|rfl|simp[Around.under,Code.cUnits,Code.frames,Code.isFrame]
def Room.make{k:Nat}(r:Room (k+1) A)(C:Addr)(us:List Value)(a:List (Str×Value)):Room k (A.under (.builtin "type.__call__" ⟨.ref C::us,a⟩)):=
 ⟨r.hd,by have:=r.dp;rw[Oa];lia,by have:=r.un;rw[OZ];lia,by first|exact r.gd|simpa[Around.deeper,Around.under,Code.guards,Code.isGuard,guardIds,pushGuards]using r.gd⟩
theorem Room.depth{k:Nat}(r:Room k A):A.depth<recursionLimit:=by have:=r.dp;lia
def Room.units0{k:Nat}(r:Room k A):A.units<cLine:=by have:=r.un;lia
def tNil:TA:=λ_ H Q=>Q [] H
def CY(a:TE)(b:TA):TA:=λσ H Q=>a σ H λx d=>b σ d λe h=>Q (x::e) h
section
variable{t:TA}
def AB:PA X [] tNil:=λ_ _ _ _ H Q I h=>Calls.spliced_nil ⟨[],H,I, .nil,h⟩
def AA(a:PE X e te)(b:PA X es t)(d:starEach (e::es) X.env=(false,eval e X.env)::starEach es X.env:=by rfl):PA X (e::es) (CY te t):=by
 intro pos pins s σ H Q I h;rw[d];show wpAny _ _ (spliced ((false,eval e X.env)::backTo pos (starEach es X.env))) _ _ s;refine Calls.spliced_cons (thn (a pins s σ H _ I h) λu i j=>?_);obtain⟨x,l,o,p,q⟩:=j;exact thn (b pos pins i σ l _ o q) λG J ⟨r,v,y,z,B⟩=>⟨x::r,v,y, .cons p z,B⟩
def HK(t:TA):TE:=λσ H Q=>t σ H λa b=>a.length<=sizeLine/\∀p,b p=none->Q (.ref p) (upd b p (.tup a))
def Cv(t:TA):TE:=λσ H Q=>t σ H λa b=>a.length<=sizeLine/\∀p,b p=none->Q (.ref p) (upd b p (.lst a))
def BY{x1}(h:PA X es t):PE X (.Tuple es x1 pos) (HK t):=by
 intro pins s σ H Q I j;refine wpAny_Tuple_spliced (thn (h pos pins s σ H _ I j) λl a ⟨o,d,i,r,z,q⟩=>⟨by rw[<-r.length];exact z,?_⟩);have p:d a.heap.objs.size=none:=i.hok.fresh (Nat.le_refl _);refine⟨.ref a.heap.objs.size,upd d a.heap.objs.size (.tup o),i.laid (t':=a.toks) (λb u e=>Heap.get?_push_of_some _ e) (Nat.le_refl _) ?_,rfl,q _ p⟩;exact⟨z,l,r,⟨_,Heap.get?_push_size _ rfl,rfl,_,rfl⟩⟩
def Ac(h:PA X es t):PE X (.List es pos) (Cv t):=by
 intro pins s σ H Q I j;refine wpAny_List_spliced (thn (h pos pins s σ H _ I j) λl a ⟨o,d,i,r,z,q⟩=>⟨by rw[<-r.length];exact z,?_⟩);have p:d a.heap.objs.size=none:=i.hok.fresh (Nat.le_refl _);refine⟨.ref a.heap.objs.size,upd d a.heap.objs.size (.lst o),i.laid (t':=a.toks) (λb u e=>Heap.get?_push_of_some _ e) (Nat.le_refl _) ?_,rfl,q _ p⟩;exact⟨z,l,0,r,Heap.get?_push_size _ rfl⟩
end
abbrev Sp:=List V->Hp->VK->XK->Prop
abbrev CXT:=List Env->Hp->Shared->XK->Value->Shared->Prop
end L2
variable{sp:Sp}
namespace L2
variable{f:Addr}{params:Arguments}{CX:CXT}{vs:List V}{r:List V->Hp->VK->Prop}{ds:List Value}{t:TA}{Q:VK}{E:XK}
structure Env0 (P:Program) (w:World) (K:W.Frag) (mg:Str->Option Value) (base:Heap) (A:Around) (outer:List Env) (s:Shared) (H:Hp):Prop where
 frames:A.frames=some outer
 mod:Mod K mg base
 bs:∀b o,base.get? b=some o->s.heap.get? b=some o/\H b=none
 bsz:base.objs.size<=s.heap.objs.size
 funs:s.heap.FunFrames base outer
 frf:∀b∈frs outer,H b=none
 hok:HOk P w H s.heap
 bare:AllBare s.gens
def CE(outer:List Env)(P:Program)(w:World)(H:Hp)(s:Shared)(Q:VK)(u:Value)(a:Shared):Prop:=
 ∃v b,a.os=s.os/\AllBare a.gens/\Un (frs outer) [] H b s.heap a.heap/\HOk P w b a.heap/\RelV v u/\Q v b
def CR(CX:CXT)(outer:List Env)(P:Program)(w:World)(H:Hp)(s:Shared)(Q:VK)(E:XK)(r:Result)(a:Shared):Prop:=
 match r with
 | .ok (.ret u)=>CE outer P w H s Q u a
 | .ok _=>False
 | .error e=>CX outer H s E e a
structure FnOk (P:Program) (w:World) (K:W.Frag) (mg:Str->Option Value) (base:Heap) (CX:CXT) (k:Nat) (f:Addr) (fd:FuncData) (ps:List Str) (sp:Sp):Prop where
 len:∀vs H Q E,sp vs H Q E->vs.length=ps.length
 run:∀ (A:Around) (outer:List Env) (s:Shared) (H:Hp) (args:Args) (us:List Value) (vs:List V) (Q:VK) (E:XK),Room k A->Env0 P w K mg base A outer s H->BindsTo s fd args (ps.zip us)->Vals vs us->sp vs H Q E->
  codeAny (model P w) A (.call (.ref f) args) (CR CX outer P w H s Q E) s
def FnOk.imp{k:Nat}{ps:List Str}{sp':Sp}(F:FnOk P w K mg base CX k f fd ps sp)
 (h:∀vs H Q E,sp' vs H Q E->sp vs H Q E):FnOk P w K mg base CX k f fd ps sp':=
 ⟨λvs H Q E q=>F.len vs H Q E (h _ _ _ _ q),λA outer s H args a vs Q E b d e i j=>F.run A outer s H args a vs Q E b d e i (h _ _ _ _ j)⟩
def Env0.make{s:Shared}(e:Env0 P w K mg base A outer s H)(C:Addr)(us:List Value)(a:List (Str×Value)):
 Env0 P w K mg base (A.under (.builtin "type.__call__" ⟨.ref C::us,a⟩)) outer s H:=⟨by first|exact e.frames|(simpa[Around.under,Code.envs,Code.isFrame,pushEnvs]using e.frames),e.mod,e.bs,e.bsz,e.funs,e.frf,e.hok,e.bare⟩
section
variable{s s':Shared}
def Inv.env0(I:Inv X pins σ H s):Env0 X.prog X.w X.K X.mg X.base X.A X.stack s H:=
 ⟨I.ok.frames,I.ok.mod,I.bs,Nat.le_trans I.ok.bsz I.sz,I.stack,I.stkFree,I.hok,I.bare⟩
def Inv.after{u:Value}(I:Inv X pins σ H s)(h:CE X.stack X.prog X.w H s Q u s'):EP X pins σ Q u s':=by
 obtain⟨v,e,os,bare,un,hok,r,q⟩:=h;obtain⟨i,g,d,t,a⟩:=s';obtain rfl:a=s.os:=os;exact⟨v,e,I.call (h':=i) (g':=g) (d':=d) (t':=t) (ch:=[]) un hok bare (λb z=>absurd z (by simp)),r,q⟩
end
def EH(sp:Sp)(a:List V)(E:XK)(t:TA):TE:=λσ H Q=>t σ H λvs b=>sp (vs++a) b Q E
def EF(C:Addr)(m:Str)(sp:Sp)(b:List V)(E:XK)(e:TE)(t:TA):TE:=λσ H Q=>e σ H λx d=>∃a h fs,x= .ref a/\d a=some (.ins C h fs)/\fs.lookup m=none/\
 t σ d λvs i=>sp (x::(vs++b)) i Q E
def EG(C:Addr)(sp:Sp)(b:List V)(E:XK)(t:TA):TE:=λσ H Q=>t σ H λvs d=>∀x a,d x=none->d a=none->a≠x->
 sp (.ref x::(vs++b)) (upd (upd d a (.own x)) x (.ins C a [])) (λv e=>v= .non/\Q (.ref x) e) E
def Binds(K:W.Frag)(fd:FuncData)(ps:List Str)(b:List Value):Prop:=
 ∀ (s:Shared) (a:List Value),K.In s.heap->(a++b).length=ps.length->BindsTo s fd ⟨a,[]⟩ (ps.zip (a++b))
def Binds.all{ps:List Str}(h:∀a:List Value,a.length=ps.length->bindArgs fd ⟨a,[]⟩=pure (ps.zip a)):Binds K fd ps []:=λs a _ b=>by
 rw[List.append_nil]at b⊢;exact .of_eq (h a b)
def CV(CX:CXT)(X:Cx)(E:XK):Prop:=∀ (pins:List (Addr×Obj)) (σ:W3) (H:Hp) (s:Shared) (e:Value) (a:Shared),Inv X pins σ H s->CX X.stack H s E e a->X.xe e a
section
variable{k:Nat}{ps:List Str}{dvs:List V}{m:Str}{p apos:Pos}{o:Expr}
def E6{s:Shared}(F:FnOk X.prog X.w X.K X.mg X.base CX k f fd ps sp)(d:Room k X.A)(i:Binds X.K fd ps ds)(hd:Vals dvs ds)(j:CV CX X E)
 (I:Inv X pins σ H s) (r:Vals vs us) (h:sp (vs++dvs) H Q E):wpAny (model X.prog X.w) X.A (call (.ref f) us) (EP X pins σ Q) X.xe s:=by
 have b:Vals (vs++dvs) (us++ds):=r.append hd;have l:(us++ds).length=ps.length:=by rw[<-b.length];exact F.len _ _ _ _ h
 refine wpAny_call (codeAny_mono (F.run X.A X.stack s H ⟨us,[]⟩ (us++ds) (vs++dvs) Q E d I.env0 (i s us I.kIn l) b h) λr q a=>?_)
 cases r with
 |error e=>exact j pins σ H s e q I a
 |ok fl=>
  cases fl with
  |ret u=>exact I.after a
  |next=>exact False.elim a
  |brk=>exact False.elim a
  |cont=>exact False.elim a
def SX(F:FnOk X.prog X.w X.K X.mg X.base CX k f fd ps sp)(i:Room k X.A)(hg:Gl X x)(j:X.mg x=some (.ref f))(hk:W.keepIn X.K (.ref f)=true)(l:Binds X.K fd ps ds)(hd:Vals dvs ds)(v:CV CX X E)
 (y:PA X (e::es) t) (a:(x==("__debug__":Str))=false:=by decide) (z:starEach (e::es) X.env=(false,eval e X.env)::starEach es X.env:=by rfl) (b:(backTo pos (starEach es X.env)).any (·.1)=false:=by rfl):
 PE X (.Call (.Name x p) (e::es) [] pos) (EH sp dvs E t):=by
 intro pins s σ H Q I h;refine wpAny_Call_Name_kw (CQ I hg j ?_ a);refine W.callWith_K (h₀:=X.base) I.ok.mod.kin hk (thn (y pos pins s σ H _ I h) λB G ⟨vs,J,d,r,q⟩=>⟨d.kIn,?_⟩) z b;exact E6 F i l hd v d r q
def Qv(F:FnOk X.prog X.w X.K X.mg X.base CX k f fd ps sp)(b:Room k X.A)(hg:Gl X x)(d:X.mg x=some (.ref f))(hk:W.keepIn X.K (.ref f)=true)(i:Binds X.K fd ps ds)(hd:Vals dvs ds)(j:CV CX X E)
 (a:(x==("__debug__":Str))=false:=by decide):PE X (.Call (.Name x p) [] [] pos) (EH sp dvs E tNil):=by
 intro pins s σ H Q I h;refine wpAny_Call_Name_kw (CQ I hg d ?_ a);exact W.callWith_K0 I.kIn hk (E6 (us:=[]) F b i hd j I .nil h)
def SN(y:PE X o ta)(c:Cls X.K C)(i:Meth X.K C m f)(F:FnOk X.prog X.w X.K X.mg X.base CX k f fd ps sp)(z:Room k X.A)(B:Binds X.K fd ps ds)(hd:Vals dvs ds)(G:CV CX X E)(J:PA X (e::es) t)
 (b:starEach (e::es) X.env=(false,eval e X.env)::starEach es X.env:=by rfl) (d:(backTo pos (starEach es X.env)).any (·.1)=false:=by rfl)
 (ht:eval (.Call (.Attribute o m apos) (e::es) [] pos) X.env=(do
   let ov<-eval o X.env
   standAt apos.atName
   let(f,first)<-holding [ov] (getMethod ov m pl)
   callWith pos f first (backTo pos (starEach (e::es) X.env)) (backToKw pos (keywordEach [] X.env))):=by rfl):
 PE X (.Call (.Attribute o m apos) (e::es) [] pos) (EF C m sp dvs E ta t):=by
 intro pins s σ H Q I h;refine W.methodCall_KW (pl:=pl) (thn (y pins s σ H _ I h) λu L ⟨x,M,j,P,a,T,fs,ex,R,l,q⟩=>?_) ht;subst ex;obtain rfl:u=Value.ref a:=P;refine Ff j R c i l ?_;refine W.callWith_K (first:=[.ref a]) (h₀:=X.base) I.ok.mod.kin i.kp (thn (J pos pins L σ M _ j q) λus U ⟨vs,Y,v,r,S⟩=>⟨v.kIn,?_⟩) b d;exact E6 (us:= .ref a::us) (vs:= .ref a::vs) F z B hd G v (.cons rfl r) S
def Qp(i:PE X o ta)(c:Cls X.K C)(d:Meth X.K C m f)(F:FnOk X.prog X.w X.K X.mg X.base CX k f fd ps sp)(j:Room k X.A)(r:Binds X.K fd ps ds)(hd:Vals dvs ds)(v:CV CX X E)
 (ht:eval (.Call (.Attribute o m apos) [] [] pos) X.env=(do
   let ov<-eval o X.env
   standAt apos.atName
   let(f,first)<-holding [ov] (getMethod ov m pl)
   callWith pos f first (backTo pos (starEach [] X.env)) (backToKw pos (keywordEach [] X.env))):=by rfl):
 PE X (.Call (.Attribute o m apos) [] [] pos) (EF C m sp dvs E ta tNil):=by
 intro pins s σ H Q I h;refine W.methodCall_KW (pl:=pl) (thn (i pins s σ H _ I h) λu B ⟨x,G,b,y,a,J,fs,ex,z,l,q⟩=>?_) ht;subst ex;obtain rfl:u=Value.ref a:=y;refine Ff b z c d l ?_;exact W.callWith_K0 (first:=[.ref a]) b.kIn d.kp (E6 (us:=[.ref a]) (vs:=[.ref a]) F j r hd v b (.cons rfl .nil) q)
structure Mk (K:W.Frag) (C f:Addr):Prop where
 makes:W.makesIn K C=true
 init:W.findIn K (.ref C) "__init__"=some (some (.ref f))
 fn:W.isFn K (.ref f)=true
 kp:W.keepIn K (.ref C)=true
def JV{s:Shared}(M:Mk X.K C f)(F:FnOk X.prog X.w X.K X.mg X.base CX k f fd ps sp)(l:Room (k+1) X.A)(q:Binds X.K fd ps ds)(hd:Vals dvs ds)
 (y:CV CX X E) (I:Inv X pins σ H s) (r:Vals vs us)
 (h:∀x b,H x=none->H b=none->b≠x->sp (.ref x::(vs++dvs)) (upd (upd H b (.own x)) x (.ins C b [])) (λv z=>v= .non/\Q (.ref x) z) E):
 wpAny (model X.prog X.w) X.A (call (.ref C) us) (EP X pins σ Q) X.xe s:=by
 have i:=h (s.heap.objs.size+1) s.heap.objs.size (I.hok.fresh (Nat.le_succ _)) (I.hok.fresh (Nat.le_refl _)) (Nat.ne_of_lt (Nat.lt_succ_self _));have d:=Inv.made (C:=C) I;have j:Vals (V.ref (s.heap.objs.size+1)::(vs++dvs)) (Value.ref (s.heap.objs.size+1)::(us++ds)):= .cons rfl (r.append hd);have B:(Value.ref (s.heap.objs.size+1)::us++ds).length=ps.length:=by
  have e:=j.length;rw[F.len _ _ _ _ i]at e;exact e.symm
 refine wpAny_call (Q1 (f:=f) I.kIn M.makes M.init (beq_iff_eq.mp M.fn) (codeAny_mono (F.run _ X.stack _ _ ⟨Value.ref (s.heap.objs.size+1)::us,[]⟩ (Value.ref (s.heap.objs.size+1)::(us++ds)) _ _ E (l.make C us [])
  (d.env0.make C us []) (q _ (Value.ref (s.heap.objs.size+1)::us) d.kIn B) j i) λr G a=>?_))
 cases r with
 |error e=>exact y pins σ _ _ e G d a
 |ok fl=>
  cases fl with
  |ret u=>
   obtain⟨v,J,L,P,R,S⟩:=d.after a;subst R;exact⟨P,⟨V.ref (s.heap.objs.size+1),J,L,rfl,S⟩⟩
  |next=>exact False.elim a
  |brk=>exact False.elim a
  |cont=>exact False.elim a
def SQ(M:Mk X.K C f)(F:FnOk X.prog X.w X.K X.mg X.base CX k f fd ps sp)(i:Room (k+1) X.A)(hg:Gl X x)(j:X.mg x=some (.ref C))(l:Binds X.K fd ps ds)(hd:Vals dvs ds)(v:CV CX X E)
 (y:PA X (e::es) t) (a:(x==("__debug__":Str))=false:=by decide) (z:starEach (e::es) X.env=(false,eval e X.env)::starEach es X.env:=by rfl) (b:(backTo pos (starEach es X.env)).any (·.1)=false:=by rfl):
 PE X (.Call (.Name x p) (e::es) [] pos) (EG C sp dvs E t):=by
 intro pins s σ H Q I h;refine wpAny_Call_Name_kw (CQ I hg j ?_ a);refine W.callWith_K (h₀:=X.base) I.ok.mod.kin M.kp (thn (y pos pins s σ H _ I h) λB G ⟨vs,J,d,r,q⟩=>⟨d.kIn,?_⟩) z b;exact JV M F i l hd v d r q
def Qq(M:Mk X.K C f)(F:FnOk X.prog X.w X.K X.mg X.base CX k f fd ps sp)(b:Room (k+1) X.A)(hg:Gl X x)(d:X.mg x=some (.ref C))(i:Binds X.K fd ps ds)(hd:Vals dvs ds)(j:CV CX X E)
 (a:(x==("__debug__":Str))=false:=by decide):PE X (.Call (.Name x p) [] [] pos) (EG C sp dvs E tNil):=by
 intro pins s σ H Q I h;refine wpAny_Call_Name_kw (CQ I hg d ?_ a);exact W.callWith_K0 I.kIn M.kp (JV (us:=[]) M F b i hd j I .nil h)
end
structure FnScope (N P:List Str) (sc:Scope):Prop where
 kind:sc.kind= .function
 co:sc.isCoroutine=false
 gen:sc.isGenerator=false
 nd:N.Nodup
 pre:N.take P.length=P
 par:∀x∈P,sc.names.lookup x=some .local\/sc.names.lookup x=some .cell
 nofree:∀y∈sc.names,y.2≠ .free
theorem JB:∀ {binds:List (Str×Value)} {m:Str->Option Value},(∀v,(x,v)∉binds)->bindL kindOf binds m x=m x
 |[],_,_=>rfl
 |(n,v)::r,m,h=>by
  unfold bindL;rw[JB λw a=>h w (List.mem_cons_of_mem _ a)]
  split
  ·have:x≠n:=by rintro rfl;exact h v List.mem_cons_self
   simp[this]
  ·rfl
theorem JD:∀ {binds:List (Str×Value)} {m:Str->Option Value},(∀v,(x,v)∉binds)->bindC kindOf binds m x=m x
 |[],_,_=>rfl
 |(n,v)::r,m,h=>by
  unfold bindC;rw[JD λw a=>h w (List.mem_cons_of_mem _ a)]
  split
  ·rfl
  ·have:x≠n:=by rintro rfl;exact h v List.mem_cons_self
   simp[this]
theorem JC:∀ {P:List Str} {vs:List Value} {i:Nat} {m:Str->Option Value},P.Nodup->P[i]? =some x->vs[i]? =some v->kindOf x=some .local->
 bindL kindOf (P.zip vs) m x=some v
 |[],_,_,_,_,h,_,_=>by simp at h
 |_::_,[],_,_,_,_,h,_=>by simp at h
 |p::P,w::vs,0,m,nd,a,b,hk=>by
  simp at a b;subst a;subst b;show bindL kindOf ((p,w)::P.zip vs) m p=_;unfold bindL;rw[JB λv d=>(List.nodup_cons.mp nd).1 (List.of_mem_zip d).1,if_pos hk];simp
 |p::P,w::vs,i+1,m,nd,a,b,hk=>by
  show bindL kindOf ((p,w)::P.zip vs) m x=_;unfold bindL;exact JC (i:=i) (List.nodup_cons.mp nd).2 (by simpa using a) (by simpa using b) hk
theorem JE:∀ {P:List Str} {vs:List Value} {i:Nat} {m:Str->Option Value},P.Nodup->P[i]? =some x->vs[i]? =some v->kindOf x≠some .local->
 bindC kindOf (P.zip vs) m x=some v
 |[],_,_,_,_,h,_,_=>by simp at h
 |_::_,[],_,_,_,_,h,_=>by simp at h
 |p::P,w::vs,0,m,nd,a,b,hk=>by
  simp at a b;subst a;subst b;show bindC kindOf ((p,w)::P.zip vs) m p=_;unfold bindC;rw[JD λv d=>(List.nodup_cons.mp nd).1 (List.of_mem_zip d).1,if_neg hk];simp
 |p::P,w::vs,i+1,m,nd,a,b,hk=>by
  show bindC kindOf ((p,w)::P.zip vs) m x=_;unfold bindC;exact JE (i:=i) (List.nodup_cons.mp nd).2 (by simpa using a) (by simpa using b) hk
def start(N:List Str)(vs:List V):W3:=vs.map some++List.replicate (N.length-vs.length) none
def Cw(CX:CXT)(P:Program)(w:World)(K:W.Frag)(mg:Str->Option Value)(base:Heap)(N:List Str)(qual:Str)(scope:Scope)(f:Addr)(b:Value)(A:Around)(outer:List Env)(s:Shared)(H:Hp)(E:XK):Cx where
 prog:=P
 w:=w
 K:=K
 mg:=mg
 base:=base
 A:=A.deeper (envOfC qual scope s.heap.objs.size f b)
 N:=N
 s₀:=s
 H₀:=H
 env:=envOfC qual scope s.heap.objs.size f b
 outer:=outer
 stack:=envOfC qual scope s.heap.objs.size f b::outer
 ex:=[]
 calm:=true
 fn:=λ_=>true
 pn:=[]
 xe:=λe d=>wpAny (model P w) (A.deeper (envOfC qual scope s.heap.objs.size f b)) (leaving (envOfC qual scope s.heap.objs.size f b) e) (λ_ a=>CX outer H s E e a) (λh a=>CX outer H s E h a) d
def Jw{sc:Scope}(h:sc.names.lookup x=some .cell):∃c,(cellsFrom n sc.names []).lookup x=some c:=by
 have q:=W.cellsFrom_some sc.names n [] (.inl h);exact Option.isSome_iff_exists.mp q
def Pp{N ps:List Str}{cd:Value}{s s1:Shared}
 (S:FnScope N ps scope) (hd:A.handled=none) (j:Env0 P w K mg base A outer s H) (R:vs.length=ps.length) (r:Vals vs us)
 (x:InCallC s s.heap.objs.size (bindL (envOfC qual scope s.heap.objs.size f cd).kindOf (ps.zip us) λ_=>none) (cellsFrom (s.heap.objs.size+1) scope.names []) (bindC (envOfC qual scope s.heap.objs.size f cd).kindOf (ps.zip us) λ_=>none) s1):
 Inv (Cw CX P w K mg base N qual scope f cd A outer s H E) [] (start N vs) H s1:=by
 have L:ps.length<=N.length:=by have:=congrArg List.length S.pre;rw[List.length_take]at this;lia
 obtain⟨G,T,rfl,hk⟩:=x.done;have l:∀b:Addr,b∉(Cw CX P w K mg base N qual scope f cd A outer s H E).ex:=λb z=>absurd (show b∈([]:List Addr)from z) (by simp);refine⟨⟨j.mod,S.kind,rfl,rfl,Nat.le_refl _,λy z c G d=>?_,λy hy=>?_,λy c _ h=>?_,λ_=>hd,Around.frames_deeper j.frames, .inr ⟨rfl,rfl⟩,λb z=>absurd z (l b),j.bs,j.bsz,λb _ _=>l b,λb z=>absurd z (l b),j.funs,j.frf⟩,
  rfl,j.bare,Un.kept hk,⟨_,x.toInCall.ns,λi y v G d U=>?_⟩,λy c h=>⟨_,x.cell y c h⟩,j.hok.fresh (Nat.le_refl _),λy c h=>?_,λp o=>absurd (show p∈([]:List (Addr×Obj))from o) (by simp),j.hok.kept hk,?_⟩
 ·exact name_of_addr x.apart (PySem.mem_of_lookup G) (PySem.mem_of_lookup d)
 ·have hy:scope.names.lookup y=some .cell\/scope.names.lookup y=some .free:=hy;rcases hy with hy|hy
  ·exact Jw hy
  ·exact absurd rfl (S.nofree _ (PySem.mem_of_lookup hy))
 ·exact Nat.le_of_lt (x.above y c (PySem.mem_of_lookup h))
 ·have I:i<vs.length:=by
   unfold start at d
   by_cases I:i<vs.length
   ·exact I
   ·rw[List.getElem?_append_right (by simpa using I)]at d;rw[List.getElem?_replicate]at d
    split at d<;>cases d
  have M:vs[i]? =some v:=by
   unfold start at d;rw[List.getElem?_append_left (by simpa using I),List.getElem?_map]at d
   cases e:vs[i]? with
   |none=>rw[e]at d;cases d
   |some a=>rw[e]at d;cases d;rfl
  obtain⟨u,J,Q⟩:=r.get M;have o:ps[i]? =some y:=by
   rw[<-S.pre,List.getElem?_take_of_lt (by lia)];exact G
  have B:ps.Nodup:=by rw[<-S.pre];exact S.nd.sublist (List.take_sublist _ _)
  refine⟨u,Q,?_⟩;rcases S.par y (List.mem_of_getElem? o)with k|k
  ·exact .inl ⟨k,JC B o J k⟩
  ·obtain⟨c,e⟩:=Jw (n:=s.heap.objs.size+1) k;refine .inr ⟨.inl k,c,e,?_⟩;have q:=x.cell y c e;rw[JE B o J (by show scope.names.lookup y≠_;rw[k];decide)]at q;exact q
 ·exact j.hok.fresh (Nat.le_of_lt (x.above y c (PySem.mem_of_lookup h)))
 ·unfold start;show _=N.length;rw[List.length_append,List.length_map,List.length_replicate];lia
def Ly{k:Nat}{name:Str}{dV kV doc pm cdv ct oc:Value}{an od:Option Addr}
 {osl:Array (Option Value)} {N ps:List Str} {sp:Sp} (L:K.lookup f=some ⟨oc,od, .func (W.fnOf name qual params body scope dV kV doc pm an cdv ct),osl⟩) (p:W.codeIn K cdv qual=true) (S:FnScope N ps scope)
 (len:∀vs H Q E,sp vs H Q E->vs.length=ps.length)
 (d:∀ (A:Around) (outer:List Env) (s:Shared) (H:Hp) (vs:List V) (Q:VK) (E:XK),Room k (A.deeper (envOfC qual scope s.heap.objs.size f cdv))->sp vs H Q E->
   ∃t,PSs (Cw CX P w K mg base N qual scope f cdv A outer s H E) body t/\t {nx:=λ_ a=>Q .non a,rt:=Q} (start N vs) H):
 FnOk P w K mg base CX (k+1) f (W.fnOf name qual params body scope dV kV doc pm an cdv ct) ps sp:=by
 refine⟨len,λA outer s H args M vs Q E z j R r l=>?_⟩;have T:=len _ _ _ _ l;have KX:K.In s.heap:=j.mod.kin.keeps λb o e=>(j.bs b o e).1;have B:s.heap.NoLimit:=j.mod.nolimit.keeps λb o e=>(j.bs b o e).1;have h:∀y∈ps.zip M,scope.names.lookup y.1=some .local\/(scope.names.lookup y.1=some .cell/\((cellsFrom (s.heap.objs.size+1) scope.names []).lookup y.1).isSome=true):=λ⟨n,v⟩ U=>by
  rcases S.par n (List.of_mem_zip U).1 with q|q
  ·exact .inl q
  ·exact .inr ⟨q,W.cellsFrom_some _ _ _ (.inl q)⟩
 refine codeAny_call_function z.depth (KX _ _ L) rfl S.co S.gen rfl (W.codeRec_of KX p) (R _ _ _ _ ?_);refine wpAny_newFunctionEnv_cells S.kind h λenv X s1 x=>?_;subst X;refine⟨B.keeps x.toInCall.keep,codeAny_func ?_⟩;obtain⟨t,ht,Y⟩:=d A outer s H vs Q E (z.deeper _) l;have I:Inv (Cw CX P w K mg base N qual scope f cdv A outer s H E) [] (start N vs) H s1:=Pp S z.hd j T r x;refine wpAny_mono (ht [] s1 (start N vs) H _ I Y) (λfl s' i=>?_) λe s' i=>i;have fin:∀ {σ':W3} {a:Hp} {v:V} {u:Value},Inv (Cw CX P w K mg base N qual scope f cdv A outer s H E) [] σ' a s'->RelV v u->Q v a->CE outer P w H s Q u s':=
  fun{σ' a v u} J G q=>⟨v,a,J.os,J.bare,J.base,J.hok,G,q⟩
 cases fl with
 |ret u=>
  obtain⟨v,σ',a,J,G,q⟩:=i;exact fin J G q
 |next=>
  obtain⟨σ',a,J,q⟩:=i;exact fin (v:=V.non) (u:=Value.none) J rfl q
 |brk=>
  obtain⟨_,_,_,q⟩:=i;exact False.elim q
 |cont=>
  obtain⟨_,_,_,q⟩:=i;exact False.elim q
section
variable{p:Pos}{id:String}
def tCB(r:List V->Hp->VK->Prop)(t:TA):TE:=λσ H Q=>t σ H λvs a=>r vs a Q
def Aj(d:CallR X (.builtin id) r)(hg:Gl X x)(i:X.mg x=none)(j:bootBuiltins x=some (.builtin id))(l:PA X (e::es) t)(o:x≠"__name__":=by decide)(a:(x==("__debug__":Str))=false:=by decide)
 (q:starEach (e::es) X.env=(false,eval e X.env)::starEach es X.env:=by rfl) (b:(backTo pos (starEach es X.env)).any (·.1)=false:=by rfl):PE X (.Call (.Name x p) (e::es) [] pos) (tCB r t):=by
 intro pins s σ H Q I h;refine wpAny_Call_Name_kw (B0 I hg i j ?_ o a);exact PyProof.Rows.callWith_builtin1 (thn (l pos pins s σ H _ I h) λv y ⟨vs,z,B,G,J⟩=>d pins y σ z vs v Q B G J) q b
def B5(d:CallR X (.type T) r)(hg:Gl X x)(i:X.mg x=none)(j:bootBuiltins x=some (.type T))(l:PA X (e::es) t)(o:x≠"__name__":=by decide)(a:(x==("__debug__":Str))=false:=by decide)
 (q:starEach (e::es) X.env=(false,eval e X.env)::starEach es X.env:=by rfl) (b:(backTo pos (starEach es X.env)).any (·.1)=false:=by rfl):PE X (.Call (.Name x p) (e::es) [] pos) (tCB r t):=by
 intro pins s σ H Q I h;refine wpAny_Call_Name_kw (B0 I hg i j ?_ o a);exact PyProof.Rows.callWith_type1 (thn (l pos pins s σ H _ I h) λv y ⟨vs,z,B,G,J⟩=>d pins y σ z vs v Q B G J) q b
end
end L2
open L2
namespace HT
section
variable{s:Shared}
def sIx(n d:Nat):Option Int->Nat
 |none=>d
 |some v=>if v<0 then(v+(n:Int)).toNat else min v.toNat n
def sIx_none(n d:Nat):sIx n d none=d:=rfl
def sIx_nat(n d k:Nat):sIx n d (some (k:Int))=min k n:=by
 show(if(k:Int)<0 then((k:Int)+(n:Int)).toNat else min (k:Int).toNat n)=min k n;rw[if_neg (by lia),Int.toNat_natCast]
def sIx_le(n d:Nat)(hd:d<=n)(o:Option Int):sIx n d o<=n:=by
 cases o with
 |none=>exact hd
 |some v=>
  show(if v<0 then(v+(n:Int)).toNat else min v.toNat n)<=n
  by_cases a:v<0
  ·rw[if_pos a];lia
  ·rw[if_neg a];exact Nat.min_le_right _ _
end
end HT
open HT
namespace L2
variable{f:Array Value->Array Value}{i:Int}{ys:List V}{its its':List Value}{x:V}{r:V->Option Int->Option Int->Hp->VK->Prop}
abbrev TO:=W3->Hp->(Option Int->Hp->Prop)->Prop
def PO(X:Cx)(e:Option Expr)(t:TO):Prop:=
 ∀ (pins:List (Addr×Obj)) (s:Shared) (σ:W3) (H:Hp) (Q:Option Int->Hp->Prop),Inv X pins σ H s->t σ H Q->
   wpAny (model X.prog X.w) X.A (evalPart e X.env) (λu b=>∃o a,Inv X pins σ a b/\IsPart u o/\Q o a) X.xe s
def tNoPart:TO:=λ_ H Q=>Q none H
def Lc(t:TE):TO:=λσ H Q=>t σ H λx a=>∃i,x= .int i/\Q (some i) a
def IL:∀ {a:List Value},Vals (ns.map V.int) a->IntsAre a ns:=by
 induction ns with
 |nil=>intro a r;rw[List.map_nil]at r;cases r;exact .nil
 |cons n ns b=>
  intro a r;rw[List.map_cons]at r
  cases r with
  |cons d h=>
   obtain⟨t,e⟩:=d;subst e;exact .cons n t (b h)
section
variable{lo hi:Option Expr}{tl th:TO}{p2:Pos}
def BW:PO X none tNoPart:=by
 intro pins s σ H Q I h;rw[evalPart_none];exact wpAny_pure ⟨none,H,I, .none,h⟩
def BV(h:PE X e te):PO X (some e) (Lc te):=by
 intro pins s σ H Q I a;rw[evalPart_some];refine thn (h pins s σ H _ I a) λu p b=>?_;obtain⟨x,d,j,l,o⟩:=b;obtain⟨i,rfl,q⟩:=o;obtain⟨t,rfl⟩:=l;exact⟨some i,d,j, .int i t,q⟩
def SlR(X:Cx)(r:V->Option Int->Option Int->Hp->VK->Prop):Prop:=
 ∀ (pins:List (Addr×Obj)) (s:Shared) (σ:W3) (H:Hp) (x:V) (v a b:Value) (lo hi:Option Int) (d:Addr) (Q:VK),Inv X pins σ H s->RelV x v->s.heap.IsSliceOf d a b .none->IsPart a lo->IsPart b hi->r x lo hi H Q->
   ∃T id,typeLookup (.type T) "__getitem__"=pure (some (.builtin id))/\s.TypeIs v T/\wpAny (model X.prog X.w) X.A (getItem v (.ref d)) (EP X pins σ Q) X.xe s
def SlR.or{r':V->Option Int->Option Int->Hp->VK->Prop}(h:SlR X r)(h':SlR X r'):SlR X (λx lo hi H Q=>r x lo hi H Q\/r' x lo hi H Q):=by
 intro pins s σ H x v a b lo hi d Q I i j l o q;rcases q with q|q
 ·exact h pins s σ H x v a b lo hi d Q I i j l o q
 ·exact h' pins s σ H x v a b lo hi d Q I i j l o q
def tSl(r:V->Option Int->Option Int->Hp->VK->Prop)(te:TE)(tl th:TO):TE:=λσ H Q=>te σ H λx a=>tl σ a λl b=>th σ b λu d=>r x l u d Q
def BS(p:SlR X r)(y:PE X e te)(z:PO X lo tl)(B:PO X hi th):PE X (.Subscript e (.Slice lo hi none p2) pos) (tSl r te tl th):=by
 intro pins s σ H Q I h;refine Subscript_ (thn (y pins s σ H _ I h) λv G j=>?_);obtain⟨x,J,L,M,P⟩:=j;refine wpAny_Slice (thn (z pins G σ J _ L P) λd R ⟨l,S,U,Y,Z⟩=>thn (B pins R σ S _ U Z) λi a j=>?_);obtain⟨u,o,I3,pu,q3⟩:=j;rw[evalPart_none];refine wpAny_pure ?_;have I4:Inv X pins σ o {a with heap:=a.heap.push {cls:= .type "slice",data:= .fields #[d,i, .none]}}:=I3.kept (t':=a.toks) λb ob q=>Heap.get?_push_of_some _ q;obtain⟨T,id,hT,ht,hg⟩:=p pins {a with heap:=a.heap.push {cls:= .type "slice",data:= .fields #[d,i, .none]}} σ o x v d i l u a.heap.objs.size Q I4 M (Heap.IsSliceOf.new ..) Y pu q3;show wpAny (model X.prog X.w) X.A (subscriptTail e (.Slice lo hi none p2) v (.ref a.heap.objs.size)) (EP X pins σ Q) X.xe {a with heap:=a.heap.push {cls:= .type "slice",data:= .fields #[d,i, .none]}};exact tail_any (ops:=[.ref a.heap.objs.size,v]) ht hT hg (by with_unfolding_all rfl)
def DO(xs:List V)(lo hi:Option Int):List V:=(xs.drop (HT.sIx xs.length 0 lo)).take (HT.sIx xs.length xs.length hi-HT.sIx xs.length 0 lo)
def N6(xs:List V)(lo hi:Option Int):(DO xs lo hi).length<=xs.length:=by
 unfold DO;rw[List.length_take,List.length_drop];lia
end
def ixN(n:Nat)(i:Int):Option Nat:=if 0<=i then(if i<n then some i.toNat else none)else if -(n:Int)<=i then some (i+n).toNat else none
def atI{α:Type}(xs:List α)(i:Int):Option α:=(ixN xs.length i).bind λj=>xs[j]?
def Kh(h:ixN n i=some j):seqIndex? i n=some j/\j<n/\ -(n:Int)<=i/\i<n:=by
 unfold ixN at h
 by_cases h0:0<=i
 ·rw[if_pos h0]at h
  by_cases a:i<n
  ·rw[if_pos a]at h;have e:i.toNat=j:=Option.some.inj h;exact⟨by rw[seqIndex_of h0 a,e],by lia,by lia,a⟩
  ·rw[if_neg a]at h;cases h
 ·rw[if_neg h0]at h
  by_cases a: -(n:Int)<=i
  ·rw[if_pos a]at h;have e:(i+n).toNat=j:=Option.some.inj h;exact⟨by rw[seqIndex_neg (by lia) a,e],by lia,a,by lia⟩
  ·rw[if_neg a]at h;cases h
def GZ{xs:List α}{v:α}(h:atI xs i=some v):∃j,seqIndex? i xs.length=some j/\xs[j]? =some v/\j<xs.length/\ -(xs.length:Int)<=i/\i<xs.length:=by
 unfold atI at h
 cases e:ixN xs.length i with
 |none=>rw[e]at h;cases h
 |some j=>
  rw[e]at h;obtain⟨a,b,d,l⟩:=Kh e;exact⟨j,a,h,b,d,l⟩
def Ab{xs:List α}{v:α}(h:xs[j]? =some v):atI xs (j:Int)=some v:=by
 have a:j<xs.length:=(List.getElem?_eq_some_iff.mp h).1;have e:ixN xs.length (j:Int)=some j:=by
  unfold ixN;rw[if_pos (by lia),if_pos (by lia)];simp
 unfold atI;rw[e];exact h
def Jz(xs:List α)(v:α):atI (xs++[v]) (-1)=some v:=by
 have a:(xs++[v]).length=xs.length+1:=by simp
 have e:ixN (xs++[v]).length (-1)=some xs.length:=by
  unfold ixN;rw[a,if_neg (by decide),if_pos (by lia)];congr 1;lia
 unfold atI;rw[e];show(xs++[v])[xs.length]? =some v;simp
def Ez(b:Expr):Prop:=∀o i,subscripted b false o i=operate [o,i] (getItem o i)
def IxR(X:Cx)(r:R2):Prop:=
 ∀ (value slice:Expr) (pins:List (Addr×Obj)) (s:Shared) (σ:W3) (H:Hp) (x y:V) (v u:Value) (Q:VK),Inv X pins σ H s->RelV x v->RelV y u->r x y H Q->
   subscripted slice false v u=operate [v,u] (getItem v u)->wpAny (model X.prog X.w) X.A (subscriptTail value slice v u) (EP X pins σ Q) X.xe s
def MtR(X:Cx)(id:String)(r:V->List V->Hp->VK->Prop):Prop:=
 ∀ (pins:List (Addr×Obj)) (s:Shared) (σ:W3) (H:Hp) (x:V) (a:List V) (v:Value) (b:List Value) (Q:VK),Inv X pins σ H s->RelV x v->Vals a b->r x a H Q->
   wpAny (model X.prog X.w) X.A (call (.builtin id) (v::b)) (EP X pins σ Q) X.xe s
section
variable{a b:Expr}{tb:TE}
def IxR.or{r r':R2}(h:IxR X r)(h':IxR X r'):IxR X (λx y H Q=>r x y H Q\/r' x y H Q):=by
 intro value slice pins s σ H x y v u Q I d e q i;rcases q with q|q
 ·exact h value slice pins s σ H x y v u Q I d e q i
 ·exact h' value slice pins s σ H x y v u Q I d e q i
def HG{r:R2}(d:IxR X r)(e:PE X a ta)(i:PE X b tb)(j:Ez b):PE X (.Subscript a b pos) (tOp r ta tb):=by
 intro pins s σ H Q I h;exact Subscript_ (HV e i I h λv u l x y o p z B q=>d a b pins l σ o x y v u Q p z B q (j _ _))
def MS(K:W.Frag):R2:=λx y H Q=>∃p d i v,x= .ref p/\y= .int i/\SqL K H p d/\atI d i=some v/\Q v H
def MR(K:W.Frag):R2:=λx y H Q=>∃p d i v,x= .ref p/\y= .int i/\SqT K H p d/\atI d i=some v/\Q v H
def rIxS:R2:=λx y H Q=>∃z i c,x= .str z/\y= .int i/\z.length<=sizeLine/\atI z.cps.toList i=some c/\Q (.str ⟨#[c]⟩) H
def ix_list:IxR X (MS X.K):=by
 intro value slice pins s σ H x y v u Q I L M h G;obtain⟨p,xs,i,z,rfl,rfl,P,R,q⟩:=h
 cases L
 obtain⟨t,rfl⟩:=M;obtain⟨e,r,l,hz⟩:=I.list P;obtain⟨j,d,S,h3,T,U⟩:=GZ R;obtain⟨w,J,o⟩:=r.get S;have Y:=r.length;have hn:=line63;have fin:EP X pins σ Q w s:=⟨z,H,I,o,q⟩
 by_cases h0:0<=i
 ·have B:i.toNat=j:=by
   rw[seqIndex_of h0 U]at d;exact Option.some.inj d
  exact item_listR l.isList h0 (by lia) (by rw[B];simpa using J) fin G
 ·have B:(i+(e.toArray.size:Int)).toNat=j:=by
   rw[seqIndex_neg (by lia) T]at d;rw[List.size_toArray,<-Y];exact Option.some.inj d
  exact subscriptTail_builtinR (x:=w) l.isList.typeIs slot_list_getitem.lookup
   (wpAny_getItem_list_neg (Q:=λr Z=>r=w/\EP X pins σ Q r Z) l.isList (by lia) (by rw[List.size_toArray]<;>lia) (by lia) (by rw[B];simpa using J) ⟨rfl,fin⟩) G
def Uz:IxR X (MR X.K):=by
 intro value slice pins s σ H x y v u Q I l o h B;obtain⟨p,U,i,z,rfl,rfl,G,J,q⟩:=h
 cases l
 obtain⟨t,rfl⟩:=o;obtain⟨L,r,e,Y⟩:=I.tuple G;obtain⟨j,M,P,Z,h4,h5⟩:=GZ J;obtain⟨w,R,d⟩:=r.get P;have S:=r.length;have hn:=line63;have fin:EP X pins σ Q w s:=⟨z,H,I,d,q⟩;exact subscriptTail_builtinR (x:=w) e.typeIs slot_tuple_getitem.lookup
  (getItem_tuple (j:=j) (Q:=λr T=>r=w/\EP X pins σ Q r T) e (by lia) (by lia) (by rw[List.size_toArray,<-S];exact M) (by simpa using R) ⟨rfl,fin⟩) B
def U0:IxR X rIxS:=by
 intro value slice pins s σ H x y v u Q I e l h o;obtain⟨z,i,c,rfl,rfl,P,p,q⟩:=h;obtain⟨t,rfl⟩:=e;obtain⟨R,rfl⟩:=l;obtain⟨j,d,r,S,B,G⟩:=GZ p;have J:z.cps.toList.length=z.length:=by simp[Str.length]
 rw[J]at d B G;have T:=line63;exact tail_any (typeIs_str s z t) slot_str_getitem.lookup (getItem_str (c:=c) (by
  have L:decide (i< -(2^63:Int))=false:=decide_eq_false (by lia);have M:decide (i>=2^63)=false:=decide_eq_false (by lia);rw[L,M,Bool.or_false]) (by rw[d];simpa using r) ⟨.str ⟨#[c]⟩,H,I.tok _,⟨_,rfl⟩,q⟩) o
def OY(its:List Value)(n j:Nat)(u:Value):Obj.mapSeq (·.setIfInBounds j u) {cls:= .type "list",data:= .seq its.toArray n}={cls:= .type "list",data:= .seq (its.set j u).toArray n}:=by
 simp[Obj.mapSeq]
theorem Inv.lst{s:Shared}(I:Inv X pins σ H s)(h:H p=some (.lst xs)):
 ∃ (d:List Value) (n:Nat),Vals xs d/\s.heap.get? p=some {cls:= .type "list",data:= .seq d.toArray n}/\xs.length<=sizeLine:=by
 obtain⟨z,d,n,r,e⟩:=I.hok p _ h;exact⟨d,n,r,e,z⟩
def Inv.lstUpd{s:Shared}{n':Nat}{f:Obj->Obj}(I:Inv X pins σ H s)(h:H p=some (.lst xs))
 (d:s.heap.get? p=some {cls:= .type "list",data:= .seq its.toArray n}) (hf:f {cls:= .type "list",data:= .seq its.toArray n}={cls:= .type "list",data:= .seq its'.toArray n'}) (r:Vals ys its') (i:ys.length<=sizeLine) (t:Nat):
 Inv X pins σ (upd H p (.lst ys)) {s with heap:=s.heap.update p f,toks:=t}:=by
 have e:(s.heap.update p f).get? p=some {cls:= .type "list",data:= .seq its'.toArray n'}:=by
  rw[Heap.get?_update_self f d (by rw[hf]<;>rfl),hf]
 refine I.write (x:=p) (e:=p) (by rw[h];trivial) (.inl rfl) (λb u j q=>(Heap.get?_update_other _ _ (Ne.symm j)).trans q) ⟨_,e⟩ ?_;exact⟨i,its',n',r,e⟩
def rSetL:V->V->V->Hp->(Hp->Prop)->Prop:=λo i v H Q=>∃p d k j,o= .ref p/\i= .int k/\H p=some (.lst d)/\ixN d.length k=some j/\Q (upd H p (.lst (d.set j v)))
def Be:HW X rSetL:=by
 intro pins s σ H o i v T U u Q I J L M h;obtain⟨p,P,k,j,rfl,rfl,y,R,q⟩:=h
 cases J
 obtain⟨t,rfl⟩:=L;obtain⟨d,n,r,l,S⟩:=I.lst y;obtain⟨e,Y,z,B⟩:=Kh R;have x:=r.length;have Z:=line63;have G:Inv X pins σ (upd H p (.lst (P.set j v))) {s with heap:=s.heap.update p (Obj.mapSeq (·.setIfInBounds j u))}:=
  I.lstUpd y l (OY d n j u) (r.set M j) (by rw[List.length_set];exact S) s.toks
 by_cases h0:0<=k
 ·have hk:k.toNat=j:=by
   rw[seqIndex_of h0 B]at e;exact Option.some.inj e
  exact W.ki_setAt l h0 (by lia) (by rw[List.size_toArray,<-x];exact B) (by rw[hk];exact⟨_,G,q⟩)
 ·have hk:(k+(d.toArray.size:Int)).toNat=j:=by
   rw[seqIndex_neg (by lia) z]at e;rw[List.size_toArray,<-x];exact Option.some.inj e
  exact W.ki_setBack l (by lia) (by rw[List.size_toArray,<-x];exact z) (by lia) (by rw[hk];exact⟨_,G,q⟩)
def NO(d e:Option Int)(n:Nat):(sliceBounds d e none n).1=((HT.sIx n 0 d:Nat):Int)/\(sliceBounds d e none n).2.1=((HT.sIx n n e:Nat):Int)/\(sliceBounds d e none n).2.2=1:=by
 refine⟨?_,?_,rfl⟩
 ·cases d with
  |none=>simp[sliceBounds,HT.sIx]
  |some i=>
   simp only[sliceBounds,HT.sIx,Option.getD_none,show(1:Int)>0 by decide,if_true]
   by_cases h:i<0
   ·simp only[h,if_true]<;>lia
   ·simp only[h,if_false]<;>lia
 ·cases e with
  |none=>simp[sliceBounds,HT.sIx]
  |some i=>
   simp only[sliceBounds,HT.sIx,Option.getD_none,show(1:Int)>0 by decide,if_true]
   by_cases h:i<0
   ·simp only[h,if_true]<;>lia
   ·simp only[h,if_false]<;>lia
def NE(its:List Value)(d e:Option Int):slicePick its.toArray d e none=((its.drop (HT.sIx its.length 0 d)).take (HT.sIx its.length its.length e-HT.sIx its.length 0 d)).toArray:=by
 obtain⟨h,i,j⟩:=NO d e its.toArray.size;unfold slicePick;rw[h,i,j];simp only[sliceRange_one,pick_run,List.size_toArray]<;>rfl
def MQ(K:W.Frag):V->Option Int->Option Int->Hp->VK->Prop:=λx e h H Q=>∃a d,x= .ref a/\SqL K H a d/\∀p,H p=none->Q (.ref p) (upd H p (.lst (DO d e h)))
def Rb:SlR X (MQ X.K):=by
 intro pins s σ H x v L M i j P Q I l p y z h;obtain⟨a,d,rfl,B,q⟩:=h
 cases l
 obtain⟨G,r,ht,J⟩:=I.list B;have e:=r.length;refine⟨"list",_,slot_list_getitem.lookup,ht.isList.typeIs,?_⟩;refine wpAny_getItem_list_slice ht.isList p y z .none (by simp) ?_ (by rw[List.size_toArray]<;>lia);rw[NE,<-e];refine⟨.ref s.heap.objs.size,_,I.laid (t':=s.toks) (o:= .lst (DO d i j)) (λb ob q=>Heap.get?_push_of_some _ q) (Nat.le_refl _) ?_,rfl,q _ (I.hok.fresh (Nat.le_refl _))⟩;exact⟨Nat.le_trans (N6 d i j) J,_,0,(r.drop (HT.sIx d.length 0 i)).take (HT.sIx d.length d.length j-HT.sIx d.length 0 i),Heap.get?_push_size _ rfl⟩
def Ay:V->Bool
 | .non=>true
 | .bl _=>true
 | .int _=>true
 | .str _=>true
 |_=>false
def eqV:V->V->Bool
 | .non, .non=>true
 | .bl a, .bl b=>a==b
 | .bl a, .int b=>(if a then 1 else 0)==b
 | .int a, .bl b=>a==(if b then 1 else 0)
 | .int a, .int b=>a==b
 | .str a, .str b=>a==b
 |_,_=>false
def LQ{s:Shared}{y:V}{u:Value}(h:RelV y u)(d:RelV x v)(j:Ay y=true)(i:Ay x=true):SeqAt.EqAt A s u v (eqV y x):=by
 cases y with
 |non=>
  cases h
  cases x with
  |non=>cases d;exact SeqAt.EqAt.same _
  |bl b=>cases d;exact SeqAt.EqAt.none_bool b
  |int b=>obtain⟨t,rfl⟩:=d;exact SeqAt.EqAt.none_int b t
  |str b=>obtain⟨t,rfl⟩:=d;exact SeqAt.EqAt.none_str b t
  |_=>exact absurd (show false=true from i) Bool.false_ne_true
 |bl a=>
  cases h
  cases x with
  |non=>cases d;exact SeqAt.EqAt.bool_none a
  |bl b=>cases d;exact SeqAt.EqAt.bool_bool a b
  |int b=>obtain⟨t,rfl⟩:=d;exact SeqAt.EqAt.bool_int a b t
  |str b=>obtain⟨t,rfl⟩:=d;exact SeqAt.EqAt.bool_str a b t
  |_=>exact absurd (show false=true from i) Bool.false_ne_true
 |int a=>
  obtain⟨e,rfl⟩:=h
  cases x with
  |non=>cases d;exact SeqAt.EqAt.int_none a e
  |bl b=>cases d;exact SeqAt.EqAt.int_bool a e b
  |int b=>obtain⟨t,rfl⟩:=d;exact SeqAt.EqAt.int_int a e b t
  |str b=>obtain⟨t,rfl⟩:=d;exact SeqAt.EqAt.int_str a e b t
  |_=>exact absurd (show false=true from i) Bool.false_ne_true
 |str a=>
  obtain⟨e,rfl⟩:=h
  cases x with
  |non=>cases d;exact SeqAt.EqAt.str_none a e
  |bl b=>cases d;exact SeqAt.EqAt.str_bool a e b
  |int b=>obtain⟨t,rfl⟩:=d;exact SeqAt.EqAt.str_int a e b t
  |str b=>obtain⟨t,rfl⟩:=d;exact SeqAt.EqAt.str_str a e b t
  |_=>exact absurd (show false=true from i) Bool.false_ne_true
 |_=>exact absurd (show false=true from j) Bool.false_ne_true
def eqU(x:V)(u:Value):Bool:=match u with
 | .none=>eqV .non x
 | .bool b=>eqV (.bl b) x
 | .int i _=>eqV (.int i) x
 | .str z _=>eqV (.str z) x
 |_=>false
def LP{y:V}{u:Value}(r:RelV y u)(f:Ay y=true):eqU x u=eqV y x:=by
 cases y with
 |non=>cases r;rfl
 |bl b=>cases r;rfl
 |int i=>obtain⟨t,rfl⟩:=r;rfl
 |str z=>obtain⟨t,rfl⟩:=r;rfl
 |_=>exact absurd (show false=true from f) Bool.false_ne_true
theorem D7:∀ {d:List V} {us:List Value},Vals d us->d.all Ay=true->us.any (eqU x)=d.any λy=>eqV y x
 |_,_, .nil,_=>rfl
 |y::d,u::us, .cons r t,f=>by
  rw[List.all_cons,Bool.and_eq_true]at f;rw[List.any_cons,List.any_cons,LP r f.1,D7 t f.2]
theorem Dv{s:Shared}(h:RelV x v)(i:Ay x=true):∀ {d:List V} {e:List Value},Vals d e->d.all Ay=true->∀u∈e,SeqAt.EqAt A s u v (eqU x u)
 |_,_, .nil,_=>λu hu=>by cases hu
 |y::d,u::e, .cons r t,f=>λj hu=>by
  rw[List.all_cons,Bool.and_eq_true]at f;rcases List.mem_cons.mp hu with rfl|hu
  ·rw[LP r f.1];exact LQ r h f.1 i
  ·exact Dv h i t f.2 j hu
def inV(x:V)(xs:List V):Bool:=xs.any λy=>eqV y x
def rIn(K:W.Frag)(e:Bool):R2:=λx y H Q=>∃p d,y= .ref p/\(SqL K H p d\/SqT K H p d)/\Ay x=true/\d.all Ay=true/\Q (.bl (if e then !inV x d else inV x d)) H
def PN:OpR X (compareOp .In) (rIn X.K false):=by
 intro pins s σ H x y v u Q I j o h;obtain⟨p,B,rfl,hq,l,fs,q⟩:=h
 cases o
 rcases hq with hq|hq
 ·obtain⟨d,r,e,z⟩:=I.list hq;refine SeqAt.in_listAt (eqU x) e.isList (λw i=>Dv j l r fs w (by simpa using i)) ⟨.bl _,H,I,rfl,?_⟩;rw[show d.toArray.any (eqU x)=d.any (eqU x) by simp,D7 r fs];exact q
 ·obtain⟨d,r,e,z⟩:=I.tuple hq;refine SeqAt.in_tupleAt (eqU x) e (λw i=>Dv j l r fs w (by simpa using i)) ⟨.bl _,H,I,rfl,?_⟩;rw[show d.toArray.any (eqU x)=d.any (eqU x) by simp,D7 r fs];exact q
def NQ:OpR X (compareOp .NotIn) (rIn X.K true):=by
 intro pins s σ H x y v u Q I j o h;obtain⟨p,B,rfl,hq,l,fs,q⟩:=h
 cases o
 rcases hq with hq|hq
 ·obtain⟨d,r,e,z⟩:=I.list hq;refine SeqAt.notIn_listAt (eqU x) e.isList (λw i=>Dv j l r fs w (by simpa using i)) ⟨.bl _,H,I,rfl,?_⟩;rw[show d.toArray.any (eqU x)=d.any (eqU x) by simp,D7 r fs];exact q
 ·obtain⟨d,r,e,z⟩:=I.tuple hq;refine SeqAt.notIn_tupleAt (eqU x) e (λw i=>Dv j l r fs w (by simpa using i)) ⟨.bl _,H,I,rfl,?_⟩;rw[show d.toArray.any (eqU x)=d.any (eqU x) by simp,D7 r fs];exact q
def Nc:CallR X (.builtin "len") (λo H Q=>∃p e,o=[.ref p]/\(SqL X.K H p e\/SqT X.K H p e)/\Q (.int e.length) H):=by
 intro pins s σ H o y Q I r h;obtain⟨p,e,rfl,hq,q⟩:=h;obtain⟨u,rfl,v⟩:=vals1 r
 cases v
 have z:=line63;rcases hq with hq|hq
 ·obtain⟨i,j,l,x⟩:=I.list hq;have d:=j.length;exact Calls.call_len_list l.isList (by simp only[List.size_toArray]<;>lia) ⟨.int e.length,H,I.tok _,⟨s.toks+1,by rw[List.size_toArray,d]⟩,q⟩
 ·obtain⟨i,j,l,x⟩:=I.tuple hq;have d:=j.length;exact len_tuple l (by simp only[List.size_toArray]<;>lia) ⟨.int e.length,H,I.tok _,⟨s.toks+1,by rw[List.size_toArray,d]⟩,q⟩
def Nb:CallR X (.builtin "len") (λd H Q=>∃z,d=[.str z]/\z.length<=sizeLine/\Q (.int z.length) H):=by
 intro pins s σ H d e Q I r h;obtain⟨z,rfl,i,q⟩:=h;obtain⟨u,rfl,t,rfl⟩:=vals1 r;have j:=line63;exact len_str (by lia) ⟨.int z.length,H,I.tok _,⟨_,rfl⟩,q⟩
def CallR.or{f:Value}{r r':List V->Hp->VK->Prop}(h:CallR X f r)(h':CallR X f r'):CallR X f (λd H Q=>r d H Q\/r' d H Q):=by
 intro pins s σ H d e Q I i q;rcases q with q|q
 ·exact h pins s σ H d e Q I i q
 ·exact h' pins s σ H d e Q I i q
def Na:CallR X (.type "list") (λL H Q=>∃p j,L=[.ref p]/\(SqL X.K H p j\/SqT X.K H p j)/\∀l,H l=none->Q (.ref l) (upd H l (.lst j))):=by
 intro pins s σ H L R Q I r h;obtain⟨p,j,rfl,hq,q⟩:=h;obtain⟨u,rfl,P⟩:=vals1 r
 cases P
 have fin:∀ (d:List Value),Vals j d->j.length<=sizeLine->∀ (i:Heap) (v:Nat),(∀b M,s.heap.get? b=some M->i.get? b=some M)->
  i.get? s.heap.objs.size=some {cls:= .type "list",dict:=none,data:= .seq d.toArray v,slots:= #[]}->EP X pins σ Q (.ref s.heap.objs.size) {s with heap:=i}:=λd x y i v kp e=>
  ⟨.ref s.heap.objs.size,_,I.laid (t':=s.toks) kp (Nat.le_refl _) (show ObjOk X.prog X.w _ i _ (.lst j)from⟨y,d,v,x,e⟩),rfl,q _ (I.hok.fresh (Nat.le_refl _))⟩
 rcases hq with hq|hq
 ·obtain⟨d,x,B,y⟩:=I.list hq;have z:=x.length;obtain⟨o,G,J,n,hd⟩:=B.isList;exact call_list_seq p (.inl rfl) G J hd (λi v kp e=>fin d x y i v kp e) (by simp only[List.size_toArray]<;>lia)
 ·obtain⟨d,x,B,y⟩:=I.tuple hq;have z:=x.length;obtain⟨o,G,J,n,hd⟩:=B;exact call_list_seq p (.inr rfl) G J hd (λi v kp e=>fin d x y i v kp e) (by simp only[List.size_toArray]<;>lia)
def tyV(K:W.Frag)(T:String)(x:V)(H:Hp):Prop:=match x with
 | .str _=>T="str"
 | .int _=>T="int"
 | .ref p=>(T="list"/\∃e,SqL K H p e)\/(T="tuple"/\∃o,K.lookup p=some o/\o.cls= .type "tuple"/\o.dict=none)\/
     (T="dict"/\((∃d,H p=some (.dK d))\/∃d,H p=some (.dT d)))\/(T="set"/\∃S n,H p=some (.set S n))
 |_=>False
def Kt{s:Shared}(I:Inv X pins σ H s)(r:RelV x v)(ty:tyV X.K T x H):
 s.TypeIs v T/\∀a,v= .ref a->∃ob,s.heap.get? a=some ob/\ob.dict=none:=by
 cases x with
 |str z=>
  obtain⟨t,rfl⟩:=r
  cases(show T="str" from ty)
  exact⟨typeIs_str s z t,λ_ e=>nomatch e⟩
 |int i=>
  obtain⟨t,rfl⟩:=r
  cases(show T="int" from ty)
  exact⟨typeIs_int s i t,λ_ e=>nomatch e⟩
 |ref p=>
  cases r
  rcases ty with⟨rfl,xs,hq⟩|⟨rfl,o,hk,hc,hd⟩|⟨rfl,hk⟩|⟨rfl,S,n,hk⟩
  ·obtain⟨j,_,h,_⟩:=I.list hq;refine⟨h.isList.typeIs,λa e=>?_⟩
   cases e
   obtain⟨o,n,e,c,hd,_⟩:=h;exact⟨o,e,hd⟩
  ·refine⟨⟨o,I.kIn p o hk,hc⟩,λa e=>?_⟩
   cases e
   exact⟨o,I.kIn _ o hk,hd⟩
  ·have z:∃o,s.heap.get? p=some o/\o.ExactDict:=by
    rcases hk with⟨kvs,hk⟩|⟨kvs,hk⟩
    ·obtain⟨_,_,_,_,o,_,_,e,ex,_⟩:=I.hok p _ hk;exact⟨o,e,ex⟩
    ·obtain⟨_,_,_,_,o,_,_,e,ex,_⟩:=I.hok p _ hk;exact⟨o,e,ex⟩
   obtain⟨o,e,ex⟩:=z;refine⟨⟨o,e,ex.1⟩,λa d=>?_⟩
   cases d
   exact⟨o,e,ex.2.1⟩
  ·obtain⟨o,_,_,_,e,ex,_⟩:=I.hok p _ hk;refine⟨⟨o,e,ex.1⟩,λa d=>?_⟩
   cases d
   exact⟨o,e,ex.2.1⟩
 |_=>exact False.elim ty
def HM(K:W.Frag)(T:String)(r:V->List V->Hp->VK->Prop)(e:TE):TE:=λσ H Q=>e σ H λx d=>tyV K T x d/\r x [] d Q
def tBM(K:W.Frag)(T:String)(r:V->List V->Hp->VK->Prop)(e:TE)(t:TA):TE:=λσ H Q=>e σ H λx d=>tyV K T x d/\t σ d λh i=>r x h i Q
variable{o:Expr}{t:TA}{name:Str}{apos cpos:Pos}{id:String}{r:V->List V->Hp->VK->Prop}
def Ug(pa:PlainAttrs T)(slot:Slot T name id)(j:typeOf (.builtin id)=pure (.type "method_descriptor"))(q:MtR X id r)(y:PE X o to)
 (d:attributeBase o name X.env (eval o X.env)=eval o X.env:=by rfl) (i:(apos.endLine==cpos.line)=true:=by rfl):PE X (.Call (.Attribute o name apos) [] [] cpos) (HM X.K T r to):=by
 intro pins s σ H Q I h;refine wpAny_Call_method0_late d i (thn (y pins s σ H _ I h) λv z B=>?_);obtain⟨x,G,l,p,ty,J⟩:=B;obtain⟨L,M⟩:=Kt l p ty;exact⟨T,id,pa,slot,j,L,M,Calls.callWith_builtin rfl (PySem.evalArgs_none (q pins z σ G x [] v [] Q l p .nil J))⟩
def Vq(pa:PlainAttrs T)(slot:Slot T name id)(p:typeOf (.builtin id)=pure (.type "method_descriptor"))(B:MtR X id r)(G:PE X o to)(J:PA X (e::es) t)
 (i:attributeBase o name X.env (eval o X.env)=eval o X.env:=by rfl)
 (l:((backTo cpos (starEach (e::es) X.env)).all (λx=> !x.1)&&(backToKw cpos (keywordEach [] X.env)).all (λx=>x.1.isSome)
   &&decide ((e::es).length+([]:List Keyword).length+(if([]:List Keyword).isEmpty then 0 else 1)<30))=true:=by rfl)
 (j:(apos.endLine==cpos.line)=true:=by rfl) (L:starEach (e::es) X.env=(false,eval e X.env)::starEach es X.env:=by rfl) (d:(backTo cpos (starEach es X.env)).any (·.1)=false:=by rfl):
 PE X (.Call (.Attribute o name apos) (e::es) [] cpos) (tBM X.K T r to t):=by
 intro pins s σ H Q I h;refine wpAny_Call_method_late i l j rfl (thn (G pins s σ H _ I h) λv M P=>?_);obtain⟨x,R,q,y,ty,S⟩:=P;obtain⟨U,Y⟩:=Kt q y ty;refine⟨T,id,pa,slot,p,U,Y,?_⟩;have z:=J cpos pins M σ R _ q S;rw[L]at z⊢;refine Calls.callWith_builtin (by show(false||(backTo cpos (starEach es X.env)).any (·.1))=false;rw[d]<;>rfl) (Calls.evalArgs_plain ?_);exact thn z λZ s2 ⟨vs,H2,I2,r2,q2⟩=>B pins s2 σ H2 x vs v Z Q I2 y r2 q2
end
def MtM(X:Cx)(id:String)(r:V->List V->Hp->VK->Prop):Prop:=
 ∀ (pins:List (Addr×Obj)) (s:Shared) (σ:W3) (H:Hp) (x:V) (a:List V) (v:Value) (b:List Value) (Q:VK),Inv X pins σ H s->RelV x v->Vals a b->r x a H Q->
   wpAny (model X.prog X.w) X.A (call (.builtin id) (v::b)) (EP X pins σ Q) X.xe s
theorem Vals.one:∀ {x:V} {us:List Value},Vals [x] us->∃u,us=[u]/\RelV x u
 |_,_, .cons r .nil=>⟨_,rfl,r⟩
theorem Vals.zero:∀ {a:List Value},Vals [] a->a=[]
 |_, .nil=>rfl
theorem Vals.dropLast(h:Vals xs us):Vals xs.dropLast us.dropLast:=by
 induction h with
 |nil=>exact .nil
 |cons r t a=>
  cases t with
  |nil=>exact .nil
  |cons q b=>exact .cons r a
theorem Vals.rep(h:Vals xs us):∀k:Nat,Vals (List.replicate k xs).flatten (List.replicate k us).flatten
 |0=> .nil
 |k+1=>by
  rw[List.replicate_succ,List.replicate_succ,List.flatten_cons,List.flatten_cons];exact Vals.append h (Vals.rep h k)
def Og(l:List α):l.eraseIdx (l.length-1)=l.dropLast:=by
 induction l with
 |nil=>rfl
 |cons a r d=>
  cases r with
  |nil=>rfl
  |cons b r=>
   have e:(a::b::r).length-1=((b::r).length-1)+1:=by
    have h:(a::b::r).length=r.length+2:=rfl;have i:(b::r).length=r.length+1:=rfl;lia
   rw[e,List.eraseIdx_cons_succ,d]
   all_goals rfl
theorem Ip(its:List Value):∀ (k:Nat) (a:List Value),
 List.foldl (λb d=>b++d) a.toArray (List.replicate k its.toArray)=(a++(List.replicate k its).flatten).toArray
 |0,a=>by simp
 |k+1,a=>by
  have e:a.toArray++its.toArray=(a++its).toArray:=by simp
  have h:(a++its)++(List.replicate k its).flatten=a++(List.replicate (k+1) its).flatten:=by
   rw[List.replicate_succ,List.flatten_cons,List.append_assoc]
  rw[<-h,<-Ip its k (a++its),<-e,List.replicate_succ,List.foldl_cons]
section
variable{s:Shared}{l:Addr}{zs:List V}
def Inv.lset(I:Inv X pins σ H s)(a:H l=some (.lst xs))
 (e:s.heap.get? l=some {cls:= .type "list",data:= .seq its.toArray n}) (hf:f its.toArray=its'.toArray) (d:Vals ys its') (h:ys.length<=sizeLine):
 Inv X pins σ (upd H l (.lst ys)) {s with heap:=s.heap.update l (Obj.mapSeq f),toks:=t'}:=by
 have q:=PySem.IsL.update e f;rw[hf]at q;refine I.write (x:=l) (e:=l) (by rw[a];exact trivial) (.inl rfl) (λo u i j=>(Heap.get?_update_other s.heap (Obj.mapSeq f) (Ne.symm i)).trans j) ⟨_,q⟩ ?_;exact⟨h,its',_,d,q⟩
def Inv.lnew(I:Inv X pins σ H s)(a:Vals ys its)(d:ys.length<=sizeLine):
 Inv X pins σ (upd H s.heap.objs.size (.lst ys)) {s with heap:=s.heap.push {cls:= .type "list",data:= .seq its.toArray},toks:=t'}:=
 I.laid (λ_ _ q=>Heap.get?_push_of_some _ q) (Nat.le_refl _) ⟨d,its,0,a,Heap.get?_push_size _ rfl⟩
theorem Inv.fresh(I:Inv X pins σ H s):H s.heap.objs.size=none:=I.hok.fresh (Nat.le_refl _)
def Inv.lstM(I:Inv X pins σ H s)(d:H l=some (.lst xs)):xs.length<=sizeLine/\∃ (a:List Value) (n:Nat),Vals xs a/\xs.length=a.length/\s.heap.get? l=some {cls:= .type "list",data:= .seq a.toArray n}:=by
 obtain⟨z,a,n,r,e⟩:=I.hok l _ d;exact⟨z,a,n,r,r.length,e⟩
def Qz(h:n<=sizeLine):Builtin.List.listTooLong n=false:=by
 unfold Builtin.List.listTooLong;exact decide_eq_false (by lia)
end
def rAppend:V->List V->Hp->VK->Prop:=λx vs H Q=>∃l a y,x= .ref l/\vs=[y]/\H l=some (.lst a)/\a.length<sizeLine/\Q .non (upd H l (.lst (a++[y])))
def CD:MtM X "list.append" rAppend:=by
 intro pins s σ H x vs v o Q I d i h;obtain⟨l,p,y,rfl,rfl,b,B,q⟩:=h
 cases d
 obtain⟨u,rfl,j⟩:=i.one;obtain⟨z,a,n,r,G,e⟩:=I.lstM b;refine call_meets F.slot_list_append ⟨_,e,rfl⟩ F.entry_list_append (F.args_list_append_2 _ _) (PySem.list_append l a.toArray n u (by rw[List.size_toArray];lia)) ⟨e,?_⟩;refine⟨.non,_,I.lset (its':=a++[u]) b e (by simp) (r.append (.cons j .nil)) ?_,rfl,q⟩;rw[List.length_append,List.length_singleton];lia
def rPop:V->List V->Hp->VK->Prop:=λx vs H Q=>∃l a y,x= .ref l/\vs=[]/\H l=some (.lst a)/\a[a.length-1]? =some y/\Q y (upd H l (.lst a.dropLast))
def Gq:MtM X "list.pop" rPop:=by
 intro pins s σ H x vs v L Q I j o h;obtain⟨l,M,y,rfl,rfl,i,p,q⟩:=h
 cases j
 have b:=o.zero;subst b;obtain⟨z,a,n,r,B,e⟩:=I.lstM i;obtain⟨u,G,J⟩:=r.get p;have d:a.toArray[a.toArray.size-1]? =some u:=by
  show a.toArray[a.length-1]? =some u;rw[<-Array.getElem?_toList,<-B];exact G
 refine call_meets F.slot_list_pop ⟨_,e,rfl⟩ F.entry_list_pop (F.args_list_pop_1 _) (MeetsSeq.list_pop_last l a.toArray n u d (by rw[List.size_toArray];lia)) ⟨e,?_⟩;refine⟨y,_,I.lset (its':=a.dropLast) i e ?_ r.dropLast ?_,J,q⟩
 ·show a.toArray.eraseIdxIfInBounds (a.toArray.size-1)=a.dropLast.toArray;rw[List.size_toArray,List.eraseIdxIfInBounds_toArray,Og]
 ·rw[List.length_dropLast];lia
def rCat:R2:=λx y H Q=>∃l b a d,x= .ref l/\y= .ref b/\H l=some (.lst a)/\H b=some (.lst d)/\a.length+d.length<=sizeLine/\∀p,H p=none->Q (.ref p) (upd H p (.lst (a++d)))
def Uo:OpR X (binaryOp .Add) rCat:=by
 intro pins s σ H x y v u Q I i j h;obtain⟨l,b,M,R,rfl,rfl,o,p,S,q⟩:=h
 cases i
 cases j
 obtain⟨z,d,n,r,T,e⟩:=I.lstM o;obtain⟨z2,a,U,B,G,J⟩:=I.lstM p;refine PySem.P.add_list e J ?_ (by rw[List.size_toArray,List.size_toArray];lia);have L:d.toArray++a.toArray=(d++a).toArray:=by simp
 rw[L];exact⟨.ref _,_,I.lnew (t':=s.toks) (r.append B) (by rw[List.length_append];lia),rfl,q _ I.fresh⟩
def rRep:R2:=λx y H Q=>∃l k a,x= .ref l/\y= .int k/\H l=some (.lst a)/\ -(2^63)<=k/\k<2^63/\a.length*k.toNat<=sizeLine/\
 ∀p,H p=none->Q (.ref p) (upd H p (.lst (List.replicate k.toNat a).flatten))
def Sh(xs:List α)(k:Nat):(List.replicate k xs).flatten.length=k*xs.length:=by
 induction k with
 |zero=>simp
 |succ k a=>rw[List.replicate_succ,List.flatten_cons,List.length_append,a,Nat.succ_mul,Nat.add_comm]
def op_rep:OpR X (binaryOp .Mult) rRep:=by
 intro pins s σ H x y v u Q I L M h;obtain⟨l,k,xs,rfl,rfl,P,R,S,J,q⟩:=h
 cases L
 obtain⟨t,rfl⟩:=M;obtain⟨z,b,n,r,Y,e⟩:=I.lstM P;have i:b.toArray.size*k.toNat<=sizeLine:=by rw[List.size_toArray,<-Y];exact J
 have j:¬b.toArray.size*k.toNat>(2^63-1)/8:=by
  have:(sizeLine:Nat)<=(2^63-1)/8:=by decide
  lia
 have o:¬ (!Builtin.List.listFitsIndex k)=true:=by
  rw[fitsIndex_both R S];exact Bool.false_ne_true
 have d:¬Builtin.List.listTooLong (b.toArray.size*k.toNat)=true:=by
  rw[Qz i];exact Bool.false_ne_true
 have p:List.foldl (λB G=>B++G) #[] (List.replicate (if b.toArray.isEmpty=true then 0 else k.toNat) b.toArray)=(List.replicate k.toNat b).flatten.toArray:=by
  have Z:∀m:Nat,List.foldl (λB G=>B++G) #[] (List.replicate m b.toArray)=(List.replicate m b).flatten.toArray:=λm=>by
   have:=Ip b m [];rw[List.nil_append]at this;exact this
  rw[Z]
  cases b with
  |nil=>simp
  |cons a r'=>rw[if_neg (by simp)]
 refine wpAny_binaryOp_repeat_ref (T:="list") (U:="int") (by decide) ⟨_,e,rfl⟩ (λs'=>typeIs_int s' k t) noFill_list_mul F.fills_int_mul F.slot_int_rmul repeat_list F.slot_int_index.lookup
  (call_meets F.slot_int_rmul (typeIs_int s k t) F.entry_int_rmul (F.args_int_rmul_2 _ _) (int___rmul___int_list k t l b.toArray n)
    ⟨e,rfl,⟨_,e,rfl⟩,call_meets F.slot_list_mul ⟨_,e,rfl⟩ F.entry_list_mul (F.args_list_mul_2 _ _) (AutoListH.list___mul___list_int_3 l b.toArray n k t o j d) ⟨e,?_⟩⟩)
 rw[p];exact⟨.ref _,_,I.lnew (t':=s.toks) (r.rep k.toNat) (by rw[Sh,Nat.mul_comm];exact J),rfl,q _ I.fresh⟩
end L2
namespace Att
open PySem.W PySem.Calls
variable{loose:List Str}{vals:List Value}{args:List WData}{l:OpenLaw}{P:Params}{q:Program}{YP:World->Heap->Prop}
def Mx:∀ (ns:List Int) (vs:List Value),WellAll P h vs (ns.map WData.int)->IntsAre vs ns:=by
 intro ns
 induction ns with
 |nil=>
  intro vs w;rw[List.map_nil]at w
  cases w
  exact .nil
 |cons n ns d=>
  intro vs w;rw[List.map_cons]at w
  cases w with
  |cons a b=>
   cases a
   exact .cons _ _ (d _ b)
def O1(y:l.most=some n)
 (b:l.row.toRowW.claim.pre args=true) (p:WellAll P h vals args):
 ∃a vs ns,vals=[Value.ref a]/\args=[WData.list (ns.map WData.int)]/\h.get? a=some {cls:= .type "list",data:= .seq vs.toArray}/\IntsAre vs ns/\ns.length<=n:=by
 have v:WShape.hasAll [] args [.list .int]=true:=(pre_splitW b).1;have x:l.pre.holds [] {args:=args}=true:=(pre_splitW b).2;obtain⟨d,r,rfl,z,B⟩:=hasAllW_cons v;obtain rfl:=hasAllW_nil B;obtain⟨M,rfl,G⟩:=hasW_list z;obtain⟨ns,rfl⟩:=items_int G;have e:ns.length<=n:=by
  unfold OpenLaw.pre at x;have j:(WTm.not (.lt (.lit (.int (n:Int))) (.len (.arg 0)))).holds [] {args:=[.list (ns.map .int)]}=true:=by
   have j:=(holds_andW x).1;rw[y]at j;exact j
  have o:=condW_of j (w_not (w_lt w_lit (w_len_list (w_arg rfl))));rw[List.length_map]at o;refine Nat.le_of_not_lt λq=>?_;have H:(n:Int)<((ns.length:Nat):Int):=by lia
  first
   |(rw[decide_eq_true H]at o;exact absurd o (by decide))
   |(simp at o;lia)
 cases p with
 |cons I J=>
  cases J
  cases I with
  |list L i=>exact⟨_,_,ns,rfl,rfl,L,Mx ns _ i,e⟩
def O9(l:OpenLaw)(args:List WData):l.row.toRowW.claim.post args (.bool true) args=true:=
 postW_of (r:=l.row.toRowW) (X:=(true==true))
  (show WShape.has [] (.bool true) .bool=true by first|rfl|decide|simp[WShape.has,WShape.arms,WShape.armsAll])
  (show(WTm.eq .res (.lit (.bool true))).value [] {args:=args,res:=some (.bool true),after:=args}=some (.bool (true==true))from w_eq_bool (w_res rfl) w_lit) rfl
def attach_call{d:DefRec}
 (P:l.most=some n) (y:d.params.defaults=[])
 (call:∀ (w:World) (s₀ b:Shared) (mg z:Str->Option Value) (fa:Addr) (o:Obj) (B v e:Value) (a:Addr) (vs:List Value) (ns:List Int),
   Ground q loose [] XP w s₀ mg z b.heap->YP w b.heap->
   b.heap.get? fa=some o->o.data= .func (docDef d.name d.params d.body d.scope B v e)->b.heap.CodeRec v d.name->mg d.name=some (.ref fa)->
   b.heap.get? a=some {cls:= .type "list",data:= .seq vs.toArray}->IntsAre vs ns->ns.length<=n->b.gens= #[]->
   codeAny (model l.prog w) callerA (.call (.ref fa) ⟨[.ref a],[]⟩) (λr x=>r= .ok (.ret (.bool true))/\OldK b.heap x.heap/\x.os=b.os/\AllBare x.gens) b):
 WalkO q loose XP YP l.row.toRowW d [] (λf vs=>PySem.call f vs):=by
 intro w s₀ b mg z G Y fa o B v e Q kV R hd H L I hg args vals as i M S J T;obtain rfl:Q= .none:=Dflts.none L y;obtain rfl:kV= .none:=Dflts.noKw L;obtain⟨a,vs,ns,rfl,rfl,j,h,p⟩:=O1 P i J;refine enter_call (codeAny_mono (call w s₀ b mg z fa o B v e a vs ns G Y R (fd_plain hd) H I j h p hg) λr x U=>?_);obtain⟨rfl,X,Z,h4⟩:=U;exact⟨.inl ⟨.bool true, .bool true,[],rfl,λ_=>rfl, .bool true,O9 l _,λ_=>⟨List.Pairwise.nil,λ_ hm=>(nomatch hm)⟩⟩,X,Z,h4⟩
end Att
open Att
namespace L2
variable{a f:Addr}{osl:Array (Option Value)}{loose:List Str}{vs:List Value}{K:Params->W.Frag}{q:Program}{A B:Prop}{l:W.OpenLaw}{CX:World->CXT}{YP:World->Heap->Prop}{sp:World->Sp}
theorem Fj:∀ {vs:List Value} {ns:List Int},IntsAre vs ns->Vals (ns.map V.int) vs
 |_,_, .nil=> .nil
 |_,_, .cons n t h=> .cons ⟨t,rfl⟩ (Fj h)
def HX(H:Hp):Prop:=∀b,H b=none\/∃o a,H b=some (.frz o (.lst a))
def Q2{K:W.Frag}{mb:Str->Option Value}{CX:CXT}{k:Nat}{fa:Addr}{sp:Sp}{s₁:Shared}
 (KX:K.In s₁.heap) (p:s₁.heap.Ns mainGlobals mg) (j:s₁.heap.Ns builtinsNs mb) (R:∀x:Str,x≠"__name__"->mb x=bootBuiltins x) (I:s₁.heap.NoLimit) (hg:s₁.gens= #[])
 (Q:s₁.heap.get? a=some {cls:= .type "list",data:= .seq vs.toArray}) (Y:IntsAre vs ns) (Z:ns.length<=sizeLine) (hr:Room k callerA)
 (F:∀base:Heap,K.In base->base.Ns mainGlobals mg->FnOk P w K mg base CX k fa fd [x] sp) (G:∀ (s:Shared) (u:Value),BindsTo s fd ⟨[u],[]⟩ [(x,u)])
 (S:∀H:Hp,HX H->SqL K H a (ns.map V.int)->sp [.ref a] H (λv _=>v= .bl true) λ_ _ _=>False)
 (T:∀H e l,CX [] H s₁ (λ_ _ _=>False) e l->False):
 codeAny (model P w) callerA (.call (.ref fa) ⟨[.ref a],[]⟩) (λr l=>r= .ok (.ret (.bool true))/\OldK s₁.heap l.heap/\l.os=s₁.os/\AllBare l.gens) s₁:=by
 have rv:=Fj Y;have J:=Y.length;have core:∀H:Hp,HX H->SqL K H a (ns.map V.int)->HOk P w H s₁.heap->(∀b,H b≠none->b=a)->(H a≠none->K.lookup a=none)->
  codeAny (model P w) callerA (.call (.ref fa) ⟨[.ref a],[]⟩) (λr l=>r= .ok (.ret (.bool true))/\OldK s₁.heap l.heap/\l.os=s₁.os/\AllBare l.gens) s₁:=by
  intro H hO hS hok hA hK;have i:∀ {b:Addr} {o:Obj},s₁.heap.get? b=some o->H b=none->(Cd s₁.heap H).get? b=some o:=λe n=>Q9 e n;have U:∀ {b:Addr} {o:Obj} {es:Array DictEntry} {ep:Nat},s₁.heap.get? b=some o->o.data= .dict es ep->H b=none:=fun{b o es ep} e d=>by
   cases q:H b with
   |none=>rfl
   |some u=>
    have X:b=a:=hA b (by rw[q];simp);subst X;rw[Q]at e;cases e;have d':Data.seq vs.toArray _=Data.dict es ep:=d
    cases d'
  have y:∀ {b:Addr} {m:Str->Option Value},s₁.heap.Ns b m->(Cd s₁.heap H).Ns b m:=fun{b m} ⟨o,es,ep,e,d,r⟩=>⟨o,es,ep,i e (U e d),d,r⟩;have L:K.In (Cd s₁.heap H):=λb o e=>i (KX b o e) (by
   cases q:H b with
   |none=>rfl
   |some u=>
    have X:b=a:=hA b (by rw[q];simp);subst X;rw[hK (by rw[q];simp)]at e;cases e)
  have hM:Mod K mg (Cd s₁.heap H):=⟨L,y p,⟨mb,y j,R⟩,let⟨mc,h1,h2⟩:=I;⟨mc,y h1,h2⟩⟩;have e0:Env0 P w K mg (Cd s₁.heap H) callerA [] s₁ H:=⟨rfl,hM,λb o e=>Se e,Nat.le_of_eq (Pt _ _),trivial,λb j=>absurd (show b∈([]:List Addr)from j) (by simp),hok, .of_eq hg⟩;refine codeAny_mono ((F _ L (y p)).run callerA [] s₁ H ⟨[.ref a],[]⟩ [.ref a] [.ref a] _ _ hr e0 (G s₁ (.ref a)) (.cons rfl .nil) (S H hO hS)) λr l h=>?_
  cases r with
  |error e=>exact(T H e l h).elim
  |ok fl=>
   cases fl with
   |next=>exact False.elim h
   |brk=>exact False.elim h
   |cont=>exact False.elim h
   |ret u=>
    obtain⟨v,H',os,bare,un,M,r',q⟩:=h;have q':v= .bl true:=q;subst q';obtain rfl:u=Value.bool true:=r';refine⟨rfl,OldK.of_keep λb o e=>?_,os,bare⟩
    cases q:H b with
    |none=>exact un.keep b o e q (by intro z;exact absurd (show b∈([]:List Addr)from z) (by simp)) (by simp)
    |some u=>
     rcases hO b with z|⟨ob,xs,z⟩
     ·rw[q]at z;cases z
     ·have z2:=un.frzs b ob _ z;obtain⟨e1,_⟩:=hok b _ z;obtain⟨e2,_⟩:=M b _ z2;rw[e]at e1;cases e1;exact e2
 cases hk:K.lookup a with
 |some o=>
  have e:=KX a o hk;rw[Q]at e
  cases e
  refine core (λ_=>none) (λ_=> .inl rfl) (.inr ⟨_,vs.toArray,_,hk,rfl,rfl,rfl,by rw[List.size_toArray,J];exact Z,by simpa using rv⟩) ⟨(λb u z=>by have B:(none:Option HO)=some u:=z;cases B),(λu z=>nomatch (show(none:Option HO)=some u from z)),let⟨o,_,_,e,_⟩:=p;⟨mainGlobals,o,by decide,e⟩⟩ (λb z=>absurd rfl z) λz=>absurd rfl z
 |none=>
  refine core (λb=>if b=a then some (.frz {cls:= .type "list",data:= .seq vs.toArray} (.lst (ns.map V.int)))else none) (λb=>?_) (.inl (.inr ⟨{cls:= .type "list",data:= .seq vs.toArray},if_pos rfl⟩)) ⟨λb u z=>?_,(λu z=>by
   by_cases j:sysModules=a
   ·have B:=(if_pos j).symm.trans z
    cases B;exact⟨_,_,rfl⟩
   ·have B:=(if_neg j).symm.trans z
    cases B),let⟨o,_,_,e,_⟩:=p;⟨mainGlobals,o,by decide,e⟩⟩ (λb z=>?_) λ_=>hk
  ·by_cases j:b=a
   ·exact .inr ⟨_,_,if_pos j⟩
   ·exact .inl (if_neg j)
  ·by_cases j:b=a
   ·have B:=(if_pos j).symm.trans z
    cases B
    subst j;exact⟨Q,by rw[List.length_map];exact Z,vs,_,rv,Q⟩
   ·have B:=(if_neg j).symm.trans z
    cases B
  ·by_cases j:b=a
   ·exact j
   ·exact absurd (if_neg j) z
def walk_of{k:Nat}{d:DefRec}
 (M:l.most=some n) (y:n<=sizeLine) (z:d.params.defaults=[]) (P:Room k callerA)
 (Q:∀ (w:World) (h:Heap),YP w h->(K w.params).In h)
 (F:∀ (w:World) (mg:Str->Option Value) (fa:Addr) (h:Heap),(K w.params).In h->h.Ns mainGlobals mg->mg d.name=some (.ref fa)->
   ∃fd:FuncData,(∀ (s:Shared) (u:Value),BindsTo s fd ⟨[u],[]⟩ [(x,u)])/\
    ∀base:Heap,(K w.params).In base->base.Ns mainGlobals mg->FnOk l.prog w (K w.params) mg base (CX w) k fa fd [x] (sp w))
 (B:∀ (w:World) (H:Hp) (a:Addr) (ns:List Int),ns.length<=n->HX H->SqL (K w.params) H a (ns.map V.int)->sp w [.ref a] H (λv _=>v= .bl true) λ_ _ _=>False)
 (I:∀ (w:World) (H:Hp) (s:Shared) (e:Value) (J:Shared),CX w [] H s (λ_ _ _=>False) e J->False):
 W.WalkO q loose XP YP l.row.toRowW d [] (λf vs=>PySem.call f vs):=by
 refine Att.attach_call M z λw s₀ p mg mb fa o pm cd R a vs ns G Y ho hd S L r j i hg=>?_;have KX:=Q w _ Y;obtain⟨fd,U,X⟩:=F w mg fa _ KX G.T.g L;exact Q2 KX G.T.g G.T.b G.T.builtins G.T.nolimit hg r j (Nat.le_trans i y) P X U (λH Z hS=>B w H a ns i Z hS) λH e J=>I w H p e J
def inClass(s:Stmt)(j:Nat):Stmt:=match s with
 | .ClassDef _ _ _ body _ _ _ _ _ _ _=>body.getD j (.Pass ⟨0,0,0,0⟩)
 |_=> .Pass ⟨0,0,0,0⟩
def Ck(s:Stmt):Arguments:=match s with
 | .FunctionDef _ a _ _ _ _ _ _ _ _=>a
 |_=>{posonlyargs:=[],args:=[],vararg:=none,kwonlyargs:=[],kw_defaults:=[],kwarg:=none,defaults:=[]}
def Bx(s:Stmt):List Stmt:=match s with
 | .FunctionDef _ _ b _ _ _ _ _ _ _=>b
 |_=>[]
def AW(s:Stmt):Scope:=match s with
 | .FunctionDef _ _ _ _ _ _ a _ _ _=>a
 |_=>{kind:= .function,names:=[],isGenerator:=false,isCoroutine:=false}
abbrev CX0:CXT:=λ_ _ _ _ _ _=>False
abbrev E0:XK:=λ_ _ _=>False
def DY:CV CX0 X E0:=λ_ _ _ _ _ _ _ h=>h.elim
structure Fun (K:W.Frag) (x qual:Str) (st:Stmt) (f:Addr) (fd:FuncData):Prop where
 ex:∃ (oc:Value) (od:Option Addr) (kV doc pm:Value) (an:Option Addr) (cdv ct:Value) (osl:Array (Option Value)),
  fd=W.fnOf x qual (Ck st) (Bx st) (AW st) .none kV doc pm an cdv ct/\K.lookup f=some ⟨oc,od, .func fd,osl⟩/\W.codeIn K cdv qual=true
 kp:W.keepIn K (.ref f)=true
section
variable{K:W.Frag}
def Fun.ok{st:Stmt}{N ps:List Str}{k:Nat}{sp:Sp}(F:Fun K x qual st f fd)(S:FnScope N ps (AW st))(len:∀vs H Q E,sp vs H Q E->vs.length=ps.length)
 (b:∀ (a:Value) (A:Around) (outer:List Env) (s:Shared) (H:Hp) (vs:List V) (Q:VK) (E:XK),Room k (A.deeper (envOfC qual (AW st) s.heap.objs.size f a))->sp vs H Q E->
   ∃t,PSs (Cw CX0 P w K mg base N qual (AW st) f a A outer s H E).nox (Bx st) t/\t {nx:=λ_ i=>Q .non i,rt:=Q} (start N vs) H):FnOk P w K mg base CX0 (k+1) f fd ps sp:=by
 obtain⟨r,v,kV,j,y,z,a,ct,l,rfl,o,d⟩:=F.ex;refine Ly o d S len λA outer s H vs Q E p e=>?_;obtain⟨t,h,q⟩:=b a A outer s H vs Q E p e;exact⟨t,h.nox,q⟩
def Fun.binds{st:Stmt}{ps:List Str}(F:Fun K x qual st f fd)
 (h:∀ (kV a d:Value) (e:Option Addr) (b ct:Value) (i:List Value),i.length=ps.length->bindArgs (W.fnOf x qual (Ck st) (Bx st) (AW st) .none kV a d e b ct) ⟨i,[]⟩=pure (ps.zip i)):Binds K fd ps []:=by
 obtain⟨o,p,kV,a,d,e,b,ct,j,rfl,q,l⟩:=F.ex;exact .all (h kV a d e b ct)
def LJ{st:Stmt}{oc:Value}{od an:Option Addr}{kV doc pm cdv ct:Value}(l:K.lookup f=some ⟨oc,od, .func (W.fnOf x qual (Ck st) (Bx st) (AW st) .none kV doc pm an cdv ct),osl⟩)
 (c:W.codeIn K cdv qual=true) (k:W.keepIn K (.ref f)=true):Fun K x qual st f (W.fnOf x qual (Ck st) (Bx st) (AW st) .none kV doc pm an cdv ct):=⟨⟨oc,od,kV,doc,pm,an,cdv,ct,osl,rfl,l,c⟩,k⟩
end
def DQ(h:n<=1000):n<sizeLine:=Nat.lt_of_le_of_lt h (by decide)
def pv(i:Nat)(b:X.N[i]? =some x:=by rfl)(d:Vis X.env.scope x:=by first|exact Or.inl rfl|exact Or.inr (Or.inl rfl)|exact Or.inr (Or.inr rfl))(hd:(x==("__debug__":Str))=false:=by decide)
 (a:(x==("__classdict__":Str))=false:=by decide):PE X (.Name x pos) (BJ i):=K7 b d hd a
def EO(h:B):if false=true then A else B:=by
 rw[if_neg Bool.false_ne_true];exact h
def DN(h:A):if true=true then A else B:=by
 rw[if_pos rfl];exact h
def Same(H a:Hp):Prop:=∀b o,H b=some o->a b=some o
def Same.refl(H:Hp):Same H H:=λ_ _ h=>h
def Same.trans{H2:Hp}(a:Same H H1)(b:Same H1 H2):Same H H2:=λc o h=>b c o (a c o h)
def Same.free(e:Same H H'){l:Addr}(h:H' l=Option.none):H l=Option.none:=by
 cases q:H l with
 |none=>rfl
 |some o=>
  rw[e l o q]at h
  cases h
def Same.seq{K:W.Frag}(e:Same H H')(h:SqL K H a xs):SqL K H' a xs:=by
 rcases h with(h|⟨o,h⟩)|h
 ·exact .inl (.inl (e _ _ h))
 ·exact .inl (.inr ⟨o,e _ _ h⟩)
 ·exact .inr h
end L2
set_option maxHeartbeats 8000000
namespace L2
variable{D a e it:Addr}{its:Array Value}{c:Bool}{R:Bool->Hp->Prop}{Y:Cx}{l o:Expr}{tn:Heap->Prop}{i j:Int}{f:Int->Int->Int}{C:Int->Int->Prop}{g:Int->Int->V}{b:List Nat}{ys:List V}{Pv:Nat->List V->Hp->Prop}{hi lo:Option Int}{apos cpos p:Pos}{A B:Prop}{name:Str}{t ta:TA}{tb tl:TE}{wi:TI}{v x:V}{r:V->Option Int->Option Int->Hp->VK->Prop}{Q:VK}{Qx:Value->Hp->V->Prop}{μ:W3->Hp->Nat}
theorem GY:∀ (ns:List (Str×NameKind)) (a:List (Str×Addr)),(∀y∈ns,y.2= .free->∃c,env.cells.lookup y.1=some c)->(∀x c,a.lookup x=some c->env.cells.lookup x=some c)->
 ∃cl,(forIn ns a fun(y:Str×NameKind) cs=>(if(y.2== .free)=true then(do let c<-cellOf env y.1;pure (ForInStep.yield ((y.1,c)::cs)))else pure (ForInStep.yield cs):Sem (ForInStep (List (Str×Addr)))))=pure cl/\
  (∀x c,cl.lookup x=some c->env.cells.lookup x=some c)/\(∀y∈ns,y.2= .free->∃c,cl.lookup y.1=some c)/\∀x c,a.lookup x=some c->∃c',cl.lookup x=some c'
 |[],a,_,l=>⟨a,rfl,l,(λ_ h=>nomatch h),λx c e=>⟨c,e⟩⟩
 |(n,k)::r,a,o,l=>by
  rw[List.forIn_cons]
  by_cases hk:k= .free
  ·subst hk;obtain⟨c,B⟩:=o (n, .free) List.mem_cons_self rfl;have d:cellOf env n=pure c:=by unfold cellOf;rw[B]
   have p:∀x c',List.lookup x ((n,c)::a)=some c'->env.cells.lookup x=some c':=λx c' e=>by
    rw[List.lookup_cons]at e
    cases i:x==n with
    |true=>rw[i]at e;simp at e;subst e;rw[eq_of_beq i];exact B
    |false=>rw[i]at e;exact l x c' e
   obtain⟨cl,q,v,z,j⟩:=GY r ((n,c)::a) (λy hy=>o y (List.mem_cons_of_mem _ hy)) p;refine⟨cl,?_,v,λy hy b=>?_,λx c' e=>?_⟩
   ·simp only[beq_self_eq_true,if_true,d,pure_bind];exact q
   ·rcases List.mem_cons.mp hy with rfl|hy
    ·exact j n c (by simp[List.lookup_cons])
    ·exact z y hy b
   ·cases i:x==n with
    |true=>rw[eq_of_beq i];exact j n c (by simp[List.lookup_cons])
    |false=>exact j x c' (by rw[List.lookup_cons,i];exact e)
  ·have G:(k==NameKind.free)=false:=by simpa using hk
   obtain⟨cl,q,v,z,j⟩:=GY r a (λy hy=>o y (List.mem_cons_of_mem _ hy)) l;refine⟨cl,?_,v,λy hy b=>?_,j⟩
   ·simp only[G,Bool.false_eq_true,if_false,pure_bind];exact q
   ·rcases List.mem_cons.mp hy with rfl|hy
    ·exact absurd b hk
    ·exact z y hy b
def Kq(h:∀y∈scope.names,y.2= .free->∃c,env.cells.lookup y.1=some c):
 ∃cl,closureFor scope env=pure cl/\(∀x c,cl.lookup x=some c->env.cells.lookup x=some c)/\∀y∈scope.names,y.2= .free->∃c,cl.lookup y.1=some c:=by
 obtain⟨cl,a,b,d,_⟩:=GY (env:=env) scope.names [] h (λx c e=>nomatch e);refine⟨cl,?_,b,d⟩;have e:closureFor scope env=(forIn scope.names ([]:List (Str×Addr)) fun(y:Str×NameKind) cs=>(if(y.2== .free)=true then(do let c<-cellOf env y.1;pure (ForInStep.yield ((y.1,c)::cs)))else pure (ForInStep.yield cs):Sem (ForInStep (List (Str×Addr)))))>>=pure:=by
  rfl
 rw[e,a,pure_bind]
def Bd(X:Cx)(own:List Str)(sel:List Nat)(scope:Scope)(cl:List (Str×Addr))(C:Addr)(a:Shared)(b:Hp)(d:List Addr):Cx where
 prog:=X.prog
 w:=X.w
 K:=X.K
 mg:=X.mg
 base:=X.base
 A:=X.A
 N:=own++sel.map λj=>X.N.getD j Str.empty
 s₀:=a
 H₀:=b
 env:=compEnvC scope cl C X.env
 outer:=X.stack
 stack:=X.stack
 ex:=d
 fn:=λ_=>false
 calm:=X.calm
 pn:=[]
 xe:=λ_ _=>False
def AV(own:List Str)(sel:List Nat)(σ:W3):W3:=own.map (λ_=>none)++sel.map λj=>σ.getD j none
structure CompOk (osc:Scope) (N:List Str) (own:List Str) (sel:List Nat) (scope:Scope):Prop where
 kind:scope.kind= .function
 cell:∀y∈scope.names,y.2≠ .cell
 names:∀y∈scope.names,y.2= .local->scope.names.lookup y.1=some .local
 free:∀y∈scope.names,y.2= .free->osc.names.lookup y.1=some .cell\/osc.names.lookup y.1=some .free
 seln:∀j∈sel,j<N.length/\scope.names.lookup (N.getD j Str.empty)=some .free/\(osc.names.lookup (N.getD j Str.empty)=some .cell\/osc.names.lookup (N.getD j Str.empty)=some .free)
def PIf(Y:Cx)(ifs:List Expr)(t:TT):Prop:=
 ∀ (pins:List (Addr×Obj)) (s:Shared) (σ:W3) (H:Hp) (Q:Bool->Hp->Prop),Inv Y pins σ H s->t σ H Q->
   wpAny (model Y.prog Y.w) Y.A (forIn ifs true λc r=>if r=true then do let ok<-isTrue c Y.env (eval c Y.env);pure (ForInStep.yield ok)else pure (ForInStep.yield r)) (TP Y pins σ Q) Y.xe s
def tYes:TT:=λ_ H Q=>Q true H
def A2:PIf Y [] tYes:=λpins s σ H Q I h=>wpAny_tests_nil ⟨H,I,h⟩
def D3{c:Expr}{t:TT}(h:PT Y c t):PIf Y [c] t:=λpins s σ H Q I a=>wpAny_tests_one (h pins s σ H Q I a)
def GK(n:Nat)(g:TG):Prop:=∀v σ H Q,g v σ H Q->g v σ H λσ' a=>Q σ' a/\σ'.length=σ.length/\∀i,n<=i->σ'[i]? =σ[i]?
def GKs(n:Nat)(g:TGs):Prop:=∀vs σ H Q,g vs σ H Q->g vs σ H λσ' a=>Q σ' a/\σ'.length=σ.length/\∀i,n<=i->σ'[i]? =σ[i]?
def Aq{i:Nat}(h:i<n):GK n (Aw i):=λv σ H Q q=>⟨q,by simp,λj a=>by rw[List.getElem?_set_ne (by lia)]⟩
def FA:GKs n gNil:=λvs σ H Q q=>⟨q.1,q.2,rfl,λ_ _=>rfl⟩
def GM(g:TG):Prop:=∀v σ H Q a,(∀σ' b,Q σ' b->a σ' b)->g v σ H Q->g v σ H a
def GMs(g:TGs):Prop:=∀vs σ H Q a,(∀σ' b,Q σ' b->a σ' b)->g vs σ H Q->g vs σ H a
def Bw{i:Nat}:GM (Aw i):=λ_ _ _ _ _ h q=>h _ _ q
def Cr:GMs gNil:=λ_ _ _ _ _ h q=>⟨q.1,h _ _ q.2⟩
def Ew{t:TG}{u:TGs}(a:GM t)(b:GMs u):GMs (FJ t u):=λvs σ H Q d h ⟨v,r,e,q⟩=>⟨v,r,e,a _ _ _ _ _ (λσ' i z=>b _ _ _ _ _ h z) q⟩
def Cj{t:TG}{u:TGs}(m1:GM t)(m2:GMs u)(h:GK n t)(j:GKs n u):GKs n (FJ t u):=λvs σ H Q ⟨v,r,e,q⟩=>by
 refine⟨v,r,e,m1 _ _ _ _ _ (λσ' p z=>?_) (h _ _ _ _ q)⟩;obtain⟨o,l,k⟩:=z;exact m2 _ _ _ _ _ (λσ2 x ⟨a,b,c⟩=>⟨a,b.trans l,λi d=>(c i d).trans (k i d)⟩) (j _ _ _ _ o)
def E9{m:Nat}{t:TGs}(h:GKs n t):GK n (EQ K m t):=λv σ H Q ⟨a,b,d,e,i,q⟩=>⟨a,b,d,e,i,h _ _ _ _ q⟩
def FG(own:List Str)(sel:List Nat)(p:TI)(g:TG)(q:TT)(te:TE):TE:=λσ H Q=>p σ H λJ h=>∀D,h D=none->
 ∃W:Nat->Nat->Hp->Prop,(∃m,W 0 m (upd h D (.lst [])))/\∀i m a,W i m a->
  (J.stop i a/\Q (.ref D) a)\/(J.go i a/\∀x j,J.yld i a x j->g x (AV own sel σ) j λσ4 r=>q σ4 r λb l=>
    if b=true then te σ4 l λv o=>∃e,o D=some (.lst e)/\e.length<sizeLine/\∃d,d<m/\W (i+1) d (upd o D (.lst (e++[v])))
    else∃d,d<m/\W (i+1) d l)
section
variable{A:Around}{R:Result->Shared->Prop}{s:Shared}
theorem Oh{elt target:Expr}{it acc:Value}(I:Nat->Shared->Prop)
 (turn:∀n s,I n s->wpAny (model prog w) A (pyNext it) (λr a=>match r with
   |none=>R (.ok .next) a
   |some v=>wpAny (model prog w) A (letOwnedTupleGo target it v) (λ_ d=>wpAny (model prog w) A (assign target env v) (λ_ e=>
     wpAny (model prog w) A (forIn ifs true λc r=>if r=true then do let ok<-isTrue c env (eval c env);pure (ForInStep.yield ok)else pure (ForInStep.yield r)) (λok b=>
      if ok=true then wpAny (model prog w) A (eval elt env) (λx i=>wpAny (model prog w) A (call (.builtin "list.append") [acc,x]) (λ_ j=>∃m,m<n/\I m j) (λ_ _=>False) i) (λ_ _=>False) b
      else∃m,m<n/\I m b) (λ_ _=>False) e) (λ_ _=>False) d) (λ_ _=>False) a) (λ_ _=>False) s)
 (n:Nat) (h:I n s):
 codeAny (model prog w) A (.compLoop (.ListComp elt [⟨target,iter,ifs,0⟩] scope pos) 0 it acc env) R s:=by
 refine codeAny_loop rfl I (λn s p=>?_) n h;show wpAny _ A ((compTurn (.ListComp elt [⟨target,iter,ifs,0⟩] scope pos) 0 it acc env).onRaise (λx=>do noteFrame x env;theTreesLotGoes x)) _ _ s;refine wpAny_noted ?_;rw[compTurn_list];refine wpAny_bind (wpAny_standAt (wpAny_bind (wpAny_mono (turn n s p) (λr a l=>?_) λ_ _ z=>z.elim)))
 cases r with
 |none=>exact wpAny_pure l
 |some v=>
  refine wpAny_bind (wpAny_mono l (λ_ d h0=>wpAny_bind (wpAny_mono h0 (λ_ e q=>wpAny_bind (wpAny_mono q (λok b o=>?_) λ_ _ z=>z.elim)) λ_ _ z=>z.elim)) λ_ _ z=>z.elim)
  cases ok with
  |false=>exact wpAny_pure ⟨rfl,o⟩
  |true=>
   exact wpAny_bind (wpAny_bind (wpAny_mono o (λx i y=>wpAny_bind (wpAny_mono y (λ_ j B=>wpAny_pure (wpAny_pure ⟨rfl,B⟩)) λ_ _ z=>z.elim)) λ_ _ z=>z.elim))
end
theorem Dm{env:Env}:∀ {names:List (Str×NameKind)} {x:Str} {k:NameKind},
 (names.map fun(n,k)=>if(k==NameKind.free&&env.scope.kind== .function&&env.kindOf n==some .cell)then(n,NameKind.cell)else(n,k)).lookup x=some k->
 names.lookup x=some k\/names.lookup x=some .free
 |[],_,_,h=>by simp at h
 |(n,d)::r,x,k,h=>by
  have i:= @Dm env r x k;have a:List.lookup x ((if(d==NameKind.free&&env.scope.kind== .function&&env.kindOf n==some .cell)=true then(n,NameKind.cell)else(n,d))::r.map fun(n,k)=>if(k==NameKind.free&&env.scope.kind== .function&&env.kindOf n==some .cell)then(n,NameKind.cell)else(n,k))=some k:=h
  cases e:x==n with
  |true=>
   rw[List.lookup_cons,e]
   by_cases b:(d==NameKind.free&&env.scope.kind== .function&&env.kindOf n==some .cell)=true
   ·have:d= .free:=by simp only[Bool.and_eq_true,beq_iff_eq]at b;exact b.1.1
    subst this;exact .inr rfl
   ·rw[if_neg b,List.lookup_cons,e]at a;exact .inl a
  |false=>
   rw[List.lookup_cons,e]
   by_cases b:(d==NameKind.free&&env.scope.kind== .function&&env.kindOf n==some .cell)=true
   ·rw[if_pos b,List.lookup_cons,e]at a;exact i a
   ·rw[if_neg b,List.lookup_cons,e]at a;exact i a
theorem FY{env:Env}(hk:env.scope.kind= .function):∀ {names:List (Str×NameKind)} {x:Str},names.lookup x=some .free->
 (names.map fun(n,k)=>if(k==NameKind.free&&env.scope.kind== .function&&env.kindOf n==some .cell)then(n,NameKind.cell)else(n,k)).lookup x=some .cell\/
 (names.map fun(n,k)=>if(k==NameKind.free&&env.scope.kind== .function&&env.kindOf n==some .cell)then(n,NameKind.cell)else(n,k)).lookup x=some .free
 |[],_,h=>by simp at h
 |(n,a)::r,x,h=>by
  have e:= @FY env hk r x;show List.lookup x ((if(a==NameKind.free&&env.scope.kind== .function&&env.kindOf n==some .cell)=true then(n,NameKind.cell)else(n,a))::_)=_\/List.lookup x ((if(a==NameKind.free&&env.scope.kind== .function&&env.kindOf n==some .cell)=true then(n,NameKind.cell)else(n,a))::_)=_
  cases b:x==n with
  |true=>
   rw[List.lookup_cons,b]at h
   by_cases d:(a==NameKind.free&&env.scope.kind== .function&&env.kindOf n==some .cell)=true
   ·rw[if_pos d,List.lookup_cons,b];exact .inl rfl
   ·rw[if_neg d,List.lookup_cons,b];exact .inr h
  |false=>
   rw[List.lookup_cons,b]at h
   by_cases d:(a==NameKind.free&&env.scope.kind== .function&&env.kindOf n==some .cell)=true
   ·rw[if_pos d,List.lookup_cons,b];exact e h
   ·rw[if_neg d,List.lookup_cons,b];exact e h
def Ei{i:Nat}(h:i<own.length):(AV own sel σ)[i]? =some none:=by
 unfold AV;rw[List.getElem?_append_left (by simpa using h),List.getElem?_map,List.getElem?_eq_getElem h]
 rfl
def Jk{i:Nat}(h:(AV own sel σ)[i]? =some (some v)):∃k j,i=own.length+k/\sel[k]? =some j/\σ[j]? =some (some v):=by
 by_cases a:i<own.length
 ·rw[Ei a]at h;cases h
 ·unfold AV at h;rw[List.getElem?_append_right (by simpa using a),List.getElem?_map]at h;rw[List.length_map]at h
  cases e:sel[i-own.length]? with
  |none=>rw[e]at h;cases h
  |some j=>
   rw[e]at h;simp only[Option.map_some,Option.some.injEq]at h;refine⟨i-own.length,j,by lia,e,?_⟩;rw[List.getD_eq_getElem?_getD]at h
   cases q:σ[j]? with
   |none=>rw[q]at h;cases h
   |some u=>rw[q]at h;simp at h;rw[h]
def Jl:(AV own sel σ).length=own.length+sel.length:=by
 unfold AV;simp
structure Far (X:Cx) (pins:List (Addr×Obj)) (H:Hp) (C:Addr):Prop where
 nt:H C=none
 nl:C≠X.env.locals
 up:X.s₀.heap.objs.size<=C
 nc:∀x c,X.env.cells.lookup x=some c->c≠C
 np:∀p∈X.pn++pins,p.1≠C
def Inv.far{s:Shared}{C:Addr}(I:Inv X pins σ H s)(f:Far X pins H C)(k:Heap.SameBut C s.heap h'):Inv X pins σ H {s with heap:=h'}:=
 I.turned (t':=s.toks) (λb o a e=>(k.2 b a).trans e) f.nt f.nl (.inr f.up) f.nc f.np
section
variable{s:Shared}
def Inv.bigAfter(I:Inv X pins σ H s)(hf:∀b∈ch,BM X pins H b)(k:∀b u,b∉ch->s.heap.get? b=some u->h'.get? b=some u):∃b o,1<b/\h'.get? b=some o:=by
 obtain⟨o,_,_,e,_⟩:=I.ok.mod.glob;refine⟨mainGlobals,o,by decide,k _ _ (λz=>?_) (I.bk _ _ e)⟩;rcases(hf _ z).2.2.2.1 with q|q
 ·exact I.ok.noex _ _ e q
 ·exact absurd (Nat.lt_of_lt_of_le (Heap.lt_size e) (Nat.le_trans I.ok.bsz q)) (Nat.lt_irrefl _)
def Inv.turnedLaid{o:HO}(I:Inv X pins σ H s)(hf:∀b∈ch,BM X pins H b)(k:∀b u,b∉ch->s.heap.get? b=some u->h'.get? b=some u)(j:s.heap.objs.size<=a)
 (new:ObjOk X.prog X.w (upd H a o) h' a o):Inv X pins σ (upd H a o) {s with heap:=h',toks:=t'}:=by
 have i:H a=none:=I.hok.fresh j;have ne:∀b u,s.heap.get? b=some u->b≠a:=λb u e=>Nat.ne_of_lt (Nat.lt_of_lt_of_le (Heap.lt_size e) j);have nt:∀b u,H b=some u->b∉ch:=λb u e z=>by rw[(hf b z).1]at e;cases e
 refine I.step (g':=s.gens) (d':=s.drawn) (ch:=ch) (λb d=>⟨(hf b d).2.2.2.1,(hf b d).2.1,(hf b d).2.2.2.2.1,(hf b d).2.2.2.2.2⟩) (λb u _ _ h e _=>k b u h e) (λb u _ _ h e _=>⟨u.slots,k b u h e⟩)
  (λb u _ e n=>by rw[AH (ne b u e)];exact n) (λb u h e=>⟨u,k b u h e⟩) (λb p e=>by rw[AH (AM e i)];exact e) (λb u p e=>by rw[AH (AM e i)];exact e)
  (λb ps e=>⟨#[],by rw[AH (AM e i),e];simp⟩) (λm x=>?_) ⟨λb u e=>?_,λu e=>I.hok.sm u (by
    by_cases d:sysModules=a
    ·obtain⟨b,J,l,q⟩:=I.hok.bg;exact absurd (Nat.lt_trans l (show b<sysModules from by rw[d];exact Nat.lt_of_lt_of_le (Heap.lt_size q) j)) (Nat.lt_irrefl 1)
    ·rw[AH d]at e;exact e),I.bigAfter hf k⟩ I.bare
 ·obtain⟨ob,y,B,G,r⟩:=x;exact⟨ob,y,B,k _ ob (λz=>(hf _ z).2.1 rfl) G,r⟩
 ·by_cases d:b=a
  ·subst d;rw[AF]at e;cases e;exact new
  ·rw[AH d]at e;refine(I.hok b u e).stay (λc v h q=>k c v ?_ q) (λc q=>by rw[AH (AM q i)];exact q) λc p q=>by rw[AH (AM q i)];exact q
   rcases h with z|z
   ·rw[z];exact nt b u e
   ·exact nt c _ z
def Inv.turnedAll(I:Inv X pins σ H s)(hf:∀b∈ch,BM X pins H b)(k:∀b u,b∉ch->s.heap.get? b=some u->h'.get? b=some u):Inv X pins σ H {s with heap:=h',toks:=t'}:=by
 have nt:∀b u,H b=some u->b∉ch:=λb u e z=>by rw[(hf b z).1]at e;cases e
 refine I.step (g':=s.gens) (d':=s.drawn) (ch:=ch) (λb d=>⟨(hf b d).2.2.2.1,(hf b d).2.1,(hf b d).2.2.2.2.1,(hf b d).2.2.2.2.2⟩) (λb u _ _ a e _=>k b u a e) (λb u _ _ a e _=>⟨u.slots,k b u a e⟩)
  (λb u _ e n=>n) (λb u a e=>⟨u,k b u a e⟩) (λb h e=>e) (λb u h e=>e) (λb ps e=>⟨#[],by rw[e];simp⟩) (λm i=>?_) ⟨λb u e=>?_,I.hok.sm,I.bigAfter hf k⟩ I.bare
 ·obtain⟨ob,j,l,o,r⟩:=i;exact⟨ob,j,l,k _ ob (λz=>(hf _ z).2.1 rfl) o,r⟩
 ·refine(I.hok b u e).stay (λc v a q=>k c v ?_ q) (λc q=>q) λc h q=>q;rcases a with z|z
  ·rw[z];exact nt b u e
  ·exact nt c _ z
end
def Its(x:Str):W4:=⟨λi _=>i<x.cps.size,λi H v a=>a=H/\∃c,x.cps[i]? =some c/\v= .str ⟨#[c]⟩,λi _=>i=x.cps.size⟩
def JO{x:Str}{t:Tok}(R:T="str_ascii_iterator"\/T="str_iterator")
 (W:∀A:Around,A.handled=none->Walks P w A it [it] [it] x.cps.size (SignAt x) (λi h=>h.IsStrIter it T x t i))
 (S:∀ (A:Around) (i:Nat) (s:Shared) (Q:Value->Shared->Prop) (E:Value->Shared->Prop),s.heap.IsStrIter it T x t i->Q (.ref it) s->wpAny (model P w) A (pyIter (.ref it)) Q E s):
 Turn P w K tg (Its x) [it] it (λi h=>h.IsStrIter it T x t i) where
 mem:=by simp
 obj:=λi h st b p=>by
  obtain⟨o,a,_,hd⟩:=st;have e:b=it:=by simpa using p
  subst e;exact⟨o,a,λv z=>by rw[hd]at z;cases z⟩
 keep:=λi h j st k=>by
  obtain⟨o,a,r⟩:=st;exact⟨o,k it (by simp) o a,r⟩
 item:=by
  intro X q y B G i pins s σ H E I l st hg;subst q y B;refine(W X.A (I.ok.hd G)).item i s _ _ hg st λv j J U d L=>?_;obtain⟨c,u,Y,rfl⟩:=U;obtain⟨o,a,M,hd⟩:=id d;have Z:Inv X pins σ H {s with heap:=j,toks:=J}:=I.turnedAll l L;refine⟨_,rfl,EK (s:={s with heap:=j,toks:=J}) (n:=T) a M hd (by rcases R with rfl|rfl<;>decide) ⟨.str ⟨#[c]⟩,H,Z,⟨u,rfl⟩,⟨rfl,c,Y,rfl⟩,d,λb p=>(l b p).1⟩⟩
 done:=by
  intro X q y B G i pins s σ H E I l st hg;subst q y B;have e:i=x.cps.size:=hg;subst e;exact(W X.A (I.ok.hd G)).done s _ _ st λj J L=>⟨rfl,I.turnedAll l L⟩
 self:=λA i s Q E st h=>S A i s Q E st h
def MX(a:TE):TI:=λσ H R=>a σ H λx b=>∃z,x= .str z/\R (Its z) b
def B8(B:PE X l tl):PI X tg l (MX tl):=by
 intro pins s σ H R I h;refine thn (B pins s σ H _ I h) λv a G=>?_;obtain⟨x,p,j,J,L⟩:=G;obtain⟨z,rfl,q⟩:=L;obtain⟨t,rfl⟩:=J;have d:∀b∈[a.heap.objs.size],BM X pins p b:=λb M=>by
  have e:b=a.heap.objs.size:=by simpa using M
  subst e;exact j.fpOk (Nat.le_refl _) (j.hok.fresh (Nat.le_refl _))
 cases y:z.cps.all (· <128)
 ·refine wpAny_pyIter_wide y ⟨a.heap.objs.size,[a.heap.objs.size],_,_,p,rfl,j.kept (t':=a.toks) λb o e=>Heap.get?_push_of_some _ e,JO (t:=t) (T:="str_iterator") (.inr rfl) (λA r=>Walks.strWide r _ z t) (λA i s Q E st h=>wpAny_pyIter_striter_wide st h),⟨_,Heap.get?_push_size _ rfl,rfl,rfl⟩,d,q⟩
 ·refine wpAny_pyIter_ascii y ⟨a.heap.objs.size,[a.heap.objs.size],_,_,p,rfl,j.kept (t':=a.toks) λb o e=>Heap.get?_push_of_some _ e,JO (t:=t) (T:="str_ascii_iterator") (.inl rfl) (λA r=>Walks.strAscii r _ z t) (λA i s Q E st h=>wpAny_pyIter_striter_ascii st h),⟨_,Heap.get?_push_size _ rfl,rfl,rfl⟩,d,q⟩
def Dl(x:Str):W4:=⟨λi _=>i<x.cps.size,λi H v a=>∃T c,H T=none/\x.cps[i]? =some c/\v= .ref T/\a=upd H T (.tup [.int i, .str ⟨#[c]⟩]),λi _=>i=x.cps.size⟩
def HY(K:W.Frag)(a:Addr):W4:=⟨λi H=>∃b x,SqL K H a b/\b[i]? =some x,λi H v d=>∃T x,H T=none/\(∀b,SqL K H a b->b[i]? =some x)/\v= .ref T/\d=upd H T (.tup [.int i,x]),
 λi H=>∃b,SqL K H a b/\i=b.length⟩
section
variable{k:Nat}
def Iw{s:Shared}{i:Nat}{Pr:Nat->Value->Prop}{W3:Nat->Heap->Prop}{old:Value}
 (D:Draws X.prog X.w X.A.in1 it fp n Pr W3) (I:Inv X pins σ H s) (hf:∀b∈[e,it],BM X pins H b) (Z:IsEnum s.heap e it i old) (d:W3 i s.heap) (B:i<n) (G:e≠it) (h:e∉fp)
 (J:∀L o,IsEnum L e it ((i:Int)+1) o->W3 (i+1) L->tn L) (y:∀v,Pr i v->∃z,RelV z v/\Qx v H z):
 wpAny (model X.prog X.w) X.A (pyNext (.ref e)) (λr s1=>∃u,r=some u/\wpAny (model X.prog X.w) X.A (letOwnedTupleGo (.Tuple elts k tpos) (.ref e) u) (λ_ s2=>∃x M,Inv X pins σ M s2/\RelV x u/\
  (∃T z v,H T=none/\Pr i v/\RelV z v/\Qx v H z/\x= .ref T/\M=upd H T (.tup [.int i,z]))/\tn s2.heap/\∀b∈[e,it],M b=none) E s1) E s:=by
 refine wpAny_pyNext_enum_itemD D Z d B G h λv h1 l hP ho Q hT hsz hk=>⟨_,rfl,wpAny_letOwnedTupleGo_enum ho λp R a=>?_⟩;obtain⟨z,rz,qz⟩:=y v hP;have j:e<s.heap.objs.size:=Heap.lt_size Z;have S:it<s.heap.objs.size:=by obtain⟨_,q⟩:=D.live _ _ d;exact Heap.lt_size q
 have U:p.get? s.heap.objs.size=some {cls:= .type "tuple",data:= .seq #[.int i l,v]}:=(a.2 _ (Nat.ne_of_gt j)).trans hT;have ob:ObjOk X.prog X.w (upd H s.heap.objs.size (.tup [.int i,z])) p s.heap.objs.size (.tup [.int i,z]):=⟨(by show 2<=sizeLine;decide),[.int i l,v], .cons ⟨l,rfl⟩ (.cons rz .nil),⟨_,U,rfl,_,rfl⟩⟩;have I2:Inv X pins σ (upd H s.heap.objs.size (.tup [.int i,z])) {s with heap:=p,toks:=l+1}:=I.turnedLaid hf (λb u hb q=>(a.2 b (λz=>hb (by simp[z]))).trans (hk b u (λz=>hb (by simp[z])) (λz=>hb (by simp[z])) q)) (Nat.le_refl _) ob;refine⟨.ref s.heap.objs.size,_,I2,rfl,⟨s.heap.objs.size,z,v,I.hok.fresh (Nat.le_refl _),hP,rz,qz,rfl,rfl⟩,J p _ R (D.frame _ _ _ Q λb hb o q=>(a.2 b λz=>h (z▸hb)).trans q),λb hb=>?_⟩;have Y:b≠s.heap.objs.size:=by
  rcases List.mem_cons.mp hb with z|hb
  ·rw[z];exact Nat.ne_of_lt j
  ·rw[List.mem_singleton.mp hb];exact Nat.ne_of_lt S
 rw[AH Y];exact(hf b hb).1
def IB{x:Str}{t:Tok}(j:e≠it)
 (W:∀A:Around,A.handled=none->Draws P w A it [it] x.cps.size (λi v=>∃c u,x.cps[i]? =some c/\v= .str ⟨#[c]⟩ u) (λi h=>h.IsStrIter it T x t i)):
 Turn P w K (.Tuple elts k tpos) (Dl x) [e,it] e (λi h=>(∃old,IsEnum h e it i old)/\h.IsStrIter it T x t i) where
 mem:=by simp
 obj:=λi h st b hb=>by
  obtain⟨⟨old,d⟩,o,p,_,hd⟩:=st;rcases List.mem_cons.mp hb with z|hb
  ·subst z;exact⟨_,d,λv z=>by cases z⟩
  ·rw[List.mem_singleton.mp hb];exact⟨o,p,λv z=>by rw[hd]at z;cases z⟩
 keep:=λi h R st k=>by
  obtain⟨⟨old,d⟩,o,p,r⟩:=st;exact⟨⟨old,k e (by simp) _ d⟩,o,k it (by simp) o p,r⟩
 item:=by
  intro X y B G J i pins s σ H E I L st hg;subst y B G;obtain⟨⟨old,d⟩,st⟩:=st;refine thn (Iw (elts:=elts) (k:=k) (tpos:=tpos) (Qx:=λv H z=>∃c,x.cps[i]? =some c/\z= .str ⟨#[c]⟩) (tn:=λh=>(∃old,IsEnum h e it ((i+1:Nat):Int) old)/\h.IsStrIter it T x t (i+1)) (W X.A.in1 (I.ok.hd J)) I L d st hg j (λz=>j (List.mem_singleton.mp z)) (λR o a b=>⟨⟨o,by simpa using a⟩,b⟩) ?_) ?_
  ·rintro v ⟨c,u,l,rfl⟩;exact⟨.str ⟨#[c]⟩,⟨u,rfl⟩,c,l,rfl⟩
  ·rintro r s1 ⟨u,S,U⟩;refine⟨u,S,thn U ?_⟩;rintro _ s2 ⟨Y,Z,I2,rx,⟨Ta,z,v,hT,hv,rz,⟨c,l,rfl⟩,ex,eH⟩,M,fr⟩;exact⟨Y,Z,I2,rx,⟨Ta,c,hT,l,ex,eH⟩,M,fr⟩
 done:=by
  intro X y B G J i pins s σ H E I L st hg;subst y B G;obtain⟨⟨old,d⟩,st⟩:=st;have ei:i=x.cps.size:=hg;subst ei;exact wpAny_pyNext_enum_endD (W X.A.in1 (I.ok.hd J)) d st λR l=>⟨rfl,I.turnedAll (t':=s.toks) L λb o hb q=>l b o (λz=>hb (by simp[z])) q⟩
 self:=λA i s Q E st h=>by
  obtain⟨⟨old,d⟩,_⟩:=st;exact wpAny_pyIter_enum d h
def OD(l:e≠it)(p:a≠it)(L:a≠e):
 Turn P w K (.Tuple elts k tpos) (HY K a) [e,it] e (λi h=>(∃old,IsEnum h e it i old)/\h.IsListIter it a i) where
 mem:=by simp
 obj:=λi h st b hb=>by
  obtain⟨⟨old,j⟩,o,M,_,hd⟩:=st;rcases List.mem_cons.mp hb with z|hb
  ·subst z;exact⟨_,j,λv z=>by cases z⟩
  ·rw[List.mem_singleton.mp hb];exact⟨o,M,λv z=>by rw[hd]at z;cases z⟩
 keep:=λi h h' st k=>by
  obtain⟨⟨old,j⟩,o,M,r⟩:=st;exact⟨⟨old,k e (by simp) _ j⟩,o,k it (by simp) o M,r⟩
 item:=by
  intro X R S T U i pins s σ H E I Y st hg;subst R S T;obtain⟨⟨old,j⟩,st⟩:=st;obtain⟨xs,x,G,y⟩:=hg;obtain⟨d,J,Z,hz⟩:=I.list G;have hl:=J.length;have hil:i<xs.length:=(List.getElem?_eq_some_iff.mp y).1;have D:Draws X.prog X.w X.A.in1 it [it,a] d.toArray.size (λi v=>d.toArray[i]? =some v) (λi h=>h.IsListIter it a i/\h.IsList a d.toArray):=Draws.list (A:=X.A.in1) (I.ok.hd U) it a p d.toArray;refine thn (Iw (elts:=elts) (k:=k) (tpos:=tpos) (Qx:=λv H z=>z=x) (tn:=λh=>(∃old,IsEnum h e it ((i+1:Nat):Int) old)/\h.IsListIter it a (i+1)) D I Y j ⟨st,Z.isList⟩ (by rw[List.size_toArray,<-hl];exact hil) l (λz=>?_) (λh' o a b=>⟨⟨o,by simpa using a⟩,b.1⟩) ?_) ?_
  ·rcases List.mem_cons.mp z with z|z
   ·exact l z
   ·exact L (List.mem_singleton.mp z).symm
  ·intro v hv;obtain⟨u,eu,ru⟩:=J.get y;have:v=u:=by
    have B:d[i]? =some v:=by simpa using hv
    rw[eu]at B;exact(Option.some.inj B).symm
   subst this;exact⟨x,ru,rfl⟩
  ·rintro r s1 ⟨u,hr,h1⟩;refine⟨u,hr,thn h1 ?_⟩;rintro _ s2 ⟨xv,H',I2,rx,⟨Ta,z,v,hT,hv,rz,rfl,ex,eH⟩,tn2,fr⟩;refine⟨xv,H',I2,rx,⟨Ta,z,hT,λys hys=>?_,ex,eH⟩,tn2,fr⟩;rw[I.list_inj hys G];exact y
 done:=by
  intro X R S T U i pins s σ H E I Y st hg;subst R S T;obtain⟨⟨old,j⟩,st⟩:=st;obtain⟨xs,G,ei⟩:=hg;obtain⟨d,J,Z,hz⟩:=I.list G;have hl:=J.length;have D:Draws X.prog X.w X.A.in1 it [it,a] d.toArray.size (λi v=>d.toArray[i]? =some v) (λi h=>h.IsListIter it a i/\h.IsList a d.toArray):=Draws.list (A:=X.A.in1) (I.ok.hd U) it a p d.toArray;have es:i=d.toArray.size:=by rw[List.size_toArray,<-hl];exact ei
  exact wpAny_pyNext_enum_endD D j ⟨es▸st,Z.isList⟩ λh' y=>⟨rfl,I.turnedAll (t':=s.toks) Y λb o hb q=>y b o (λz=>hb (by simp[z])) q⟩
 self:=λA i s Q E st h=>by
  obtain⟨⟨old,j⟩,_⟩:=st;exact wpAny_pyIter_enum j h
end
def MZ(a:TA):TI:=λσ H R=>a σ H λvs b=>∃z,vs=[.str z]/\R (Dl z) b
def HU(K:W.Frag)(d:TA):TI:=λσ H R=>d σ H λvs b=>∃a,vs=[.ref a]/\(∃e,SqL K b a e)/\R (HY K a) b
section
variable{a:Expr}{k:Nat}
def Gs{s:Shared}(I:Inv X pins σ H s):∀b∈[s.heap.objs.size+1,s.heap.objs.size],BM X pins H b:=λb hb=>by
 rcases List.mem_cons.mp hb with z|hb
 ·subst z;exact I.fpOk (Nat.le_succ _) (I.hok.fresh (Nat.le_succ _))
 ·rw[List.mem_singleton.mp hb];exact I.fpOk (Nat.le_refl _) (I.hok.fresh (Nat.le_refl _))
def Ql(hg:Gl X "enumerate")(B:X.mg "enumerate"=none)(G:PA X [a] ta)(J:starEach [a] X.env=[(false,eval a X.env)]:=by rfl):PI X (.Tuple elts k tpos) (.Call (.Name "enumerate" p) [a] [] pos) (MZ ta):=by
 intro pins s σ H R I h;refine Call_ (B0 I hg B boot_enumerate (PyProof.Rows.callWith_type1 (thn (G pos pins s σ H _ I h) λS d ⟨vs,x,l,L,M⟩=>?_) J rfl));obtain⟨z,e,q⟩:=M;subst e
 cases L with
 |cons r P=>
  cases P
  obtain⟨t,rfl⟩:=r;refine call_enumerate_str λy o j Q hk=>wpAny_pyIter_enum o ?_
  cases i:z.cps.all (· <128)
  ·have b:y.IsStrIter d.heap.objs.size "str_iterator" z t 0:=by simpa[strIterType,i]using j
   exact⟨d.heap.objs.size+1,[d.heap.objs.size+1,d.heap.objs.size],_,_,x,rfl,l.kept (t':=d.toks) hk,IB (t:=t) (T:="str_iterator") (Nat.succ_ne_self _) (λA v=>Draws.strWide v _ z t),⟨⟨_,o⟩,b⟩,Gs l,q⟩
  ·have b:y.IsStrIter d.heap.objs.size "str_ascii_iterator" z t 0:=by simpa[strIterType,i]using j
   exact⟨d.heap.objs.size+1,[d.heap.objs.size+1,d.heap.objs.size],_,_,x,rfl,l.kept (t':=d.toks) hk,IB (t:=t) (T:="str_ascii_iterator") (Nat.succ_ne_self _) (λA v=>Draws.strAscii v _ z t),⟨⟨_,o⟩,b⟩,Gs l,q⟩
def Qm(hg:Gl X "enumerate")(y:X.mg "enumerate"=none)(z:PA X [a] ta)(B:starEach [a] X.env=[(false,eval a X.env)]:=by rfl):PI X (.Tuple elts k tpos) (.Call (.Name "enumerate" p) [a] [] pos) (HU X.K ta):=by
 intro pins s σ H R I h;refine Call_ (B0 I hg y boot_enumerate (PyProof.Rows.callWith_type1 (thn (z pos pins s σ H _ I h) λT b ⟨vs,G,d,J,L⟩=>?_) B rfl));obtain⟨l,e,⟨U,M⟩,q⟩:=L;subst e
 cases J with
 |cons r P=>
  cases P
  cases r
  obtain⟨Q,Y,o,Z⟩:=d.list M;obtain⟨ol,i,_⟩:=id o.isList;have v:l<b.heap.objs.size:=Heap.lt_size i;refine call_enumerate_list o.isList λh' x j S hk=>wpAny_pyIter_enum x ?_;exact⟨b.heap.objs.size+1,[b.heap.objs.size+1,b.heap.objs.size],_,_,G,rfl,d.kept (t':=b.toks) hk,OD (Nat.succ_ne_self _) (Nat.ne_of_lt v) (Nat.ne_of_lt (Nat.lt_succ_of_lt v)),⟨⟨_,x⟩,j⟩,Gs d,q⟩
end
def tx(l:List Nat):V:= .str ⟨l.toArray⟩
def tx_inj{a:List Nat}:tx a=tx b↔a=b:=by
 unfold tx
 constructor
 ·intro h;injection h with h
  injection h with h
  simpa using congrArg Array.toList h
 ·rintro rfl;rfl
def Az(a:List Nat):(⟨a.toArray⟩:Str).length=a.length:=by simp[Str.length]
def FD(a b:List Nat):eqV (tx a) (tx b)=decide (a=b):=by
 have e:eqV (tx a) (tx b)=((⟨a.toArray⟩:Str)==⟨b.toArray⟩):=rfl;rw[e]
 by_cases h:a=b
 ·subst h;simp
 ·rw[decide_eq_false h,beq_eq_false_iff_ne];intro q;exact h (tx_inj.mp (congrArg V.str q))
def LS(a b:List Nat):decide (tx a=tx b)=decide (a=b):=by
 by_cases h:a=b
 ·subst h;simp
 ·rw[decide_eq_false h,decide_eq_false (λq=>h (tx_inj.mp q))]
def Ae{x:Str}{l:List Nat}{j pos}(h:x=⟨l.toArray⟩):PE X (.Constant (.str x) j pos) (tC (tx l)):=by
 subst h;exact Cm
def op_addT:OpR X (binaryOp .Add) (λx y H Q=>∃a b,x=tx a/\y=tx b/\a.length+b.length<=sizeLine/\Q (tx (a++b)) H):=by
 intro pins s σ H x y v u Q I d h ⟨a,b,e1,e2,hz,q⟩;subst e1 e2;refine OO pins s σ H _ _ v u Q I d h ⟨_,_,rfl,rfl,by rw[Az,Az];exact hz,?_⟩;have e:(V.str ((⟨a.toArray⟩:Str)++⟨b.toArray⟩))=tx (a++b):=by
  unfold tx;congr 1;show(⟨a.toArray++b.toArray⟩:Str)=_;simp
 rw[e];exact q
def rIxT':R2:=λx y H Q=>∃a i c,x=tx a/\y= .int i/\a.length<=sizeLine/\atI a i=some c/\Q (tx [c]) H
def ix_T:IxR X rIxT':=by
 intro value slice pins s σ H x y v u Q I b d ⟨a,i,c,e1,e2,hz,he,q⟩ hs;subst e1 e2;exact U0 value slice pins s σ H _ _ v u Q I b d ⟨_,i,c,rfl,rfl,by rw[Az];exact hz,by simpa using he,q⟩ hs
def call_lenT:CallR X (.builtin "len") (λb H Q=>∃a,b=[tx a]/\a.length<=sizeLine/\Q (.int a.length) H):=by
 intro pins s σ H b d Q I r ⟨a,e,hz,q⟩;subst e;refine Nb pins s σ H _ d Q I r ⟨_,rfl,by rw[Az];exact hz,?_⟩;rw[Az];exact q
def op_inT:OpR X (compareOp .In) (λx y H Q=>∃c l,x=tx [c]/\y=tx l/\Q (.bl (decide (c∈l))) H):=by
 intro pins s σ H x y v u Q I a b ⟨c,l,e1,e2,q⟩;subst e1 e2;refine PM pins s σ H _ _ v u Q I a b ⟨_,_,rfl,rfl,?_⟩;have e:=PySem.StrLaws.found_one (⟨l.toArray⟩:Str) c;simp only at e;rw[show(⟨[c].toArray⟩:Str)=⟨#[c]⟩from rfl,e];exact q
def op_notinT:OpR X (compareOp .NotIn) (λx y H Q=>∃c l,x=tx [c]/\y=tx l/\Q (.bl (!decide (c∈l))) H):=by
 intro pins s σ H x y v u Q I a b ⟨c,l,e1,e2,q⟩;subst e1 e2;refine NP pins s σ H _ _ v u Q I a b ⟨_,_,rfl,rfl,?_⟩;have e:=PySem.StrLaws.found_one (⟨l.toArray⟩:Str) c;simp only at e;rw[show(⟨[c].toArray⟩:Str)=⟨#[c]⟩from rfl,e];exact q
theorem JW(a:List Nat):∀ (n:Nat) (b:Array Nat),((List.replicate n a.toArray).foldl (· ++ ·) b)=(b.toList++(List.replicate n a).flatten).toArray
 |0,b=>by simp
 |n+1,b=>by
  rw[List.replicate_succ,List.foldl_cons,JW a n,List.replicate_succ,List.flatten_cons];simp
def Kb:OpR X (binaryOp .Mult) (λx y H Q=>∃a k,x=tx a/\y= .int k/\0<=k/\k<=1000/\a.length<=1000/\Q (tx (List.replicate k.toNat a).flatten) H):=by
 intro pins s σ H x y v u Q I b d ⟨a,k,e1,e2,h0,h1,hl,q⟩;subst e1 e2;obtain⟨t,rfl⟩:=b;obtain⟨l,rfl⟩:=d;have e:Txt.mul ⟨a.toArray⟩ k=⟨((List.replicate k.toNat a).flatten).toArray⟩:=by
  unfold Txt.mul
  by_cases hk:k<1
  ·have:k=0:=by lia
   subst this
   rfl
  ·rw[if_neg hk]
   split
   ·rename_i hc
    rw[Az]at hc;simp only[Bool.or_eq_true,beq_iff_eq]at hc;rcases hc with hc|hc
    ·subst hc;simp
    ·have:a=[]:=List.length_eq_zero_iff.mp hc;subst this;simp
   ·simp only;rw[JW];simp
 refine SB.mul ⟨by simp;lia,λh _=>?_,λh _=>?_⟩ λi j=>⟨tx (List.replicate k.toNat a).flatten,H,I.tok j,⟨i,by rw[e]⟩,q⟩
 ·rw[Az];have:(1000:Int)<=(2^63-1)/k:=by
   refine Int.le_ediv_of_mul_le (by lia) ?_;lia
  lia
 ·rw[Az];unfold Builtin.Str.tooLong;have o:sizeLine=16777216:=sizeLine_eq;have:a.length*k.toNat<=1000*1000:=Nat.mul_le_mul hl (by lia);simp;lia
def Bs{α:Type}(xs:List α)(a b:Option Int):List α:=(xs.drop (HT.sIx xs.length 0 a)).take (HT.sIx xs.length xs.length b-HT.sIx xs.length 0 a)
def L6(v:Option Int)(n d:Nat)(hd:d<=n):(match v with|none=>(d:Int)|some i=>max 0 (min (if i<0 then i+(n:Int)else i) (n:Int)))=((HT.sIx n d v:Nat):Int):=by
 cases v with
 |none=>rfl
 |some i=>
  show max 0 (min (if i<0 then i+(n:Int)else i) (n:Int))=(((if i<0 then(i+(n:Int)).toNat else min i.toNat n):Nat):Int)
  by_cases a:i<0
  ·simp only[if_pos a];lia
  ·simp only[if_neg a];lia
def Sn(lo a:Option Int)(n:Nat):Builtin.Str.strSliceIndices lo a 1 n=(List.range (HT.sIx n n a-HT.sIx n 0 lo)).map λk=>HT.sIx n 0 lo+k:=by
 have d:(1:Int)>0:=by lia
 have b:Builtin.Str.strSliceIndices lo a 1 n=sliceRange ((HT.sIx n 0 lo:Nat):Int) ((HT.sIx n n a:Nat):Int) 1:=by
  unfold Builtin.Str.strSliceIndices;simp only[d,if_true];congr 1
  ·cases lo with
   |none=>rfl
   |some i=>exact L6 (some i) n 0 (Nat.zero_le _)
  ·cases a with
   |none=>rfl
   |some i=>exact L6 (some i) n n (Nat.le_refl _)
 rw[b];unfold sliceRange;simp only[d,if_true];have e:(if((HT.sIx n 0 lo:Nat):Int)<((HT.sIx n n a:Nat):Int)then(((HT.sIx n n a:Nat):Int)-((HT.sIx n 0 lo:Nat):Int)+1-1)/1 else 0).toNat=HT.sIx n n a-HT.sIx n 0 lo:=by
  split<;>lia
 rw[e];refine List.map_congr_left λk _=>?_;lia
def Qk(a:List Nat)(i k:Nat):((List.range k).map λm=>i+m).filterMap (λj=>a.toArray[j]?)=(a.drop i).take k:=by
 rw[List.filterMap_map]
 induction k generalizing i with
 |zero=>simp
 |succ k b=>
  rw[List.range_succ,List.filterMap_append,b i,List.take_add_one];congr 1;simp only[List.filterMap_cons,List.filterMap_nil,Function.comp];rw[List.getElem?_drop];simp only[List.getElem?_toArray]
  cases a[i+k]? <;>rfl
def LT(a:List α)(b d:Option Int):(Bs a b d).length<=a.length:=by
 unfold Bs;rw[List.length_take,List.length_drop];lia
def rSlS:V->Option Int->Option Int->Hp->VK->Prop:=λx b d H Q=>∃a,x=tx a/\a.length<=sizeLine/\Q (tx (Bs a b d)) H
def sl_T:SlR X rSlS:=by
 intro pins s σ H x v j o lo hi S Q I p r y z ⟨a,e,hz,q⟩;subst e;obtain⟨t,rfl⟩:=p;refine⟨"str",_,F.slot_str_getitem.lookup,typeIs_str _ _ _,?_⟩;obtain⟨l,B,G⟩:∃l:Option (Int×Tok),j=partValue l/\l.map (·.1)=lo:=by
  cases y with
  |none=>exact⟨none,rfl,rfl⟩
  |int i t=>exact⟨some (i,t),rfl,rfl⟩
 obtain⟨u,J,L⟩:∃u:Option (Int×Tok),o=partValue u/\u.map (·.1)=hi:=by
  cases z with
  |none=>exact⟨none,rfl,rfl⟩
  |int i t=>exact⟨some (i,t),rfl,rfl⟩
 subst B J;refine wpAny_getItem_str_slice (l:=l) (u:=u) (st:=none) r rfl ?_;have M:=LT a lo hi;have h:slicePicked ⟨a.toArray⟩ l u none=(List.range (HT.sIx a.length a.length hi-HT.sIx a.length 0 lo)).map λk=>HT.sIx a.length 0 lo+k:=by
  unfold slicePicked;rw[G,L,Az];exact Sn lo hi a.length
 have P:((slicePicked ⟨a.toArray⟩ l u none).filterMap (a.toArray[·]?))=Bs a lo hi:=by
  rw[h];exact Qk a _ _
 unfold sliceMade;refine post_val_or_str ?_;have fin:(if((Option.map (λx=>x.1) (none:Option (Int×Tok))).getD 1==1&&(slicePicked ⟨a.toArray⟩ l u none).length==(⟨a.toArray⟩:Str).length)=true then(⟨a.toArray⟩:Str)else⟨((slicePicked ⟨a.toArray⟩ l u none).filterMap (a.toArray[·]?)).toArray⟩)=⟨(Bs a lo hi).toArray⟩:=by
  rw[P]
  split
  ·rename_i d
   rw[h,Az]at d;simp only[Option.map_none,Option.getD_none,beq_self_eq_true,Bool.true_and,List.length_map,List.length_range,beq_iff_eq]at d;have T:HT.sIx a.length a.length hi<=a.length:=HT.sIx_le _ _ (Nat.le_refl _) _;have h0:HT.sIx a.length 0 lo=0\/a.length=0:=by lia
   unfold Bs;rw[d];rcases h0 with h0|h0
   ·rw[h0,List.drop_zero,List.take_length]
   ·have:a=[]:=List.length_eq_zero_iff.mp h0;subst this;simp
  ·rfl
 have b:=fin;simp only at b⊢;rw[b];refine⟨by rw[Az];lia,λR k=>⟨tx (Bs a lo hi),H,I.tok k,⟨R,rfl⟩,q⟩⟩
def RP:CallR X (.builtin "isinstance") (λd H Q=>∃x T t b,d=[x, .ty T]/\TyOf X.K H x t/\W.kitOne X.K t (.type T)=some b/\Q (.bl b) H):=by
 intro pins s σ H d j Q I r ⟨x,T,t,b,e,ty,hk,q⟩;subst e;obtain⟨u,l,rfl,h,a⟩:=vals2 r
 cases a
 exact Pk I h ty hk λi=>⟨.bl b,H,I.tok i,rfl,q⟩
def QJ:CallR X (.builtin "all") (λL H Q=>X.calm=true/\∃ (a:Addr) (bs:List Bool),L=[.ref a]/\SqL X.K H a (bs.map V.bl)/\Q (.bl (bs.all id)) H):=by
 intro pins s σ H L us Q I r ⟨hc,a,bs,e,hq,q⟩;subst e;obtain⟨u,rfl,R⟩:=vals1 r
 cases R
 obtain⟨l,M,G,hz⟩:=I.list hq;obtain⟨ol,J,_⟩:=id G.isList;have S:a<s.heap.objs.size:=Heap.lt_size J;have d:=M.length;rw[List.length_map]at d;refine call_all_walk (wpAny_pyIter_list G.isList ⟨s.heap.objs.size,_,_,_,_,_,λi=>bs.getD i false,rfl,Walks.list (A:=X.A.in1) (I.ok.hd hc) s.heap.objs.size a (Nat.ne_of_lt S) l.toArray,⟨⟨_,Heap.get?_push_size _ rfl,rfl,rfl⟩,G.isList.at λo e=>Heap.get?_push_of_some _ e⟩,?_,λh' T U=>?_⟩)
 ·intro i v s' Q' E' Y p;have B:l[i]? =some v:=by simpa using Y
  have j:i<bs.length:=by rw[d];exact(List.getElem?_eq_some_iff.mp B).1
  obtain⟨w',P,Z⟩:=M.get (i:=i) (x:=V.bl bs[i]) (by simp[j]);rw[B]at P
  cases P
  cases Z
  have:bs.getD i false=bs[i]:=by simp[List.getD_eq_getElem?_getD,j]
  simp only[this]at p;exact wpAny_truthy_bool p
 ·have e:(List.range l.toArray.size).all (λi=>bs.getD i false)=bs.all id:=by
   rw[List.size_toArray,<-d];rw[Bool.eq_iff_iff];simp only[List.all_eq_true,List.mem_range,id]
   constructor
   ·intro h b hb;obtain⟨i,j,rfl⟩:=List.mem_iff_getElem.mp hb;have:=h i j;simpa[List.getD_eq_getElem?_getD,j]using this
   ·intro h i j;have:=h bs[i] (List.getElem_mem j);simpa[List.getD_eq_getElem?_getD,j]using this
  rw[e];have I1:Inv X pins σ H {s with heap:=s.heap.push {cls:= .type "list_iterator",data:= .fields #[.ref a, .int 0 0]}}:=I.kept (t':=s.toks) λb o z=>Heap.get?_push_of_some _ z;refine⟨.bl (bs.all id),H,I.kept (t':=T) λb o z=>U b o (λy=>?_) (Heap.get?_push_of_some _ z),rfl,q⟩;exact absurd (Heap.lt_size z) (by rw[List.mem_singleton.mp y];exact Nat.lt_irrefl _)
def eqVs:List V->List V->Bool
 |[],[]=>true
 |x::xs,y::ys=>eqV x y&&eqVs xs ys
 |_,_=>false
theorem GB:∀ {a b:List V},a.length≠b.length->eqVs a b=false
 |[],[],h=>absurd rfl h
 |[],_::_,_=>rfl
 |_::_,[],_=>rfl
 |x::a,y::b,h=>by
  have:eqVs a b=false:=GB (by simpa using h);show(eqV x y&&eqVs a b)=false;rw[this,Bool.and_false]
theorem Fh:∀ (a b:List V),a.length=b.length->(List.range a.length).all (λi=>eqV (a.getD i .non) (b.getD i .non))=eqVs a b
 |[],[],_=>rfl
 |x::a,y::b,h=>by
  have d:=Fh a b (by simpa using h);rw[List.length_cons,List.range_succ_eq_map,List.all_cons,List.all_map];show(eqV x y&&_)=(eqV x y&&eqVs a b);rw[<-d]
  rfl
 |[],_::_,h=>by simp at h
 |_::_,[],h=>by simp at h
def GX{A:Around}{s:Shared}{ws:List Value}(e:Vals xs us)(h:Vals ys ws)(o:xs.all Ay=true)(p:ys.all Ay=true):
 ∀j (a:j<us.toArray.size) (b:j<ws.toArray.size),SeqAt.EqAt A s us.toArray[j] ws.toArray[j] (eqV (xs.getD j .non) (ys.getD j .non)):=by
 intro j a b;have I:=e.length;have J:=h.length;rw[List.size_toArray]at a b;have k1:j<xs.length:=by lia
 have d:j<ys.length:=by lia
 obtain⟨u,q,r⟩:=e.get (i:=j) (x:=xs[j]) (by simp[k1]);obtain⟨w',v,y⟩:=h.get (i:=j) (x:=ys[j]) (by simp[d]);have z:us.toArray[j]=u:=by
  have:=List.getElem?_eq_getElem (l:=us) (i:=j) a;rw[q]at this;simpa using(Option.some.inj this).symm
 have B:ws.toArray[j]=w':=by
  have:=List.getElem?_eq_getElem (l:=ws) (i:=j) b;rw[v]at this;simpa using(Option.some.inj this).symm
 rw[z,B];have G:xs.getD j .non=xs[j]:=by simp[List.getD_eq_getElem?_getD,k1]
 have H:ys.getD j .non=ys[j]:=by simp[List.getD_eq_getElem?_getD,d]
 rw[G,H];exact LQ r y (List.all_eq_true.mp o _ (List.getElem_mem k1)) (List.all_eq_true.mp p _ (List.getElem_mem d))
def FP(K:W.Frag)(h:Bool):R2:=λx y H Q=>∃a b d e,x= .ref a/\y= .ref b/\SqL K H a d/\SqL K H b e/\d.all Ay=true/\e.all Ay=true/\Q (.bl (if h then !eqVs d e else eqVs d e)) H
def Um(d:X.A.units<cLine):OpR X (compareOp .Eq) (FP X.K false):=by
 intro pins s σ H x y v u Q I o p ⟨a,b,xs,ys,e1,e2,q1,q2,f1,f2,q⟩;subst e1 e2
 cases o
 cases p
 obtain⟨z,e,h,z1⟩:=I.list q1;obtain⟨ws,i,j,z2⟩:=I.list q2;have r:=e.length;have B:=i.length
 by_cases l:xs.length=ys.length
 ·refine SeqAt.eq_listAt h.isList j.isList (by simp;lia) d (GX e i f1 f2) ⟨.bl _,H,I,rfl,?_⟩;rw[List.size_toArray,<-r,Fh xs ys l];exact q
 ·refine SeqAt.eq_list_lengthsAt h.isList j.isList (by simp;lia) d ⟨.bl _,H,I,rfl,?_⟩;rw[<-GB l];exact q
def Uj(d:X.A.units<cLine):OpR X (compareOp .NotEq) (FP X.K true):=by
 intro pins s σ H x y v u Q I o p ⟨a,b,xs,ys,e1,e2,q1,q2,f1,f2,q⟩;subst e1 e2
 cases o
 cases p
 obtain⟨z,e,h,z1⟩:=I.list q1;obtain⟨ws,i,j,z2⟩:=I.list q2;have r:=e.length;have B:=i.length
 by_cases l:xs.length=ys.length
 ·refine SeqAt.RcNeAt.lists h.isList j.isList (by simp;lia) d (GX e i f1 f2) _ _ _ _ ⟨.bl _,H,I,rfl,?_⟩;rw[List.size_toArray,<-r,Fh xs ys l];exact q
 ·refine SeqAt.RcNeAt.lists_lengths h.isList j.isList (by simp;lia) d _ _ _ _ ⟨.bl _,H,I,rfl,?_⟩;have:eqVs xs ys=false:=GB l;rw[if_pos rfl,this]at q;exact q
def Di:V->Bool
 | .non=>true
 | .bl _=>true
 |_=>false
def Ul:OpR X (compareOp .Is) (λx y H Q=>Di y=true/\Q (.bl (decide (x=y))) H):=by
 intro pins s σ H x y v u Q I a e ⟨hl,q⟩;refine wpAny_is_plain ?_ ⟨.bl _,H,I,?_,q⟩
 ·cases y<;>first
   |(exact absurd hl Bool.false_ne_true)
   |(cases e;cases x<;>first|(cases a;rfl)|(obtain⟨t,rfl⟩:=a;rfl))
 ·cases y<;>first
   |(exact absurd hl Bool.false_ne_true)
   |(cases e;cases x<;>first|(cases a;rfl)|(obtain⟨t,rfl⟩:=a;rfl)|(cases a;rename_i b _ d;cases b<;>cases d<;>rfl)|(cases a;rename_i b d;cases b<;>cases d<;>rfl)|(cases a;rename_i b _ d _;cases b<;>cases d<;>rfl))
def PL:OpR X (compareOp .IsNot) (λx y H Q=>Di y=true/\Q (.bl (!decide (x=y))) H):=by
 intro pins s σ H x y v u Q I a e ⟨hl,q⟩;refine wpAny_isNot_plain ?_ ⟨.bl _,H,I,?_,q⟩
 ·cases y<;>first
   |(exact absurd hl Bool.false_ne_true)
   |(cases e;cases x<;>first|(cases a;rfl)|(obtain⟨t,rfl⟩:=a;rfl))
 ·cases y<;>first
   |(exact absurd hl Bool.false_ne_true)
   |(cases e;cases x<;>first|(cases a;rfl)|(obtain⟨t,rfl⟩:=a;rfl)|(cases a;rename_i b _ d;cases b<;>cases d<;>rfl)|(cases a;rename_i b d;cases b<;>cases d<;>rfl)|(cases a;rename_i b _ d _;cases b<;>cases d<;>rfl))
def rPlus:R2:=λx y H Q=>(∃i j,x= .int i/\y= .int j/\Q (.int (i+j)) H)\/(∃a b,x=tx a/\y=tx b/\a.length+b.length<=sizeLine/\Q (tx (a++b)) H)\/rCat x y H Q
def AQ:OpR X (binaryOp .Add) rPlus:=op_add.or (op_addT.or Uo)
def Lp:R2:=λx y H Q=>∃a k,x=tx a/\y= .int k/\0<=k/\k<=1000/\a.length<=1000/\Q (tx (List.replicate k.toNat a).flatten) H
def rTimes:R2:=λx y H Q=>(∃i j,x= .int i/\y= .int j/\CMul i j/\Q (.int (i*j)) H)\/rRep x y H Q\/Lp x y H Q
def BO:OpR X (binaryOp .Mult) rTimes:=op_mul.or (op_rep.or Kb)
def EM(K:W.Frag):R2:=λx y H Q=>rEq x y H Q\/FP K false x y H Q
def Ad(K:W.Frag)(a:X.A.units<cLine)(b:X.K=K:=by rfl):OpR X (compareOp .Eq) (EM K):=by subst b;exact op_eq.or (Um a)
def FN(K:W.Frag):R2:=λx y H Q=>rNe x y H Q\/FP K true x y H Q
def CU(K:W.Frag)(a:X.A.units<cLine)(b:X.K=K:=by rfl):OpR X (compareOp .NotEq) (FN K):=by subst b;exact op_ne.or (Uj a)
def HR(K:W.Frag):R2:=λx y H Q=>(∃c l,x=tx [c]/\y=tx l/\Q (.bl (decide (c∈l))) H)\/rIn K false x y H Q
def Cp(K:W.Frag)(a:X.K=K:=by rfl):OpR X (compareOp .In) (HR K):=by subst a;exact op_inT.or PN
def GJ(K:W.Frag):R2:=λx y H Q=>(∃c l,x=tx [c]/\y=tx l/\Q (.bl (!decide (c∈l))) H)\/rIn K true x y H Q
def EZ(K:W.Frag)(a:X.K=K:=by rfl):OpR X (compareOp .NotIn) (GJ K):=by subst a;exact op_notinT.or NQ
def rIsA:R2:=λx y H Q=>Di y=true/\Q (.bl (decide (x=y))) H
def Bo:OpR X (compareOp .Is) rIsA:=Ul
def rIsNotA:R2:=λx y H Q=>Di y=true/\Q (.bl (!decide (x=y))) H
def PK:OpR X (compareOp .IsNot) rIsNotA:=PL
def CK(K:W.Frag):R2:=λx y H Q=>rIxT' x y H Q\/MS K x y H Q\/MR K x y H Q
def HS(K:W.Frag)(a:X.K=K:=by rfl):IxR X (CK K):=by subst a;exact ix_T.or (ix_list.or Uz)
def HP(K:W.Frag):V->Option Int->Option Int->Hp->VK->Prop:=λx a b H Q=>rSlS x a b H Q\/MQ K x a b H Q
def Bc(K:W.Frag)(a:X.K=K:=by rfl):SlR X (HP K):=by subst a;exact sl_T.or Rb
def FO(K:W.Frag):List V->Hp->VK->Prop:=λd H Q=>(∃a,d=[tx a]/\a.length<=sizeLine/\Q (.int a.length) H)\/∃p b,d=[.ref p]/\(SqL K H p b\/SqT K H p b)/\Q (.int b.length) H
def QG(K:W.Frag)(a:X.K=K:=by rfl):CallR X (.builtin "len") (FO K):=by subst a;exact call_lenT.or Nc
def MT(K:W.Frag):List V->Hp->VK->Prop:=λb H Q=>∃ (a:Addr) (bs:List Bool),b=[.ref a]/\SqL K H a (bs.map V.bl)/\Q (.bl (bs.all id)) H
def Ds(K:W.Frag)(a:X.calm=true)(b:X.K=K:=by rfl):CallR X (.builtin "all") (MT K):=by subst b;exact λpins s σ H d e Q I r h=>QJ pins s σ H d e Q I r ⟨a,h⟩
def HQ(K:W.Frag):List V->Hp->VK->Prop:=λa H Q=>∃x T t b,a=[x, .ty T]/\TyOf K H x t/\W.kitOne K t (.type T)=some b/\Q (.bl b) H
def Cz(K:W.Frag)(a:X.K=K:=by rfl):CallR X (.builtin "isinstance") (HQ K):=by subst a;exact RP
def rMax:List V->Hp->VK->Prop:=λa H Q=>∃i j,a=[.int i, .int j]/\Q (.int (if j>i then j else i)) H
def QE(a:X.calm=true):CallR X (.builtin "max") rMax:=QF a
def rInt:List V->Hp->VK->Prop:=λa H Q=>(∃i,a=[.int i]/\Q (.int i) H)\/∃k,a=[.bl k]/\Q (.int (if k then 1 else 0)) H
def Ec:CallR X (.type "int") rInt:=QH
def ME(K:W.Frag)(b:TE):TT:=λσ H Q=>b σ H λx a=>∃k,DP K x a k/\Q k a
def Ar(K:W.Frag){a:Expr}{ta:TE}(b:PE X a ta)(d:∀whole,isTrue a X.env whole=(do let v<-whole;standAt a.pos;holding [v] (truthy v)):=by intro _;rfl)(e:X.K=K:=by rfl):PT X a (ME K ta):=by subst e;exact Qi b d
def C7(K:W.Frag)(a:PE X l tl)(b:X.K=K:=by rfl):PI X tg l (HI K tl):=by subst b;exact SK a
def PF(K:W.Frag){a:Expr}{k:Nat}(hg:Gl X "enumerate")(b:X.mg "enumerate"=none)(d:PA X [a] ta)(e:starEach [a] X.env=[(false,eval a X.env)]:=by rfl)(h:X.K=K:=by rfl):PI X (.Tuple elts k tpos) (.Call (.Name "enumerate" p) [a] [] pos) (HU K ta):=by subst h;exact Qm hg b d e
def CP(K:W.Frag){k:Nat}{t:TGs}(b:X.calm=true)(h:PGs X es t)
 (d:(assignEach es X.env).length=n:=by rfl) (a:(assignEach es X.env).findIdx? (·.1)=none:=by rfl) (e:X.K=K:=by rfl):PG X (.Tuple es k pos) (EQ K n t):=by subst e;exact Uc b h d a
def GQ(K:W.Frag){id:String}{r:V->List V->Hp->VK->Prop}(pa:PlainAttrs T)(slot:Slot T name id)(d:typeOf (.builtin id)=pure (.type "method_descriptor"))(e:MtR X id r)(h:PE X o to)
 (a:attributeBase o name X.env (eval o X.env)=eval o X.env:=by rfl) (b:(apos.endLine==cpos.line)=true:=by rfl) (i:X.K=K:=by rfl):PE X (.Call (.Attribute o name apos) [] [] cpos) (HM K T r to):=by subst i;exact Ug pa slot d e h a b
def Av(K:W.Frag){e:Expr}{id:String}{r:V->List V->Hp->VK->Prop}(pa:PlainAttrs T)(slot:Slot T name id)(i:typeOf (.builtin id)=pure (.type "method_descriptor"))(j:MtR X id r)(l:PE X o to)(p:PA X (e::es) t)
 (b:attributeBase o name X.env (eval o X.env)=eval o X.env:=by rfl)
 (h:((backTo cpos (starEach (e::es) X.env)).all (λx=> !x.1)&&(backToKw cpos (keywordEach [] X.env)).all (λx=>x.1.isSome)
   &&decide ((e::es).length+([]:List Keyword).length+(if([]:List Keyword).isEmpty then 0 else 1)<30))=true:=by rfl)
 (d:(apos.endLine==cpos.line)=true:=by rfl) (q:starEach (e::es) X.env=(false,eval e X.env)::starEach es X.env:=by rfl) (a:(backTo cpos (starEach es X.env)).any (·.1)=false:=by rfl) (v:X.K=K:=by rfl):
 PE X (.Call (.Attribute o name apos) (e::es) [] cpos) (tBM K T r to t):=by subst v;exact Vq pa slot i j l p b h d q a
def AX{x:Str}(h:∃u,X.mg x=some u/\RelV v u)(hg:Gl X x:=by rfl)(hd:(x==("__debug__":Str))=false:=by decide):PE X (.Name x pos) (tC v):=by
 obtain⟨u,a,r⟩:=h;exact SR hg a r hd
def DH{x:Str}(a:X.mg x=none)(b:bootBuiltins x=some (.type T))(hg:Gl X x:=by rfl)(d:x≠"__name__":=by decide)(hd:(x==("__debug__":Str))=false:=by decide):PE X (.Name x pos) (tC (.ty T)):=
 SY hg a b rfl d hd
structure FnU (P:Program) (w:World) (K:W.Frag) (mg:Str->Option Value) (base:Heap) (k:Nat) (x:Str) (ps:List Str) (sp:Sp):Prop where
 ex:∃f fd,FnOk P w K mg base CX0 k f fd ps sp/\mg x=some (.ref f)/\W.keepIn K (.ref f)=true/\Binds K fd ps []
def AN{k:Nat}{x:Str}{ps:List Str}{e:Expr}(U:FnU X.prog X.w X.K X.mg X.base k x ps sp)(d:Room k X.A)(h:PA X (e::es) t)(hg:Gl X x:=by rfl)
 (a:(x==("__debug__":Str))=false:=by decide) (i:starEach (e::es) X.env=(false,eval e X.env)::starEach es X.env:=by rfl) (b:(backTo pos (starEach es X.env)).any (·.1)=false:=by rfl):
 PE X (.Call (.Name x p) (e::es) [] pos) (EH sp [] E0 t):=by
 obtain⟨f,fd,F,j,hk,l⟩:=U.ex;exact SX F d hg j hk l .nil DY h a i b
def Gm{k:Nat}{x:Str}{ps:List Str}(U:FnU X.prog X.w X.K X.mg X.base k x ps sp)(b:Room k X.A)(hg:Gl X x:=by rfl)
 (a:(x==("__debug__":Str))=false:=by decide):PE X (.Call (.Name x p) [] [] pos) (EH sp [] E0 tNil):=by
 obtain⟨f,fd,F,d,hk,e⟩:=U.ex;exact Qv F b hg d hk e .nil DY a
section
variable{D:Ends}
def HC{t u:TS}(h:t {D with nx:=u D} σ H):Cc t u D σ H:=h
def V8{c:TT}{t u:TS}(h:c σ H λb a=>if b=true then t D σ a else u D σ a):De c t u D σ H:=h
def Vn{g:TG}(h:te σ H λx a=>g x σ a D.nx):Bb te g D σ H:=h
def Vm{i:Nat}{ti:TIp}(e:σ[i]? =some (some x))(h:te σ H λy a=>ti x y a λz b=>D.nx (σ.set i (some z)) b):ML i te ti D σ H:=⟨x,e,h⟩
def DX(h:Q (.int (f i j)) H):ipI f (.int i) (.int j) H Q:=⟨i,j,rfl,rfl,h⟩
def VO(h:te σ H D.rt):EL te D σ H:=h
def UI(h:te σ H λ_ a=>D.nx σ a):G8 te D σ H:=h
def Tn(h:D.nx σ H):tNext D σ H:=h
def UN(h:D.ct σ H):tCont D σ H:=h
def To{i:Nat}{R:W3->Hp->Prop}(h:R (σ.set i (some v)) H):Aw i v σ H R:=h
def UE{R:W3->Hp->Prop}(h:R σ H):gNil [] σ H R:=⟨rfl,h⟩
def Rv{t:TG}{u:TGs}{r:List V}{R:W3->Hp->Prop}(h:t v σ H λσ' a=>u r σ' a R):FJ t u (v::r) σ H R:=⟨v,r,rfl,h⟩
def E5{t:TGs}{R:W3->Hp->Prop}(b:SqT K H a xs)(d:xs.length=n)(h:t xs σ H R):EQ K n t (.ref a) σ H R:=⟨a,xs,rfl,b,d,h⟩
def UD{ti:TE}{t:TSet}{R:W3->Hp->Prop}(h:to σ H λo a=>ti σ a λi b=>t o i v b λd=>R σ d):FT to ti t v σ H R:=h
def VF{i:Nat}(e:σ[i]? =some (some v))(q:Q v H):BJ i σ H Q:=⟨v,e,q⟩
def s_c(q:Q v H):tC v σ H Q:=q
def V4{r:R2}{ta:TE}(h:ta σ H λx a=>tb σ a λy b=>r x y b Q):tOp r ta tb σ H Q:=h
def V0{r:V->Hp->VK->Prop}{ta:TE}(h:ta σ H λx a=>r x a Q):tUn r ta σ H Q:=h
def VU{g:Int->V}(h:Q (g i) H):rU g (.int i) H Q:=⟨i,rfl,h⟩
def UQ{dvs:List V}{E:XK}(h:t σ H λvs a=>sp (vs++dvs) a Q E):EH sp dvs E t σ H Q:=h
def UO{ta:TE}{tr:TA}{R:List V->Hp->Prop}(h:ta σ H λx a=>tr σ a λb d=>R (x::b) d):CY ta tr σ H R:=h
def VT{R:List V->Hp->Prop}(h:R [] H):tNil σ H R:=h
def V9{r:List V->Hp->VK->Prop}(h:t σ H λvs a=>r vs a Q):tCB r t σ H Q:=h
def VZ(h:t σ H λa b=>a.length<=sizeLine/\∀p,b p=none->Q (.ref p) (upd b p (.lst a))):Cv t σ H Q:=h
def VI(h:t σ H λa b=>a.length<=sizeLine/\∀p,b p=none->Q (.ref p) (upd b p (.tup a))):HK t σ H Q:=h
def Vc{t:TT}{ta:TE}(h:t σ H λc a=>if c=true then ta σ a Q else tb σ a Q):tIf t ta tb σ H Q:=h
def Vp{t u:TT}(h:t σ H λc a=>if c=true then u σ a R else R false a):MM t u σ H R:=h
def V3{t u:TT}(h:t σ H λc a=>if c=true then R true a else u σ a R):tOr t u σ H R:=h
def VS{t:TT}(h:t σ H λc a=>R (!c) a):MH t σ H R:=h
def US{ta:TE}(h:ta σ H λx a=>∃c,x= .bl c/\if c=true then tb σ a Q else Q (.bl false) a):Lf ta tb σ H Q:=h
def VP{ta:TE}(h:ta σ H λx a=>∃c,x= .bl c/\if c=true then Q (.bl true) a else tb σ a Q):MG ta tb σ H Q:=h
def Tj{ta:TE}(h:ta σ H λx a=>∃c,x= .bl c/\Q (.bl (!c)) a):Ld ta σ H Q:=h
def Tc{t:TE}(h:t σ H λx a=>∃k,x= .bl k/\R k a):EE t σ H R:=h
def VL{ta:TE}(h:ta σ H λx a=>∃k,DP K x a k/\R k a):ME K ta σ H R:=h
def Ry{r r':R2}{ta tc:TE}(h:ta σ H λx b=>tb σ b λy d=>r x y d λz a=>∃k,z= .bl k/\(if k=true then tc σ a λe i=>r' y e i Q else Q (.bl false) a)):Ge r r' ta tb tc σ H Q:=h
def CI{R:Bool->Prop}(h:R c):∃k,V.bl c=V.bl k/\R k:=⟨c,rfl,h⟩
def TZ{R:Bool->Prop}(h:R c):∃k,DP K (.bl c) H k/\R k:=⟨c,rfl,h⟩
def TY{a:List Nat}{R:Bool->Prop}(b:a.length<=sizeLine)(h:R (!decide (a=[]))):∃k,DP K (tx a) H k/\R k:=by
 refine⟨!decide (a=[]),⟨by rw[Az];exact b,?_⟩,h⟩;rw[Az]
 cases a with
 |nil=>rfl
 |cons c r=>
  have:((c::r).length:Int)≠0:=by simp;lia
  rw[decide_eq_false (by simp)];exact(bne_iff_ne.mpr this).symm
def D9{R:Bool->Prop}(b:SqL K H a xs)(h:R (!xs.isEmpty)):∃k,DP K (.ref a) H k/\R k:=⟨_, .inl ⟨xs,b,rfl⟩,h⟩
def UT(h:Q (.int (i+j)) H):rPlus (.int i) (.int j) H Q:= .inl ⟨i,j,rfl,rfl,h⟩
def DT{a:List Nat}(d:a.length+b.length<=sizeLine)(h:Q (tx (a++b)) H):rPlus (tx a) (tx b) H Q:= .inr (.inl ⟨a,b,rfl,rfl,d,h⟩)
def DB{b:Addr}(d:H a=some (.lst xs))(e:H b=some (.lst ys))(i:xs.length+ys.length<=sizeLine)(h:∀p,H p=none->Q (.ref p) (upd H p (.lst (xs++ys)))):rPlus (.ref a) (.ref b) H Q:= .inr (.inr ⟨a,b,xs,ys,rfl,rfl,d,e,i,h⟩)
def Td(h:Q (g i j) H):rI0 g (.int i) (.int j) H Q:=⟨i,j,rfl,rfl,h⟩
def V2(a:C i j)(h:Q (g i j) H):rI C g (.int i) (.int j) H Q:=⟨i,j,rfl,rfl,a,h⟩
def Tp(a:CMul i j)(h:Q (.int (i*j)) H):rTimes (.int i) (.int j) H Q:= .inl ⟨i,j,rfl,rfl,a,h⟩
def EI{k:Int}(b:H a=some (.lst xs))(d: -(2^63)<=k)(e:k<2^63)(i:xs.length*k.toNat<=sizeLine)(h:∀p,H p=none->Q (.ref p) (upd H p (.lst (List.replicate k.toNat xs).flatten))):rTimes (.ref a) (.int k) H Q:= .inr (.inl ⟨a,k,xs,rfl,rfl,b,d,e,i,h⟩)
def EA{a:List Nat}{k:Int}(h0:0<=k)(b:k<=1000)(d:a.length<=1000)(h:Q (tx (List.replicate k.toNat a).flatten) H):rTimes (tx a) (.int k) H Q:= .inr (.inr ⟨a,k,rfl,rfl,h0,b,d,h⟩)
def Vg(h:Q (.bl (decide (i=j))) H):EM K (.int i) (.int j) H Q:= .inl ⟨rfl,by rw[show decide (V.int i=V.int j)=decide (i=j)from by rw[Ey];exact(Bool.beq_eq_decide_eq i j)];exact h⟩
def Vh{i j:Bool}(h:Q (.bl (decide (i=j))) H):EM K (.bl i) (.bl j) H Q:= .inl ⟨rfl,by rw[show decide (V.bl i=V.bl j)=decide (i=j)from by rw[Gv];exact(Bool.beq_eq_decide_eq i j)];exact h⟩
def Vf{a:List Nat}(h:Q (.bl (decide (a=b))) H):EM K (tx a) (tx b) H Q:= .inl ⟨rfl,by rw[LS];exact h⟩
def Ll{b:Addr}(d:SqL K H a xs)(e:SqL K H b ys)(i:xs.all Ay=true)(j:ys.all Ay=true)(h:Q (.bl (eqVs xs ys)) H):EM K (.ref a) (.ref b) H Q:= .inr ⟨a,b,xs,ys,rfl,rfl,d,e,i,j,h⟩
def VX(h:Q (.bl (!decide (i=j))) H):FN K (.int i) (.int j) H Q:= .inl ⟨rfl,by rw[show decide (V.int i=V.int j)=decide (i=j)from by rw[Ey];exact(Bool.beq_eq_decide_eq i j)];exact h⟩
def VW{a:List Nat}(h:Q (.bl (!decide (a=b))) H):FN K (tx a) (tx b) H Q:= .inl ⟨rfl,by rw[LS];exact h⟩
def Lj{b:Addr}(d:SqL K H a xs)(e:SqL K H b ys)(i:xs.all Ay=true)(j:ys.all Ay=true)(h:Q (.bl (!eqVs xs ys)) H):FN K (.ref a) (.ref b) H Q:= .inr ⟨a,b,xs,ys,rfl,rfl,d,e,i,j,h⟩
def Va{c:Nat}{l:List Nat}(h:Q (.bl (decide (c∈l))) H):HR K (tx [c]) (tx l) H Q:= .inl ⟨c,l,rfl,rfl,h⟩
def QX{c:Nat}{l:List Nat}(h:Q (.bl (!decide (c∈l))) H):GJ K (tx [c]) (tx l) H Q:= .inl ⟨c,l,rfl,rfl,h⟩
def HD(b:SqL K H a xs\/SqT K H a xs)(d:Ay x=true)(e:xs.all Ay=true)(h:Q (.bl (inV x xs)) H):HR K x (.ref a) H Q:= .inr ⟨a,xs,rfl,b,d,e,h⟩
def QY(b:SqL K H a xs\/SqT K H a xs)(d:Ay x=true)(e:xs.all Ay=true)(h:Q (.bl (!inV x xs)) H):GJ K x (.ref a) H Q:= .inr ⟨a,xs,rfl,b,d,e,h⟩
def V7{y:V}(a:Di y=true)(h:Q (.bl (decide (x=y))) H):rIsA x y H Q:=⟨a,h⟩
def B1{a:List Nat}{c:Nat}(b:a.length<=sizeLine)(d:atI a i=some c)(h:Q (tx [c]) H):CK K (tx a) (.int i) H Q:= .inl ⟨a,i,c,rfl,rfl,b,d,h⟩
def AL{p:Addr}(a:SqL K H p xs)(b:atI xs i=some v)(h:Q v H):CK K (.ref p) (.int i) H Q:= .inr (.inl ⟨p,xs,i,v,rfl,rfl,a,b,h⟩)
def A5{p:Addr}(a:SqT K H p xs)(b:atI xs i=some v)(h:Q v H):CK K (.ref p) (.int i) H Q:= .inr (.inr ⟨p,xs,i,v,rfl,rfl,a,b,h⟩)
def V1{tl th:TO}(h:te σ H λx a=>tl σ a λl b=>th σ b λu d=>r x l u d Q):tSl r te tl th σ H Q:=h
def QZ{R:Option Int->Hp->Prop}(h:R none H):tNoPart σ H R:=h
def Te{t:TE}{R:Option Int->Hp->Prop}(h:t σ H λx a=>∃i,x= .int i/\R (some i) a):Lc t σ H R:=h
def Rg{R:Int->Prop}(h:R i):∃j,V.int i=V.int j/\R j:=⟨i,rfl,h⟩
def Li{a:List Nat}(b:a.length<=sizeLine)(h:Q (tx (Bs a lo hi)) H):HP K (tx a) lo hi H Q:= .inl ⟨a,rfl,b,h⟩
def HB{p:Addr}(a:SqL K H p xs)(h:∀r,H r=none->Q (.ref r) (upd H r (.lst (DO xs lo hi)))):HP K (.ref p) lo hi H Q:= .inr ⟨p,xs,rfl,a,h⟩
def K3{a:List Nat}(b:a.length<=sizeLine)(h:Q (.int a.length) H):FO K [tx a] H Q:= .inl ⟨a,rfl,b,h⟩
def A7{p:Addr}(a:SqL K H p ys\/SqT K H p ys)(h:Q (.int ys.length) H):FO K [.ref p] H Q:= .inr ⟨p,ys,rfl,a,h⟩
def EJ{bs:List Bool}(b:SqL K H a (bs.map V.bl))(h:Q (.bl (bs.all id)) H):MT K [.ref a] H Q:=⟨a,bs,rfl,b,h⟩
def BP{t:Value}{b:Bool}(ty:TyOf K H x t)(e:W.kitOne K t (.type T)=some b)(h:Q (.bl b) H):HQ K [x, .ty T] H Q:=⟨x,T,t,b,rfl,ty,e,h⟩
def VY(h:Q (.int (if j>i then j else i)) H):rMax [.int i, .int j] H Q:=⟨i,j,rfl,h⟩
def UA{k:Bool}(h:Q (.int (if k then 1 else 0)) H):rInt [.bl k] H Q:= .inr ⟨k,rfl,h⟩
def WC{r:V->List V->Hp->VK->Prop}(h:to σ H λx a=>tyV K T x a/\t σ a λb d=>r x b d Q):tBM K T r to t σ H Q:=h
def Vl{r:V->List V->Hp->VK->Prop}(h:to σ H λx a=>tyV K T x a/\r x [] a Q):HM K T r to σ H Q:=h
end
section
variable{g:TG}{tb:TS}{D:Ends}
def Bu(J:W4)(g:TG)(tb:TS)(D:Ends)(σ:W3)(H:Hp):Prop:=∃W:Nat->Nat->W3->Hp->Prop,(∃m,W 0 m σ H)/\∀i m σ H,W i m σ H->
 (J.stop i H/\D.nx σ H)\/(J.go i H/\∃N:W3->Hp->Prop,(∀σ' a,N σ' a->∃b,b<m/\W (i+1) b σ' a)/\∀x a,J.yld i H x a->g x σ a λσ2 d=>tb {D with nx:=N,ct:=N,bk:=D.nx} σ2 d)
def Vd(h:wi σ H λJ a=>Bu J g tb D σ a):MJ wi g tb D σ H:=h
def Rp{R:W4->Hp->Prop}(h:ta σ H λvs a=>∃j:Int,vs=[.int j]/\ -(2^62)<=j/\j<2^62/\R (Itr 0 j.toNat) a):Lx ta σ H R:=h
def Rr{R:W4->Hp->Prop}(h:tl σ H λx b=>∃a,x= .ref a/\(∃d,SqL K b a d)/\R (Itl K a) b):HI K tl σ H R:=h
def Tz{R:W4->Hp->Prop}(h:tl σ H λx a=>∃z,x= .str z/\R (Its z) a):MX tl σ H R:=h
def Rm{a:List Nat}{R:Str->Prop}(h:R ⟨a.toArray⟩):∃z,tx a= .str z/\R z:=⟨_,rfl,h⟩
def UB{R:W4->Hp->Prop}(h:ta σ H λvs a=>∃z,vs=[.str z]/\R (Dl z) a):MZ ta σ H R:=h
def Ru{a:List Nat}{R:Str->Prop}(h:R ⟨a.toArray⟩):∃z,[tx a]=[.str z]/\R z:=⟨_,rfl,h⟩
def UC{R:W4->Hp->Prop}(h:ta σ H λvs b=>∃a,vs=[.ref a]/\(∃d,SqL K b a d)/\R (HY K a) b):HU K ta σ H R:=h
def Ss{lo:Int}(Pv:Nat->W3->Hp->Prop)(h0:Pv 0 σ H)
 (a:∀i σ H,i<n->Pv i σ H->g (.int (lo+i)) σ H λσ2 b=>tb {D with nx:=Pv (i+1),ct:=Pv (i+1),bk:=D.nx} σ2 b) (hd:∀σ H,Pv n σ H->D.nx σ H):Bu (Itr lo n) g tb D σ H:=Py Pv h0 a hd
theorem Su(Pv:Nat->W3->Hp->Prop)(h0:Pv 0 σ H)(b:∀i σ H,i<=xs.length->Pv i σ H->SqL K H a xs)
 (d:∀i x σ H,xs[i]? =some x->Pv i σ H->g x σ H λσ2 e=>tb {D with nx:=Pv (i+1),ct:=Pv (i+1),bk:=D.nx} σ2 e) (hd:∀σ H,Pv xs.length σ H->D.nx σ H):Bu (Itl K a) g tb D σ H:=RD Pv h0 b d hd
def FC{J:W4}(Pv:Nat->W3->Hp->Prop)(h0:Pv 0 σ H)(d:∀i σ H,i<n->Pv i σ H->J.go i H)(h:∀σ H,Pv n σ H->J.stop n H)
 (j:∀i x σ H b,i<n->Pv i σ H->J.yld i H x b->g x σ b λσ2 l=>tb {D with nx:=Pv (i+1),ct:=Pv (i+1),bk:=D.nx} σ2 l) (hd:∀σ H,Pv n σ H->D.nx σ H):Bu J g tb D σ H:=by
 refine⟨λi m σ H=>m=n-i/\i<=n/\Pv i σ H,⟨n,by simp,Nat.zero_le _,h0⟩,?_⟩;rintro i m σ H ⟨rfl,q,p⟩
 by_cases a:i<n
 ·exact .inr ⟨d i σ H a p,Pv (i+1),λσ' b o=>⟨n-(i+1),by lia,rfl,a,o⟩,λx b y=>j i x σ H b a p y⟩
 ·have e:i=n:=by lia
  subst e;exact .inl ⟨h σ H p,hd σ H p⟩
def Sr{a:List Nat}(Pv:Nat->W3->Hp->Prop)(h0:Pv 0 σ H)
 (d:∀i c σ H,a[i]? =some c->Pv i σ H->g (tx [c]) σ H λσ2 h=>tb {D with nx:=Pv (i+1),ct:=Pv (i+1),bk:=D.nx} σ2 h) (hd:∀σ H,Pv a.length σ H->D.nx σ H):Bu (Its ⟨a.toArray⟩) g tb D σ H:=by
 refine FC (n:=a.length) Pv h0 (λi σ H b _=>by simpa[Its]using b) (λσ H _=>by simp[Its]) (λi x σ H j b p y=>?_) hd;obtain⟨rfl,c,e,rfl⟩:=y;exact d i c σ j (by simpa using e) p
def Sv{a:List Nat}(Pv:Nat->W3->Hp->Prop)(h0:Pv 0 σ H)
 (d:∀i c σ H T,a[i]? =some c->H T=none->Pv i σ H->g (.ref T) σ (upd H T (.tup [.int i,tx [c]])) λσ2 h=>tb {D with nx:=Pv (i+1),ct:=Pv (i+1),bk:=D.nx} σ2 h) (hd:∀σ H,Pv a.length σ H->D.nx σ H):Bu (Dl ⟨a.toArray⟩) g tb D σ H:=by
 refine FC (n:=a.length) Pv h0 (λi σ H b _=>by simpa[Dl]using b) (λσ H _=>by simp[Dl]) (λi x σ H l b p y=>?_) hd;obtain⟨T,c,j,e,rfl,rfl⟩:=y;exact d i c σ H T (by simpa using e) j p
def CW(D:Addr)(n:Nat)(Pv:Nat->List V->Hp->Prop)(i m:Nat)(H:Hp):Prop:=m=n-i/\i<=n/\∃a,H D=some (.lst a)/\a.length<=i/\Pv i a H
def BF(J:W4)(own:List Str)(sel:List Nat)(σ:W3)(g:TG)(p:TT)(te:TE)(Q:VK)(h:Hp):Prop:=∀D,h D=none->
 ∃W:Nat->Nat->Hp->Prop,(∃m,W 0 m (upd h D (.lst [])))/\∀i m a,W i m a->
  (J.stop i a/\Q (.ref D) a)\/(J.go i a/\∀x j,J.yld i a x j->g x (AV own sel σ) j λσ4 q=>p σ4 q λb l=>
    if b=true then te σ4 l λv o=>∃e,o D=some (.lst e)/\e.length<sizeLine/\∃d,d<m/\W (i+1) d (upd o D (.lst (e++[v])))
    else∃d,d<m/\W (i+1) d l)
def UP(h:wi σ H λJ a=>BF J own sel σ g tt te Q a):FG own sel wi g tt te σ H Q:=h
def CS{J:W4}(Pv:Addr->Nat->List V->Hp->Prop)(h0:∀D,H1 D=none->Pv D 0 [] (upd H1 D (.lst [])))
 (o:∀D i a H,H1 D=none->i<n->H D=some (.lst a)->Pv D i a H->J.go i H) (q:∀D a H,H1 D=none->H D=some (.lst a)->a.length<=n->Pv D n a H->J.stop n H/\Q (.ref D) H)
 (L:∀D i a H x j,H1 D=none->i<n->H D=some (.lst a)->a.length<=i->Pv D i a H->J.yld i H x j->g x (AV own sel σ) j λσ4 M=>tt σ4 M λb B=>
   if b=true then te σ4 B λv G=>∃a,G D=some (.lst a)/\a.length<sizeLine/\∃d,d<n-i/\CW D n (Pv D) (i+1) d (upd G D (.lst (a++[v])))
   else∃d,d<n-i/\CW D n (Pv D) (i+1) d B):BF J own sel σ g tt te Q H1:=by
 intro D l;refine⟨CW D n (Pv D),⟨n,by simp,Nat.zero_le _,[],AF,Nat.le_refl _,h0 D l⟩,?_⟩;rintro i m r ⟨rfl,P,a,z,I,p⟩
 by_cases h:i<n
 ·exact .inr ⟨o D i a r l h z p,λx j y=>L D i a r x j l h z I p y⟩
 ·have e:i=n:=by lia
  subst e;exact .inl (q D a r l z I p)
def B6{D:Addr}{i:Nat}(b:i<n)(e:n<=sizeLine)(d:H D=some (.lst ys))(h:ys.length<=i)(p:Pv (i+1) (ys++[v]) (upd H D (.lst (ys++[v])))):
 ∃ys,H D=some (.lst ys)/\ys.length<sizeLine/\∃a,a<n-i/\CW D n Pv (i+1) a (upd H D (.lst (ys++[v]))):=
 ⟨ys,d,by lia,n-(i+1),by lia,rfl,b,ys++[v],AF,by simp;lia,p⟩
def Fq{D:Addr}{i:Nat}(b:i<n)(d:H D=some (.lst ys))(e:ys.length<=i)(p:Pv (i+1) ys H):
 ∃a,a<n-i/\CW D n Pv (i+1) a H:=⟨n-(i+1),by lia,rfl,b,ys,d,by lia,p⟩
def Lh(h:R true H):tYes σ H R:=h
end
def small(h:n<=1000):n<=sizeLine:=Nat.le_of_lt (DQ h)
def AK{p:Addr}(h:H p=none)(o:HO):Same H (upd H p o):=λb u q=>by rw[AH (AM q h)];exact q
def SameBut1(p:Addr)(H a:Hp):Prop:=∀b o,H b=some o->b≠p->a b=some o
def SameBut1.refl(p:Addr)(H:Hp):SameBut1 p H H:=λ_ _ h _=>h
def SameBut1.trans{p:Addr}{H2:Hp}(a:SameBut1 p H H1)(b:SameBut1 p H1 H2):SameBut1 p H H2:=λc o h n=>b c o (a c o h n) n
def SameBut1.of{p:Addr}(a:Same H H'):SameBut1 p H H':=λc o h _=>a c o h
def SameBut1.upd{p:Addr}{o:HO}:SameBut1 p H (upd H p o):=λc u h n=>by rw[AH n];exact h
def Kp(osc:Scope)(N:List Str)(own:List Str)(sel:List Nat)(scope:Scope):Bool:=
 (scope.kind== .function)&&scope.names.all (λy=>y.2 != .cell)&&scope.names.all (λy=>y.2 != .local||scope.names.lookup y.1==some .local)&&
 scope.names.all (λy=>y.2 != .free||osc.names.lookup y.1==some .cell||osc.names.lookup y.1==some .free)&&
 sel.all (λj=>decide (j<N.length)&&scope.names.lookup (N.getD j Str.empty)==some .free&&(osc.names.lookup (N.getD j Str.empty)==some .cell||osc.names.lookup (N.getD j Str.empty)==some .free))
def P7{osc:Scope}{N:List Str}(h:Kp osc N own sel scope=true):CompOk osc N own sel scope:=by
 unfold Kp at h;simp only[Bool.and_eq_true,List.all_eq_true]at h;obtain⟨⟨⟨⟨b,d⟩,i⟩,l⟩,o⟩:=h;refine⟨by simpa using b,λy a=>by simpa using d y a,λy a e=>?_,λy a e=>?_,λj p=>?_⟩
 ·have:=i y a;simp only[Bool.or_eq_true,bne_iff_ne,beq_iff_eq]at this;rcases this with q|q
  ·exact absurd e q
  ·exact q
 ·have:=l y a;simp only[Bool.or_eq_true,bne_iff_ne,beq_iff_eq]at this;rcases this with(q|q)|q
  ·exact absurd e q
  ·exact .inl q
  ·exact .inr q
 ·have:=o j p;simp only[Bool.or_eq_true,beq_iff_eq,decide_eq_true_eq]at this;exact⟨this.1.1,this.1.2,this.2⟩
def Dc(x:α)(r:List α):atI (x::r) 0=some x:=by simp[atI,ixN]
def Bh{p:Addr}{k:Int}{j:Nat}{R:Hp->Prop}(h:H p=some (.lst xs))(e:ixN xs.length k=some j)(q:R (upd H p (.lst (xs.set j v)))):rSetL (.ref p) (.int k) v H R:=⟨p,xs,k,j,rfl,rfl,h,e,q⟩
def WN(Pv:W3->Hp->Prop)(μ:W3->Hp->Nat)(m:Nat):W3->Hp->Prop:=λσ' a=>Pv σ' a/\μ σ' a<m
def JG{c:TT}{tb:TS}{D:Ends}(Pv:W3->Hp->Prop)(μ:W3->Hp->Nat)(h0:Pv σ H)
 (i:∀σ H,Pv σ H->c σ H λb d=>if b=true then∃N:W3->Hp->Prop,(∀σ' a,N σ' a->∃h,h<μ σ H/\(h=μ σ' a/\Pv σ' a))/\tb {D with nx:=N,ct:=N,bk:=D.nx} σ d else D.nx σ d):Kw c tb D σ H:=
 ⟨λm σ H=>m=μ σ H/\Pv σ H,⟨_,rfl,h0⟩,λm σ H ⟨e,p⟩=>by subst e;exact i σ H p⟩
def RT{tb:TS}{D:Ends}{Pv:W3->Hp->Prop}{m:Nat}(h:tb {D with nx:=WN Pv μ m,ct:=WN Pv μ m,bk:=D.nx} σ H1):
 ∃N:W3->Hp->Prop,(∀σ' a,N σ' a->∃b,b<m/\(b=μ σ' a/\Pv σ' a))/\tb {D with nx:=N,ct:=N,bk:=D.nx} σ H1:=
 ⟨WN Pv μ m,λσ' a ⟨p,l⟩=>⟨_,l,rfl,p⟩,h⟩
def OK{u:Value}(h:FU u=some x):RelV x u:=by
 cases u<;>first
  |(cases h;rfl)
  |(cases h;exact⟨_,rfl⟩)
  |(exact absurd h (by intro z;cases z))
def Gz(its:Array Value)(xs:List V):Bool:=decide (its.toList.map FU=xs.map some)
theorem Hm:∀ {a:List V} {us:List Value},us.map FU=a.map some->Vals a us
 |[],[],_=> .nil
 |x::a,u::us,h=>by
  rw[List.map_cons,List.map_cons]at h;injection h with b d
  exact .cons (OK b) (Hm d)
 |[],_::_,h=>by cases h
 |_::_,[],h=>by cases h
def IC(h:Gz its xs=true):Vals xs its.toList:=Hm (of_decide_eq_true h)
def OE(h:Gz its xs=true)(a:xs.length<=1000):its.size<=sizeLine:=by
 have e:=(IC h).length;have b:its.toList.length=its.size:=by simp
 exact Nat.le_of_lt (DQ (by lia))
def Rn{y:V}(a:Di y=true)(h:Q (.bl (!decide (x=y))) H):rIsNotA x y H Q:=⟨a,h⟩
def ifd{c:Prop}[Decidable c](a:c->A)(b:¬c->B):if decide c=true then A else B:=by
 by_cases h:c
 ·rw[if_pos (decide_eq_true h)];exact a h
 ·rw[if_neg (by rw[decide_eq_false h];exact Bool.false_ne_true)];exact b h
def ifn{c:Prop}[Decidable c](a:¬c->A)(b:c->B):if(!decide c)=true then A else B:=by
 by_cases h:c
 ·rw[if_neg (by rw[decide_eq_true h];exact Bool.false_ne_true)];exact b h
 ·rw[if_pos (by rw[decide_eq_false h];rfl)];exact a h
def ifp(a:c=true)(h:A):if c=true then A else B:=by rw[if_pos a];exact h
def ifq(a:c=false)(h:B):if c=true then A else B:=by rw[if_neg (by rw[a];exact Bool.false_ne_true)];exact h
def RQ{k:Int}(h0:0<=k)(h:k<(ns.length:Int)):∃v:Int,atI (ns.map V.int) k=some (.int v):=by
 have hk:k.toNat<ns.length:=by lia
 have a:k=((k.toNat:Nat):Int):=by lia
 have q:atI (ns.map V.int) ((k.toNat:Nat):Int)=some (.int ns[k.toNat]):=Ab (by rw[List.getElem?_map,List.getElem?_eq_getElem hk];rfl);rw[<-a]at q;exact⟨_,q⟩
end L2
namespace BrM
variable{d w:Nat}{Q:VK}{E:XK}
def opn:List Nat:=[40,91,123,60]
def cls:List Nat:=[41,93,125,62]
def clo(c:Nat):Nat:=if c=40 then 41 else if c=91 then 93 else if c=123 then 125 else 62
def stp(st:List Nat)(c:Nat):Option (List Nat):=
 if c∈opn then some (clo c::st)else match st with
  |d::r=>if c=d then some r else none
  |[]=>none
def run:List Nat->List Nat->Option (List Nat)
 |st,[]=>some st
 |st,c::r=>(stp st c).bind λs=>run s r
def IG(st a b:List Nat):run st (a++b)=(run st a).bind λs=>run s b:=by
 induction a generalizing st with
 |nil=>rfl
 |cons c r d=>
  show(stp st c).bind _=((stp st c).bind _).bind _
  cases stp st c with
  |none=>rfl
  |some s=>exact d s
def Qd{st s:List Nat}(h:run st a=some s)(c:Nat):run st (a++[c])=stp s c:=by
 rw[IG,h];show(stp s c).bind (λs=>some s)=stp s c
 cases stp s c<;>rfl
def QQ(h:c∈opn)(st:List Nat):stp st c=some (clo c::st):=by unfold stp;rw[if_pos h]
def O0(h:d∉opn)(r:List Nat):stp (d::r) d=some r:=by unfold stp;rw[if_neg h];simp
def Rt(row:List Nat):Prop:=run [] row=some []
def Ju(c:α)(r:List α):Bs (c::r) (some 1) none=r:=by
 unfold Bs;have a:HT.sIx (c::r).length 0 (some 1)=1:=by
  show HT.sIx (r.length+1) 0 (some ((1:Nat):Int))=1;rw[HT.sIx_nat];lia
 have b:HT.sIx (c::r).length (c::r).length none=r.length+1:=rfl;rw[a,b];simp
def sg(c:Nat):Int:=if c∈opn then 1 else -1
def hg:List Nat->Int
 |[]=>0
 |c::r=>sg c+hg r
def Pu(a b:List Nat):hg (a++b)=hg a+hg b:=by
 induction a with
 |nil=>simp[hg]
 |cons c r d=>rw[List.cons_append,hg,hg,d];lia
def ht(a:List Nat)(i:Nat):Int:=hg (a.take i)
def Kl(h:a[i]? =some c):ht a (i+1)=ht a i+sg c:=by
 unfold ht;rw[List.take_add_one,h,Pu];show _=hg _+sg c;simp[hg]
def Ra{st s:List Nat}(h:stp st c=some s):(s.length:Int)=st.length+sg c:=by
 unfold stp at h;unfold sg
 by_cases a:c∈opn
 ·rw[if_pos a]at h⊢
  cases h
  simp
 ·rw[if_neg a]at h⊢
  cases st with
  |nil=>cases h
  |cons d r=>
   simp only at h
   split at h
   ·cases h;simp;lia
   ·cases h
def R6{st s:List Nat}(h:run st a=some s):(s.length:Int)=st.length+hg a:=by
 induction a generalizing st with
 |nil=>cases h;simp[hg]
 |cons c r d=>
  have b:(stp st c).bind (λs=>run s r)=some s:=h
  cases e:stp st c with
  |none=>rw[e]at b;cases b
  |some i=>
   rw[e]at b;have:=d b;have:=Ra e;rw[hg];lia
def Qc{s:List Nat}(h:run [] a=some s)(i:Nat):∃st,run [] (a.take i)=some st:=by
 have e:a=a.take i++a.drop i:=(List.take_append_drop i a).symm;rw[e,IG]at h
 cases q:run [] (a.take i)with
 |none=>rw[q]at h;cases h
 |some st=>exact⟨st,rfl⟩
def HJ{st:List Nat}(h:run [] (a.take i)=some st):ht a i=st.length:=by
 have:=R6 h;unfold ht;simp at this;lia
def Pr(a:List Nat)(x y:Nat):Prop:=x<y/\y<a.length/\ht a (y+1)=ht a x/\∀m,x<m->m<=y->ht a x<ht a m
def IsPart(a:List Nat)(xs:List V):Prop:=xs.length=a.length/\∀k,k<a.length->∃p:Nat,xs[k]? =some (.int p)/\(Pr a k p\/Pr a p k)
inductive WS (a:List Nat) (i:Nat):List Nat->List Nat->Prop where
 |nil:WS a i [] []
 |cons {w c:Nat} {ws st:List Nat}:w<i->a[w]? =some c->c∈opn->ht a w=ws.length->(∀m,w<m->m<=i->ht a w<ht a m)->WS a i ws st->WS a i (w::ws) (clo c::st)
def WS.len{ws st:List Nat}(h:WS a i ws st):ws.length=st.length:=by
 induction h with
 |nil=>rfl
 |cons _ _ _ _ _ _ b=>simp[b]
def WS.ext{ws st:List Nat}(h:WS a i ws st)(d:(ws.length:Int)<=ht a (i+1)):WS a (i+1) ws st:=by
 induction h with
 |nil=>exact .nil
 |cons v j l o p _ q=>
  simp only[List.length_cons]at d;refine .cons (by lia) j l o (λm b r=>?_) (q (by lia))
  by_cases e:m=i+1
  ·subst e;lia
  ·exact p m b (by lia)
structure MI (a:List Nat) (i:Nat) (st ws:List Nat) (xs:List V):Prop where
 rn:run [] (a.take i)=some st
 wk:WS a i ws st
 len:xs.length=a.length
 don:∀k,k<i->k∈ws\/∃p:Nat,xs[k]? =some (.int p)/\(Pr a k p\/Pr a p k)
def MI.start(a:List Nat)(h:xs.length=a.length):MI a 0 [] [] xs:=⟨rfl, .nil,h,λk z=>by lia⟩
def Fy{st:List Nat}(h:run [] (a.take i)=some st)(b:a[i]? =some c):run [] (a.take (i+1))=stp st c:=by
 rw[List.take_add_one,b];exact Qd h c
def MI.opens{st ws:List Nat}(m:MI a i st ws xs)(b:a[i]? =some c)(d:c∈opn):MI a (i+1) (clo c::st) (i::ws) xs:=by
 have h:ht a (i+1)=ht a i+1:=by rw[Kl b];unfold sg;rw[if_pos d]
 have j:=HJ m.rn;have l:=m.wk.len;refine⟨by rw[Fy m.rn b,QQ d], .cons (by lia) b d (by lia) (λk o p=>?_) (m.wk.ext (by lia)),m.len,λk hk=>?_⟩
 ·have:k=i+1:=by lia
  subst this;lia
 ·by_cases e:k=i
  ·subst e;exact .inl List.mem_cons_self
  ·rcases m.don k (by lia)with z|z
   ·exact .inl (List.mem_cons_of_mem _ z)
   ·exact .inr z
def MI.top{st:List Nat}{ws:List Nat}(m:MI a i st (w::ws) xs):∃c r,a[w]? =some c/\c∈opn/\st=clo c::r/\w<i:=by
 have h:=m.wk
 cases h with
 |cons b d e j l o=>exact⟨_,_,d,e,rfl,b⟩
def MI.closes{r:List Nat}{ws:List Nat}(m:MI a i (c::r) (w::ws) xs)(d:a[i]? =some c)(e:c∉opn):MI a (i+1) r ws ((xs.set w (.int i)).set i (.int w)):=by
 have I:ht a (i+1)=ht a i-1:=by rw[Kl d];unfold sg;rw[if_neg e];lia
 have v:=HJ m.rn;have x:=m.wk.len;have j:i<a.length:=(List.getElem?_eq_some_iff.mp d).1;have h:=m.wk
 cases h with
 |cons y J L M B G=>
  simp only[List.length_cons]at v x;have l:Pr a w i:=⟨y,j,by lia,B⟩;have b:=m.len;refine⟨?_,G.ext (by lia),by simp[m.len],λk hk=>?_⟩
  ·rw[Fy m.rn d];exact O0 e r
  ·by_cases H:k=i
   ·subst H;exact .inr ⟨w,by simp[b,j], .inr l⟩
   ·by_cases o:k=w
    ·subst o;refine .inr ⟨i,?_, .inl l⟩;rw[List.getElem?_set_ne (by lia),List.getElem?_set_self (by lia)]
    ·rcases m.don k (by lia)with z|⟨p,z,q⟩
     ·rcases List.mem_cons.mp z with z|z
      ·exact absurd z o
      ·exact .inl z
     ·exact .inr ⟨p,by rw[List.getElem?_set_ne (by lia),List.getElem?_set_ne (by lia)];exact z,q⟩
def MI.fin{ws:List Nat}(m:MI a a.length [] ws xs):IsPart a xs:=by
 have h:=m.wk
 cases h
 refine⟨m.len,λk hk=>?_⟩;rcases m.don k hk with z|z
 ·cases z
 ·exact z
def Bf:List String:=["NoneType","bool","int","str","list","tuple","dict"]
inductive spWhole (K:W.Frag) (vs:List V) (H:Hp) (Q:VK) (E:XK):Prop
 |mk (x T:_) (_:vs=[x]) (_:TyOf K H x (.type T)) (_:T∈Bf) (_:Q (.bl (decide (T="int"))) H)
def IS{i:Int}(q:Q (.bl true) H):spWhole K ([.int i]++[]) H Q E:=⟨.int i,"int",rfl, .int i,by decide,q⟩
inductive spKinds (vs:List V) (H:Hp) (Q:VK) (E:XK):Prop
 |mk (k:_) (_:vs=[.int k]) (_:1<=k) (_:k<=4) (_:Q .non H)
def Ii{k:Int}(a:1<=k)(b:k<=4)(q:Q .non H):spKinds ([.int k]++[]) H Q E:=⟨k,rfl,a,b,q⟩
def sgn(k:Int):List Nat:=opn.take k.toNat++cls.take k.toNat++[63]
def AZ(k:Int)(a:List Nat):Bool:=decide (a.length<=40)&&a.all λc=>decide (c∈sgn k)
inductive spLine (K:W.Frag) (vs:List V) (H:Hp) (Q:VK) (E:XK):Prop
 |mk (k x:_) (_:vs=[.int k,x]) (_:1<=k) (_:k<=4) (_:((∃a,x=tx a/\a.length<=1000/\∀H',Same H H'->Q (.bl (AZ k a)) H')\/(∃T,TyOf K H x (.type T)/\T∈Bf/\T≠"str"/\Q (.bl false) H)))
def Jg{k:Int}(d:1<=k)(e:k<=4)(h:a.length<=1000)(q:∀b,Same H b->Q (.bl (AZ k a)) b):spLine K ([.int k,tx a]++[]) H Q E:=⟨k,_,rfl,d,e, .inl ⟨a,rfl,h,q⟩⟩
inductive spCheckLine (vs:List V) (H:Hp) (Q:VK) (E:XK):Prop
 |mk (k a:_) (_:vs=[.int k,tx a]) (_:1<=k) (_:k<=4) (_:AZ k a=true) (_:∀H',Same H H'->Q .non H')
def B4{k:Int}(d:1<=k)(e:k<=4)(h:AZ k a=true)(q:∀b,Same H b->Q .non b):spCheckLine ([.int k,tx a]++[]) H Q E:=⟨k,a,rfl,d,e,h,q⟩
instance (a:List Nat):Decidable (Rt a):=by unfold Rt;infer_instance
inductive spMatched (vs:List V) (H:Hp) (Q:VK) (E:XK):Prop
 |mk (a:_) (_:vs=[tx a]) (_:a.length<=40) (_:(Rt a->∀r xs H',H r=none->Same H H'->H' r=some (.lst xs)->IsPart a xs->Q (.ref r) H')) (_:(¬Rt a->∀H',Same H H'->Q .non H'))
def N1(e:a.length<=40)(q:Rt a->∀r d b,H r=none->Same H b->b r=some (.lst d)->IsPart a d->Q (.ref r) b)(h:¬Rt a->∀b,Same H b->Q .non b):spMatched ([tx a]++[]) H Q E:=⟨a,rfl,e,q,h⟩
inductive spRightP (vs:List V) (H:Hp) (Q:VK) (E:XK):Prop
 |mk (k a:_) (_:vs=[.int k,tx a]) (_:1<=k) (_:k<=4) (_:AZ k a=true) (_:∀H',Same H H'->Q (.bl (decide (Rt a))) H')
def IH{k:Int}(d:1<=k)(e:k<=4)(h:AZ k a=true)(q:∀b,Same H b->Q (.bl (decide (Rt a))) b):spRightP ([.int k,tx a]++[]) H Q E:=⟨k,a,rfl,d,e,h,q⟩
inductive spLaw (K:W.Frag) (vs:List V) (H:Hp) (Q:VK) (E:XK):Prop
 |mk (a:Addr) (ns:List Int) (_:vs=[.ref a]) (_:SqL K H a (ns.map V.int)) (_:ns.length<=63) (_:∀H',Q (.bl true) H')
def BH{k:Int}(h:AZ k a=true):a.length<=40:=by
 unfold AZ at h;simp only[Bool.and_eq_true,decide_eq_true_eq]at h;exact h.1
def DW(xs:List α){k:Int}(h:0<=k):Bs xs none (some k)=xs.take k.toNat:=by
 unfold Bs;obtain⟨n,rfl⟩:∃n:Nat,k=n:=⟨k.toNat,by lia⟩;rw[HT.sIx_nat,HT.sIx_none,List.drop_zero,Nat.sub_zero,Int.toNat_natCast];rcases Nat.le_total n xs.length with z|z
 ·rw[Nat.min_eq_left z]
 ·rw[Nat.min_eq_right z,List.take_length,List.take_of_length_le z]
def Q6(b:c∈opn):inV (tx [c,d]) [tx [40,41],tx [91,93],tx [123,125],tx [60,62]]=decide (d=clo c):=by
 have e:inV (tx [c,d]) [tx [40,41],tx [91,93],tx [123,125],tx [60,62]]=(decide ([40,41]=[c,d])||(decide ([91,93]=[c,d])||(decide ([123,125]=[c,d])||(decide ([60,62]=[c,d])||false)))):=by
  unfold inV;simp only[List.any_cons,List.any_nil,FD]
 rw[e];have a:c=40\/c=91\/c=123\/c=60:=by simpa[opn]using b
 rcases a with rfl|rfl|rfl|rfl<;>simp[clo,eq_comm]
def Vu(x:α)(n:Nat):(List.replicate n [x]).flatten=List.replicate n x:=by
 induction n with
 |zero=>rfl
 |succ n a=>rw[List.replicate_succ,List.flatten_cons,a];rfl
end BrM
open BrM
namespace L2
variable{f x:Addr}{g:Array GenState}{b:Bool}{pins':List (Addr×Obj)}{cs:List Addr}{l:List Env}{ob:Obj}{v:Option Value}{Q:Option Value->Shared->Prop}{os:OsState}{s':Shared}{a0 cdv e:Value}{E' xe:Value->Shared->Prop}{E:XK}
abbrev E2:List Value:=[.type "ValueError", .type "Exception", .type "BaseException", .type "object"]
structure ECls (K:W.Frag) (C:Addr):Prop where
 ex:W.excIn K C E2 "ValueError.__new__"=true
 ty:W.typeIn K (.ref C)=some (.type "type")
 cs:∃cd,W.clsIn K C=some cd
 bs:W.mroIn K C (.type "BaseException")=some true
 ob:W.mroIn K C (.type "object")=some true
 ga:W.findIn K (.ref C) "__getattribute__"=some (some (.builtin "BaseException.__getattribute__"))
 gk:W.findIn K (.ref C) "__getattr__"=some none
 ca:W.findIn K (.ref C) "__class__"=some (some (.builtin "object.__class__"))
 cn:W.specialIn K (.builtin "object.__class__") "__get__"=some (some (.builtin "getset_descriptor.__get__"))
 ct:W.takesIn K (.builtin "object.__class__")=some true
def ExcAt(x C:Addr)(h:Heap):Prop:=∃o vs,h.get? x=some o/\o.cls= .ref C/\o.data= .fields vs
def ExcAt.type(e:ExcAt x C h):W.Looks M h (typeOf (.ref x)) (.ref C):=by
 obtain⟨o,vs,a,b,_⟩:=e;exact b▸(W.Looks.ld a).andThen .now
section
variable{E:Value->Shared->Prop}{s:Shared}
open Builtin Builtin.ObjectAttr Builtin.Getset_descriptor in
def U7{tp:Value}(Z:ECls K C)(X:K.In s.heap)(e:ExcAt x C s.heap)(h:R (.ok (.ret (.ref C))) s):
 codeAny (model prog w) A (.call (.builtin "getset_descriptor.__get__") ⟨[.builtin "object.__class__", .ref x,tp],[]⟩) R s:=by
 obtain⟨a,b,d,i,os⟩:=s;have La:=e.type (M:=model prog w);have Lb:=W.looks_mroIn (M:=model prog w) X Z.ob;refine codeAny_call_builtin W.KF.slot_gs.plain W.KF.entry_gs (W.KF.slot_gs.check _ _ _ _ _ _ _ _ W.KF.type_class (W.KF.args_gs _ _ _) ?_);unfold Builtin.«getset_descriptor.__get__» descrGet;rw[W.dga_obj];refine wpAny_bind (wpAny_pure ?_);unfold descrGetter descrCheckInstance descrNameAndClass isInstance;simp only[W.KF.owner_class];repeat lk
 refine⟨Code.quiet_builtin _ (by decide +kernel),codeAny_builtin W.KF.entry_class ?_⟩;unfold Builtin.«object.__class__» shownTypeOf;repeat lk
 exact h
open Builtin Builtin.ObjectAttr in
def RG(Z:ECls K C)(X:K.In h):W.Looks M h (find (.ref x) (.ref C) "__class__") (.bind (.builtin "getset_descriptor.__get__") (.builtin "object.__class__")):=by
 have a:=W.looks_findIn (M:=M) X Z.ca;have L2:W.Looks M h (getOf (some (.builtin "object.__class__"))) (some (.builtin "getset_descriptor.__get__")):=W.looks_specialIn X Z.cn;have b:=W.looks_takesIn (M:=M) X Z.ct;refine a.andThen (L2.andThen ?_);exact(show W.Looks M h (dataDescriptor? (some (.builtin "object.__class__")) (some (.builtin "getset_descriptor.__get__"))) (some (_,_))from b.andThen .now).andThen (W.Looks.tag .now)
def U8{d:Drawn}{t:Nat}{tk:Tok}(Z:ECls K C)(X:K.In h)(e:ExcAt x C h)(j:R (.ok (.ret (.ref C))) ⟨h,g,d,t,os⟩):
 codeAny (model prog w) A (.call (.builtin "BaseException.__getattribute__") ⟨[.ref x, .str "__class__" tk],[]⟩) R ⟨h,g,d,t,os⟩:=by
 have i:=e.type (M:=model prog w);have l:=RG (x:=x) (M:=model prog w) Z X;have L2:=W.looks_mroIn (M:=model prog w) X Z.bs;have hk:builtinKind "BaseException.__getattribute__"=some .slot:=by decide +kernel
 have a:splitId "BaseException.__getattribute__"=some ("BaseException","__getattribute__"):=by decide +kernel
 have o:=F.args_bexc_ga (.ref x) (.str "__class__" tk);refine codeAny_call_builtin F.attr_ValueError.ga.plain F.entry_bexc_ga ?_;simp only[checkBuiltinCall,hk,a];refine wpAny_bind ?_;unfold isInstance;refine wpAny_bind (i.at (L2.at ?_));simp only[Bool.not_true,Bool.false_eq_true,if_false];have body:wpAny (model prog w) A.in1 (Builtin.«object.__getattribute__» ⟨[.ref x, .str "__class__" tk],[]⟩) (λfin b=>match fin with| .done f=>R (.ok f) b| .again c'=>c'.quiet=true/\codeAny (model prog w) A c' R b)
  (λe b=>R (.error e) b) ⟨h,g,d,t,os⟩:=by
  refine wpAny_bind (wpAny_pure (wpAny_bind (wpAny_pure (wpAny_bind (i.at (wpAny_bind (l.at ?_)))))));show wpAny _ _ (holding [_] (call (.builtin "getset_descriptor.__get__") [.builtin "object.__class__", .ref x, .ref C])>>=ret) _ _ _;exact wpAny_bind (wpAny_holding (wpAny_call (U7 (s:=⟨h,g,d,t,os⟩) Z X e (wpAny_pure j))))
 repeat(any_goals(first|assumption|wp_step))
def P3(Z:ECls K C)(X:K.In s.heap)(e:ExcAt x C s.heap)(h:Q (some (.ref C)) {s with toks:=s.toks+1}):wpAny (model prog w) A (getAttr? (.ref x) "__class__") Q E s:=by
 obtain⟨l,g,d,t,os⟩:=s;have b:=e.type (M:=model prog w);have i:=W.looks_findIn (M:=model prog w) X Z.ga;have L2:=W.looks_findIn (M:=model prog w) X Z.gk;have j:=F.attr_ValueError.ga.bind (.ref x);have a:(Value.builtin "BaseException.__getattribute__"==Value.builtin "object.__getattribute__")=false:=by decide +kernel
 unfold getAttr? getAttrBy? getAttrBy;refine wpAny_bind (wpAny_mkText (wpAny_bind (wpAny_attempt (wpAny_holding (wpAny_bind (b.at (wpAny_bind (i.at ?_))))))))
 dsimp only
 rw[if_neg (by rw[a];simp)];unfold getAttrByItsOwn hookBefore callGetattribute boundAndCalled;refine wpAny_bind (L2.at (wpAny_bind (wpAny_attempt (wpAny_holding ?_))));rw[if_neg (by simp)];rw[j];refine wpAny_bind (wpAny_pure (wpAny_call (U8 Z X e ?_)));exact W.handed_on rfl (wpAny_pure h)
def F8(Z:ECls K C):W.KitX K (.ref x) (.ref C) (ExcAt x C) where
 ty:=λ_ _ _ e=>e.type
 it:=λ_ _ X _=>by
  obtain⟨i,a⟩:=Z.cs;unfold W.clsIn at a
  split at a
  ·rename_i b
   intro l o p r k q;unfold isType loadHead;exact wpAny_bind (wpAny_loadPart (k _ _ (X _ _ b)) (wpAny_pure q))
  ·cases a
 ne:=λh tp v j n y X d=>by
  obtain⟨i,a⟩:=Z.cs;refine Bool.eq_false_iff.mpr λq=>?_;have e:C=tp:=Value.ref.inj (beq_iff_eq.mp q);subst e;unfold W.clsIn at a
  split at a
  ·rename_i b
   exact nomatch (X _ _ b).symm.trans d
  ·cases a
 ca:=λX e k=>P3 Z X e k
end
def BL(ob:Obj)(x C:Addr):HO:= .frz ob (.ext (ExcAt x C))
def ObjOk.here{a:Addr}{o:HO}(x:ObjOk P w H h a o):∃ob,h.get? a=some ob:=by
 cases o with
 |lst d=>obtain⟨_,_,_,_,e⟩:=x;exact⟨_,e⟩
 |tup d=>obtain⟨_,_,_,_,e,_⟩:=x;exact⟨_,e⟩
 |dK b=>obtain⟨_,_,_,_,_,_,_,e,_⟩:=x;exact⟨_,e⟩
 |dT b=>obtain⟨_,_,_,_,_,_,_,e,_⟩:=x;exact⟨_,e⟩
 |set S n=>obtain⟨_,_,_,_,e,_⟩:=x;exact⟨_,e⟩
 |ins C i fs=>obtain⟨_,_,_,e,_⟩:=x;exact⟨_,e⟩
 |own y=>exact x
 |xd fs=>obtain⟨_,⟨_,_,_,e,_⟩,_⟩:=x;exact⟨_,e⟩
 |rng j l=>obtain⟨_,_,_,e⟩:=x;exact⟨_,e⟩
 |frz ob u=>obtain⟨e,_⟩:=x;exact⟨_,e⟩
 |tbl ps=>exact⟨_,(show h.get? a=some _ from x)⟩
 |met f y=>exact⟨_,(show h.get? a=some _ from x)⟩
 |ext φ=>obtain⟨_,e,_⟩:=x;exact e
def U6(g:h.get? x=some ob)(e:ExcAt x C h):ObjOk P w H h x (BL ob x C):=by
 refine⟨g,e,?_,λd i p k=>?_⟩
 ·obtain⟨o,_,q,_⟩:=e;exact⟨o,q⟩
 ·obtain⟨o,vs,a,b⟩:=p;exact⟨o,vs,k _ a,b⟩
structure Aloft (P:Program) (w:World) (l:List Env) (H:Hp) (h:Heap) (x C:Addr) (a0:Value) (H':Hp) (B h':Heap):Prop where
 un:Un (frs l) [] H H' h h'
 ok:HOk P w H' B
 stay:∀b o,h.get? b=some o->H b=none->b∉frs l->B.get? b=some o
 here:∀b o,h.get? b=some o->b∉frs l->∃o',B.get? b=some o'
 fl:Heap.FlyingW B l x (.ref C) a0 h'
def CXE(P:Program)(w:World):CXT:=λouter H s E e a=>∃ (x C:Addr) (d:Value) (b:Hp) (B:Heap),e= .ref x/\a.os=s.os/\AllBare a.gens/\Aloft P w outer H s.heap x C d b B a.heap/\E (.ref C) (some x) b
abbrev XR:=Addr->Addr->W3->Hp->Prop
def xk(R:XR)(σ:W3):XK:=λc a b=>∃C x,c= .ref C/\a=some x/\R C x σ b
def XF(X:Cx)(R:XR)(e:Value)(a:Shared):Prop:=∃ (pins:List (Addr×Obj)) (σ:W3) (H:Hp) (s:Shared),Inv X pins σ H s/\CXE X.prog X.w X.stack H s (xk R σ) e a
def XM(X:Cx)(R:XR)(e:Value)(a:Shared):Prop:=∃ (pins:List (Addr×Obj)) (σ:W3) (H:Hp) (s:Shared) (x C:Addr) (args:List Value),e= .ref x/\Inv X pins σ H s/\Heap.MadeExcOf s.heap a.heap x (.ref C) args/\
 a.os=s.os/\AllBare a.gens/\R C x σ H
section
variable{h2 B:Heap}
def Aloft.newx(q:Aloft P w l H h x C a0 H' B h'):h.get? x=none:=by
 cases e:h.get? x with
 |none=>rfl
 |some o=>
  by_cases b:x∈frs l
  ·obtain⟨_,i,a,h2⟩:=q.fl.2.2.1.mem b;obtain⟨p,vs,d,_,j,_⟩:=q.fl.first;rw[a]at d;cases d;exact absurd j (h2 vs)
  ·obtain⟨i,a⟩:=q.here x o e b;rw[q.fl.2.1]at a;cases a
def Aloft.nox(q:Aloft P w l H h x C a0 H' B h'):H' x=none:=by
 cases e:H' x with
 |none=>rfl
 |some o=>
  obtain⟨ob,a⟩:=(q.ok x o e).here;rw[q.fl.2.1]at a;cases a
def Aloft.on(q:Aloft P w l H h x C a0 H' B h')(up:h'.UpToSlots h2)(fl:Heap.FlyingW B l x (.ref C) a0 h2)(fr:∀b∈frs l,H b=none):Aloft P w l H h x C a0 H' B h2 where
 ok:=q.ok
 stay:=q.stay
 here:=q.here
 fl:=fl
 un:={
  keep:=λb o e n a _=>fl.1 b o (q.stay b o e n a)
  slot:=λb o e n a p=>by
   obtain⟨z,d⟩:=q.un.slot b o e n a p;obtain⟨_,o1,i,r⟩:=q.fl.2.2.1.mem a;rw[d]at i;cases i;obtain⟨j,v⟩:=up b _ d r;exact⟨j,v⟩
  free:=q.un.free
  there:=λb o e p=>by
   by_cases a:b∈frs l
   ·obtain⟨z,d⟩:=q.un.slot b o e (fr b a) a p;obtain⟨_,o1,i,r⟩:=q.fl.2.2.1.mem a;rw[d]at i;cases i;obtain⟨j,v⟩:=up b _ d r;exact⟨_,v⟩
   ·obtain⟨y,d⟩:=q.here b o e a;exact⟨y,fl.1 b y d⟩
  tups:=q.un.tups
  frzs:=q.un.frzs
  tbls:=q.un.tbls}
def Aloft.caught(q:Aloft P w l H h x C a0 H' B h'):∃ob,Un (frs l) [] H (upd H' x (BL ob x C)) h h'/\HOk P w (upd H' x (BL ob x C)) h':=by
 have nx:=q.newx;have d:=q.nox;have j:∃b o,1<b/\h'.get? b=some o:=by
  obtain⟨b,o,l,e⟩:=q.ok.bg;exact⟨b,o,l,q.fl.1 _ _ e⟩
 obtain⟨p,vs,y,I,J,_⟩:=q.fl.first;refine⟨p,⟨q.un.keep,q.un.slot,λb o e n L=>?_,q.un.there,λb G e=>?_,λb o u e=>?_,λb ps e=>?_⟩,⟨λb u e=>?_,λu e=>?_,j⟩⟩
 ·rw[AH (λz=>by rw[z,nx]at e;cases e)];exact q.un.free b o e n L
 ·have a:=q.un.tups b G e;rw[AH (AM a d)];exact a
 ·have a:=q.un.frzs b o u e;rw[AH (AM a d)];exact a
 ·obtain⟨more,a⟩:=q.un.tbls b ps e;exact⟨more,by rw[AH (AM a d)];exact a⟩
 ·by_cases i:b=x
  ·subst i;rw[AF]at e;cases e;exact U6 y ⟨p,vs,y,I,J⟩
  ·rw[AH i]at e;exact(q.ok b u e).stay (λc v _ r=>q.fl.1 c v r) (λc r=>by rw[AH (AM r d)];exact r) λc G r=>by rw[AH (AM r d)];exact r
 ·by_cases i:sysModules=x
  ·rw[i,AF]at e;cases e;exact⟨_,_,rfl⟩
  ·rw[AH i]at e;exact q.ok.sm u e
end
section
variable{R:XR}
structure Cx.Top (X:Cx):Prop where
 stk:X.stack=X.env::X.outer
 fr:X.env.frame=some X.env.locals
 ex:X.ex=[]
def Inv.old{s:Shared}(I:Inv X pins σ H s){b:Addr}(e:X.s₀.heap.get? b=some o)(a:b∉X.fs):b∉frs X.stack:=λz=>by
 rcases List.mem_cons.mp (I.stkSub b z)with q|q
 ·exact absurd (Heap.lt_size e) (by rw[q];exact Nat.not_lt.mpr I.ok.above)
 ·exact a q
def Inv.oldfs{pins:List (Addr×Obj)}{σ:W3}{H:Hp}{s:Shared}(T:X.Top){b:Addr}(a:b∈X.fs):b∈frs X.stack:=by
 rw[T.stk];unfold frs;rw[List.filterMap_cons,T.fr];exact List.mem_cons_of_mem _ a
def Aloft.leave{s:Shared}{B h1:Heap}(T:X.Top)(I:Inv X pins σ H s)(q:Aloft X.prog X.w X.stack H s.heap x C a0 H' B h1)
 (up:h1.UpToSlots h') (fl:Heap.FlyingW B X.outer x (.ref C) a0 h'):Aloft X.prog X.w X.outer X.H₀ X.s₀.heap x C a0 H' B h':=by
 have a:∀b:Addr,b∉X.ex:=λb=>by rw[T.ex];simp
 have stay:∀b o,X.s₀.heap.get? b=some o->X.H₀ b=none->b∉X.fs->B.get? b=some o:=λb o e n d=>q.stay b o (I.base.keep b o e n d (a b)) (I.base.free b o e n (a b)) (I.old e d);have here:∀b o,X.s₀.heap.get? b=some o->b∉X.fs->∃o',B.get? b=some o':=λb o e d=>by
  obtain⟨o1,h⟩:=I.base.there b o e (a b);exact q.here b o1 h (I.old e d)
 have slot:∀b o,X.s₀.heap.get? b=some o->X.H₀ b=none->b∈X.fs->∃j,h'.get? b=some {o with slots:=j}:=λb o e n d=>by
  obtain⟨j,h⟩:=I.base.slot b o e n d (a b);obtain⟨v,i⟩:=q.un.any h (I.base.free b o e n (a b)) (by simp);obtain⟨_,J,p,y⟩:=q.fl.2.2.1.mem (Inv.oldfs (pins:=pins) (σ:=σ) (H:=H) (s:=s) T d);rw[i]at p;cases p;obtain⟨l,z⟩:=up b _ i y;exact⟨l,z⟩
 refine⟨⟨λb o e n d _=>fl.1 b o (stay b o e n d),λb o e n d _=>slot b o e n d,λb o e n _=>?_,λb o e _=>?_,λb r e=>q.un.tups b r (I.base.tups b r e),λb o u e=>q.un.frzs b o u (I.base.frzs b o u e),λb ps e=>?_⟩,q.ok,stay,here,fl⟩
 ·have G:=I.base.free b o e n (a b);obtain⟨o1,h⟩:=I.base.there b o e (a b);exact q.un.free b o1 h G (by simp)
 ·by_cases d:b∈X.fs
  ·obtain⟨j,h⟩:=slot b o e (I.ok.frf b d) d;exact⟨_,h⟩
  ·obtain⟨o1,h⟩:=here b o e d;exact⟨o1,fl.1 b o1 h⟩
 ·obtain⟨m1,h⟩:=I.base.tbls b ps e;obtain⟨m2,i⟩:=q.un.tbls b _ h;exact⟨m1++m2,by rw[i,Array.append_assoc]⟩
def Inv.aloft{s:Shared}(I:Inv X pins σ H s):HOk X.prog X.w H (W.hideAll s.heap (frs X.stack)):=by
 refine⟨?_,I.hok.sm,?_⟩
 rotate_left
 ·obtain⟨o,_,_,e,_⟩:=I.ok.mod.glob;refine⟨mainGlobals,o,by decide,W.hideAll_get _ (I.bk _ _ e) λz=>?_⟩;rw[(I.stack.mem z).1]at e;cases e
 exact λa o q=>(I.hok a o q).stay (λb u hb e=>W.hideAll_get _ e λz=>by
  have n:=I.stkFree b z;rcases hb with rfl|hb
  ·rw[q]at n;cases n
  ·rw[hb]at n;cases n) (λ_ z=>z) λ_ _ z=>z
def Ot(T:X.Top)(h:XF X R e s'):
 wpAny (model X.prog X.w) X.A (leaving X.env e) (λ_ b=>CXE X.prog X.w X.outer X.H₀ X.s₀ (λc d a=>∃C x σ,c= .ref C/\d=some x/\R C x σ a) e b) E' s':=by
 obtain⟨pins,σ,H,s,I,x,C,i,a,B,rfl,os,bare,q,j,l,o,p,r⟩:=h;refine wpAny_leaves_onW (by rw[I.ok.frames,T.stk]) T.fr (by rw[<-T.stk];exact q.fl) λv fl up=>?_;exact⟨x,_,i,a,B,rfl,os.trans I.os,bare,q.leave T I up fl,j,l,σ,o,p,r⟩
def Os(T:X.Top)(h:XM X R e s'):
 wpAny (model X.prog X.w) X.A (leaving X.env e) (λ_ y=>CXE X.prog X.w X.outer X.H₀ X.s₀ (λc z B=>∃C x σ,c= .ref C/\z=some x/\R C x σ B) e y) E' s':=by
 obtain⟨pins,σ,H,s,x,C,args,rfl,I,mk,os,bare,r⟩:=h;have d:∀b:Addr,b∉X.ex:=λb=>by rw[T.ex];simp
 have j:∀env∈(X.env::X.outer),∀b,env.frame=some b->b∈frs X.stack:=λenv G b a=>by rw[T.stk];exact List.mem_filterMap.mpr ⟨env,G,a⟩
 refine wpAny_leaves_madeW (base:=W.hideAll s.heap (frs X.stack)) (h:=s.heap) (by rw[I.ok.frames,T.stk]) T.fr (λb o q=>W.of_hideAll _ q) (W.funFrames_hide (by rw[<-T.stk];exact I.stack) j) mk λJ t fl _ _ up=>?_;have stay:∀b o,X.s₀.heap.get? b=some o->X.H₀ b=none->b∉X.fs->(W.hideAll s.heap (frs X.stack)).get? b=some o:=λb o e n a=>W.hideAll_get _ (I.base.keep b o e n a (d b)) (I.old e a);have here:∀b o,X.s₀.heap.get? b=some o->b∉X.fs->∃o',(W.hideAll s.heap (frs X.stack)).get? b=some o':=λb o e a=>by
  obtain⟨o1,i⟩:=I.base.there b o e (d b);exact⟨o1,W.hideAll_get _ i (I.old e a)⟩
 have slot:∀b o,X.s₀.heap.get? b=some o->X.H₀ b=none->b∈X.fs->∃l,J.get? b=some {o with slots:=l}:=λb o e n a=>by
  obtain⟨l,i⟩:=I.base.slot b o e n a (d b);obtain⟨_,P,v,L⟩:=I.stack.mem (Inv.oldfs (pins:=pins) (σ:=σ) (H:=H) (s:=s) T a);rw[i]at v;cases v;obtain⟨p,M⟩:=up b _ (mk.keeps _ _ i) L;exact⟨p,M⟩
 refine⟨x,C,_,H,_,rfl,os.trans I.os,bare,⟨⟨λb o e n a _=>fl.1 b o (stay b o e n a),λb o e n a _=>slot b o e n a,λb o e n _=>I.base.free b o e n (d b),λb o e _=>?_,I.base.tups,I.base.frzs,I.base.tbls⟩,I.aloft,stay,here,fl⟩,C,x,σ,rfl,rfl,r⟩
 by_cases a:b∈X.fs
 ·obtain⟨l,i⟩:=slot b o e (I.ok.frf b a) a;exact⟨_,i⟩
 ·obtain⟨o1,i⟩:=here b o e a;exact⟨o1,fl.1 b o1 i⟩
end
def S3(X:K.In h)(q:W.excIn K C E2 "ValueError.__new__"=true):
 ∃bm N r v bs d x sub y b z j k1 l o p G,h.get? C=some (excClassObj r v C N bs bm d x sub y b z j k1 l o p "ValueError.__new__")/\h.Ns N G/\G "__init__"=none/\OwnTail h E2 bm:=by
 unfold W.excIn at q
 split at q
 ·rename_i z I B J
  split at q
  ·rename_i Q bm j k1 l o n p H L
   simp only[Bool.and_eq_true,beq_iff_eq,Bool.not_eq_true']at q;obtain⟨⟨⟨⟨⟨rfl,rfl⟩,a⟩,ht⟩,hok⟩,i⟩:=q;obtain⟨r,bs,M,ns,v,hd,x,sub,y,b,P⟩:=I
   dsimp only at H a hok i;subst H a
   obtain⟨B⟩:=B;have e:B=[j,k1,l,o,some (.builtin "ValueError.__new__"),p]:=L;subst e;exact⟨bm,ns,r,v,bs,hd,x,sub,y,b,z,j,k1,l,o,p,_,X _ _ J, .of_isNs (W.isNs_of_in X hok),W.nsMap_none_of_in X hok i,W.tail_of_in X ht⟩
  ·cases q
 ·cases q
section
variable{R:XR}{x:Str}{e:Expr}{t:TA}{np cpos p:Pos}
def Kx(C:Addr)(R:XR)(t:TA):TS:=λ_ σ H=>t σ H λvs a=>vs.length<=sizeLine/\∀y,a y=none->R C y σ a
def C0(Z:ECls X.K C)(z:X.mg x=some (.ref C))(B:X.A.handled=none)(G:∀e i,XM X R e i->X.xe e i)(J:PA X (e::es) t)(hg:Gl X x:=by rfl)(hd:(x==("__debug__":Str))=false:=by decide)
 (j:starEach (e::es) X.env=(false,eval e X.env)::starEach es X.env:=by rfl) (b:(backTo cpos (starEach es X.env)).any (·.1)=false:=by rfl):
 PS X (.Raise (some (.Call (.Name x np) (e::es) [] cpos)) none pos) (Kx C R t):=by
 intro pins s σ H D I h;obtain⟨bm,N,nm,L,bs,hdct,sn,sub,ab,col,dd,k0,k1,k2,k3,k5,mN,M,P,d,TL⟩:=S3 I.ok.mod.kin Z.ex;refine wpAny_Raise_call_subU (C:=C) (nm:=nm) (q:=L) (N:=N) (bs:=bs) (bm:=bm) (hdct:=hdct) (sn:=sn) (sub:=sub) (ab:=ab) (col:=col) (dd:=dd) (k0:=k0) (k1:=k1) (k2:=k2) (k3:=k3) (k5:=k5)
  F.excBase_ValueError rfl F.excBase_ValueError (mN:=mN) (TL.hasType F.excBase_ValueError.hasBase) B ?_ d (CQ I hg z ⟨rfl,?_⟩ hd)
 ·rw[j];show(false||(backTo cpos (starEach es X.env)).any (·.1))=false;rw[b];rfl
 ·have w:=J cpos pins s σ H _ I h;rw[j]at w⊢;refine Calls.evalArgs_plain (thn w λQ S ⟨vs,l,a,T,U,r⟩=>⟨rfl,by show Q.length<=_;rw[<-T.length];exact U,a.bk _ _ M,P.keeps a.bk,TL.keeps a.bk,λY y mk=>G _ _ ?_⟩);refine⟨pins,σ,l,S,y,C,_,rfl,a,mk,rfl,a.bare,r y ?_⟩
  cases q:l y with
  |none=>rfl
  |some o=>
   obtain⟨ob,v⟩:=(a.hok y o q).here;rw[mk.new]at v;cases v
structure FnUE (P:Program) (w:World) (K:W.Frag) (mg:Str->Option Value) (base:Heap) (k:Nat) (x:Str) (ps:List Str) (sp:Sp):Prop where
 ex:∃f fd,FnOk P w K mg base (CXE P w) k f fd ps sp/\mg x=some (.ref f)/\W.keepIn K (.ref f)=true/\Binds K fd ps []
def Gf(sp:Sp)(R:XR)(t:TA):TE:=λσ H Q=>t σ H λvs a=>sp vs a Q (xk R σ)
def Ak{k:Nat}{ps:List Str}(U:FnUE X.prog X.w X.K X.mg X.base k x ps sp)(y:Room k X.A)(B:∀e i,XF X R e i->X.xe e i)(G:PA X (e::es) t)(hg:Gl X x:=by rfl)
 (j:(x==("__debug__":Str))=false:=by decide) (J:starEach (e::es) X.env=(false,eval e X.env)::starEach es X.env:=by rfl) (l:(backTo pos (starEach es X.env)).any (·.1)=false:=by rfl):
 PE X (.Call (.Name x p) (e::es) [] pos) (Gf sp R t):=by
 obtain⟨f,fd,F,L,hk,M⟩:=U.ex;intro pins s σ H Q I h;refine wpAny_Call_Name_kw (CQ I hg L ?_ j);refine W.callWith_K (h₀:=X.base) I.ok.mod.kin hk (thn (G pos pins s σ H _ I h) λd o ⟨vs,v,a,r,q⟩=>⟨a.kIn,?_⟩) J l;have P:d.length=ps.length:=by rw[<-r.length];exact F.len _ _ _ _ q
 refine wpAny_call (codeAny_mono (F.run X.A X.stack o v ⟨d,[]⟩ d vs Q (xk R σ) y a.env0 ?_ r q) λres i b=>?_)
 ·have z:=M o d a.kIn (by rw[List.append_nil];exact P);rw[List.append_nil]at z;exact z
 ·cases res with
  |error S=>exact B _ _ ⟨pins,σ,v,o,a,b⟩
  |ok fl=>
   cases fl with
   |ret u=>exact a.after b
   |next=>exact False.elim b
   |brk=>exact False.elim b
   |cont=>exact False.elim b
end
def rOf(E:XK):XR:=λC x _ a=>E (.ref C) (some x) a
abbrev cxE(P:Program)(w:World)(K:W.Frag)(mg:Str->Option Value)(base:Heap)(N:List Str)(qual:Str)(st:Stmt)(f:Addr)(cdv:Value)(A:Around)(outer:List Env)(s:Shared)(H:Hp)(E:XK):Cx:=
 Cw (CXE P w) P w K mg base N qual (AW st) f cdv A outer s H E
def Ko{N:List Str}{st:Stmt}{s:Shared}:(cxE P w K mg base N qual st f cdv A outer s H E).Top:=⟨rfl,rfl,rfl⟩
def Jt{s:Shared}{E':XK}(h:CXE P w l H s E e s')(k:∀c x a,E c x a->E' c x a):CXE P w l H s E' e s':=by
 obtain⟨x,C,b,a,B,d,i,j,q,r⟩:=h;exact⟨x,C,b,a,B,d,i,j,q,k _ _ _ r⟩
def Bj{N:List Str}{st:Stmt}{s:Shared}(e:Value)(s':Shared)
 (h:XF (cxE P w K mg base N qual st f cdv A outer s H E) (rOf E) e s'):(cxE P w K mg base N qual st f cdv A outer s H E).xe e s':=
 wpAny_mono (Ot (E':=λ_ _=>False) Ko h) (λ_ _ q=>Jt q λc x d ⟨C,y,σ,a,b,r⟩=>by subst a;subst b;exact r) λ_ _ z=>z.elim
def DG{N:List Str}{st:Stmt}{s:Shared}(e:Value)(s':Shared)
 (h:XM (cxE P w K mg base N qual st f cdv A outer s H E) (rOf E) e s'):(cxE P w K mg base N qual st f cdv A outer s H E).xe e s':=
 wpAny_mono (Os (E':=λ_ _=>False) Ko h) (λ_ _ q=>Jt q λc x d ⟨C,y,σ,a,b,r⟩=>by subst a;subst b;exact r) λ_ _ z=>z.elim
def Fun.okE{x:Str}{st:Stmt}{N ps:List Str}{k:Nat}(F:Fun K x qual st f fd)(S:FnScope N ps (AW st))(len:∀vs H Q E,sp vs H Q E->vs.length=ps.length)
 (b:∀ (a:Value) (A:Around) (outer:List Env) (s:Shared) (H:Hp) (vs:List V) (Q:VK) (E:XK),Room k (A.deeper (envOfC qual (AW st) s.heap.objs.size f a))->sp vs H Q E->
   ∃t,PSs (cxE P w K mg base N qual st f a A outer s H E) (Bx st) t/\t {nx:=λ_ h=>Q .non h,rt:=Q} (start N vs) H):FnOk P w K mg base (CXE P w) (k+1) f fd ps sp:=by
 obtain⟨p,q,kV,i,r,v,a,ct,j,rfl,l,d⟩:=F.ex;exact Ly l d S len λA outer s H vs Q E o e=>b a A outer s H vs Q E o e
section
variable{E:Value->Shared->Prop}{CR:Addr}
def RF(Z:ECls K C)(X:K.In h):W.Looks M h (isType (.ref C)) true:=by
 obtain⟨d,a⟩:=Z.cs;unfold W.clsIn at a
 split at a
 ·rename_i b
  intro e i j l k q;unfold isType loadHead;exact wpAny_bind (wpAny_loadPart (k _ _ (X _ _ b)) (wpAny_pure q))
 ·cases a
def N4{s:Shared}{Q:Bool->Shared->Prop}(ZR:ECls K CR)(X:K.In s.heap)(a:W.mroIn K C (.ref CR)=some b)(e:ExcAt x C s.heap)(h:Q b s):wpAny M A (excMatches (.ref x) (.ref CR)) Q E s:=by
 obtain⟨p,g,d,q,os⟩:=s;have i:=e.type (M:=M);have j:=W.looks_typeIn (M:=M) X ZR.ty;have L2:=RF (M:=M) ZR X;have l:=W.looks_mroIn (M:=M) X ZR.bs;have o:=W.looks_mroIn (M:=M) X a;have f:=tc_notTuple;unfold excMatches isInstance;refine wpAny_bind (wpAny_bind (j.at ?_));rw[f];refine wpAny_pure ?_;simp only[Bool.false_eq_true,if_false];refine wpAny_bind (wpAny_pure ?_);rw[List.forIn_cons];unfold isExcClass;refine wpAny_bind (wpAny_bind (wpAny_bind (wpAny_bind (L2.at ?_))));simp only[if_true];refine l.at ?_;simp only[Bool.not_true,Bool.false_eq_true,if_false];refine wpAny_pure ?_;refine wpAny_pure (wpAny_bind (i.at ?_));rw[List.forIn_cons];refine wpAny_bind (wpAny_bind (wpAny_bind (o.at ?_)))
 cases b with
 |true=>
  simp only[if_true];exact wpAny_pure (wpAny_pure (wpAny_pure h))
 |false=>
  simp only[Bool.false_eq_true,if_false];exact wpAny_pure (wpAny_pure (wpAny_pure h))
end
abbrev Cx.held(X:Cx)(e:Value):Cx:={X with A:=X.A.mark (some e),calm:=false,xe:=λ_ _=>False}
abbrev Cx.tried(X:Cx)(pn:List (Addr×Obj))(xe:Value->Shared->Prop):Cx:={X with pn:=pn,xe:=xe}
section
variable{s:Shared}
theorem Cx.Ok.held(ok:X.Ok)(e:Value):(X.held e).Ok:=
 ⟨ok.mod,ok.kind,ok.glob,ok.blt,ok.above,ok.inj,ok.has,ok.cab,λz=>(nomatch z),ok.frames,ok.stk,ok.exf,ok.bs,ok.bsz,ok.noex,ok.exfs,ok.funs,ok.frf⟩
theorem Inv.held(I:Inv X pins σ H s)(e:Value):Inv (X.held e) pins σ H s:=⟨I.ok.held e,I.os,I.bare,I.base,I.loc,I.cell,I.free,I.freeC,I.pin,I.hok,I.len⟩
def Inv.unheld(ok:X.Ok)(I:Inv (X.held e) pins σ H s):Inv X pins σ H s:=⟨ok,I.os,I.bare,I.base,I.loc,I.cell,I.free,I.freeC,I.pin,I.hok,I.len⟩
theorem Cx.Ok.tried(ok:X.Ok)(pn:List (Addr×Obj))(xe:Value->Shared->Prop):(X.tried pn xe).Ok:=
 ⟨ok.mod,ok.kind,ok.glob,ok.blt,ok.above,ok.inj,ok.has,ok.cab,ok.hd,ok.frames,ok.stk,ok.exf,ok.bs,ok.bsz,ok.noex,ok.exfs,ok.funs,ok.frf⟩
theorem Inv.tried(I:Inv X pins σ H s)(xe:Value->Shared->Prop):Inv (X.tried (X.pn++pins) xe) [] σ H s:=
 ⟨I.ok.tried _ _,I.os,I.bare,I.base,I.loc,I.cell,I.free,I.freeC,λp a=>I.pin p (by simpa using a),I.hok,I.len⟩
def Inv.untried(ok:X.Ok)(I:Inv (X.tried (X.pn++pins) xe) pins' σ H s):Inv X pins σ H s:=
 ⟨ok,I.os,I.bare,I.base,I.loc,I.cell,I.free,I.freeC,λp a=>I.pin p (List.mem_append_left _ a),I.hok,I.len⟩
theorem SP.untried{f:Flow}(ok:X.Ok)(h:SP (X.tried (X.pn++pins) xe) [] D f s):SP X pins D f s:=by
 cases f with
 |next=>obtain⟨σ',a,I,q⟩:=h;exact⟨σ',a,I.untried ok,q⟩
 |brk=>obtain⟨σ',a,I,q⟩:=h;exact⟨σ',a,I.untried ok,q⟩
 |cont=>obtain⟨σ',a,I,q⟩:=h;exact⟨σ',a,I.untried ok,q⟩
 |ret u=>obtain⟨v,σ',a,I,r,q⟩:=h;exact⟨v,σ',a,I.untried ok,r,q⟩
def Inv.gone{n:Str}{m:Str->Option Value}{tk:Nat}(I:Inv X pins σ H s)(R:X.N.Nodup)(S:X.N[i]? =some n)
 (T:∀ (i:Nat) (x:Str) (v:V),X.N[i]? =some x->σ[i]? =some (some v)->Vis X.env.scope x->∃u,RelV v u/\Look X.env s.heap m x u)
 (U:h'.Ns X.env.locals (λx=>if x=n then v else m x)) (h:Heap.SameBut X.env.locals s.heap h'):Inv X pins (σ.set i none) H {s with heap:=h',toks:=tk}:=by
 have a:∀b o,X.s₀.heap.get? b=some o->b≠X.env.locals:=λb o e=>Nat.ne_of_lt (Nat.lt_of_lt_of_le (Heap.lt_size e) I.ok.above);have M:∀b u,H b=some u->b≠X.env.locals:=λb u e z=>by rw[z,I.free]at e;cases e
 refine⟨I.ok,I.os,I.bare,⟨λb o e q J G=>?_,λb o e q J G=>?_,I.base.free,λb o e G=>?_,I.base.tups,I.base.frzs,I.base.tbls⟩,⟨_,U,λj y w l B Y=>?_⟩,λy c e=>?_,I.free,I.freeC,λp Z=>?_,⟨λb u e=>?_,I.hok.sm,let⟨o,_,_,e,_⟩:=I.ok.mod.glob;⟨mainGlobals,o,by decide,(h.2 _ (a _ o (I.ok.bs _ _ e).1)).trans (I.bk _ _ e)⟩⟩,by simpa using I.len⟩
 ·exact(h.2 b (a b o e)).trans (I.base.keep b o e q J G)
 ·obtain⟨sl,l⟩:=I.base.slot b o e q J G;exact⟨sl,(h.2 b (a b o e)).trans l⟩
 ·obtain⟨o',l⟩:=I.base.there b o e G;exact⟨o',(h.2 b (a b o e)).trans l⟩
 ·have P:j≠i:=λz=>by
   subst z
   by_cases L:j<σ.length
   ·rw[List.getElem?_set_self L]at B;cases B
   ·rw[List.getElem?_eq_none (by rw[List.length_set];lia)]at B;cases B
  rw[List.getElem?_set_ne (Ne.symm P)]at B;obtain⟨u,r,q⟩:=T j y w l B Y;refine⟨u,r,?_⟩;have ny:y≠n:=λz=>P (F5 R l (z▸S));rcases q with⟨k,e⟩|⟨k,c,e,z⟩
  ·exact .inl ⟨k,by show(if y=n then v else m y)=some u;rw[if_neg ny];exact e⟩
  ·exact .inr ⟨k,c,e,z.sameBut h (I.cne y c e)⟩
 ·obtain⟨Q,z⟩:=I.cell y c e;exact⟨Q,z.sameBut h (I.cne y c e)⟩
 ·obtain⟨e,q,ne,nf,d⟩:=I.pin p Z;exact⟨(h.2 p.1 ne).trans e,q,ne,nf,d⟩
 ·refine(I.hok b u e).stay (λc Q hc r=>(h.2 c ?_).trans r) (λ_ z=>z) λ_ _ z=>z;rcases hc with rfl|hc
  ·exact M _ _ e
  ·exact M _ _ hc
end
section
variable{cn en:Str}{CR:Addr}{suite:List Stmt}{b₀:Stmt}{np hpos:Pos}{tb:XR->TS}{ts:TS}
def Ex(i:Nat)(D:Ends):Ends:={nx:=λσ H=>D.nx (σ.set i none) H,rt:=D.rt,bk:=λσ H=>D.bk (σ.set i none) H,ct:=λσ H=>D.ct (σ.set i none) H}
def MD(K:W.Frag)(i:Nat)(CR:Addr)(tb:XR->TS)(ts:TS):TS:=λD σ H=>
 tb (λC x σ' a=>W.mroIn K C (.ref CR)=some true/\∀ob,ts (Ex i D) (σ'.set i (some (.ref x))) (upd a x (BL ob x C))) D σ H
def UW(ZR:ECls X.K CR)(hm:X.mg cn=some (.ref CR))(T:X.Top)(hN:X.N.Nodup)(hi:X.N[i]? =some en)(Q:X.env.scope.names.lookup en=some .local)
 (hb:∀ (pn:List (Addr×Obj)) (xe:Value->Shared->Prop) (R:XR),(∀e s',XF (X.tried pn xe) R e s'->xe e s')->PSs (X.tried pn xe) body (tb R))
 (hs:∀e:Value,PSs (X.held e) (b₀::suite) ts) (hg:Gl X cn:=by rfl) (hd:(cn==("__debug__":Str))=false:=by decide):
 PS X (.Try body [.ExceptHandler (some (.Name cn np)) (some en) (b₀::suite) hpos] [] [] pos) (MD X.K i CR tb ts):=by
 intro pins s σ H D I h;refine wpAny_Try_except ?_;refine wpAny_mono (hb (X.pn++pins) _ _ (λe M z=>?_) [] s σ H D (I.tried _) h) (λf M q=>?_) λe M z=>z
 ·obtain⟨S,σ1,H1,s1',G,x,C,a0,H',B,rfl,os,bare,q,C',x',e1,e2,L,r⟩:=z
  cases e1;cases e2
  have G:=G.untried I.ok;refine wpAny_looks_onW (by rw[I.ok.frames,T.stk]) T.fr (by rw[<-T.stk];exact q.fl) λh4 j U=>?_;refine wpAny_landsW j λh5 Y Z=>?_;have J:=q.on (U.trans Z) (by rw[T.stk];exact Y) G.stkFree;have I5:Inv X pins σ1 H' {M with heap:=h5}:=G.call' (ch:=[]) os J.un (J.ok.kept J.fl.1) bare (λb z=>absurd z (by simp));have X5:ExcAt x C h5:=by
   obtain⟨oe,vs,g1,g2,g3,_⟩:=J.fl.first;exact⟨oe,vs,g1,g2,g3⟩
  refine wpAny_handleBy_cons (codeAny_handlers_test (CQ (X:=X.held (.ref x)) (I5.held _) hg hm ?_ hd)) (by intro z;cases z);refine N4 ZR I5.kIn L X5 ?_;refine codeAny_handlers_suite_as ?_;refine lands_againW (base:=B) (l:=X.env::X.outer) (by rw[<-T.stk];exact J.fl) λh6 fl6 up6=>?_;have q6:=J.on up6 (by rw[T.stk];exact fl6) G.stkFree;obtain⟨ob,c6⟩:=q6.caught;have I6:Inv X pins σ1 (upd H' x (BL ob x C)) {M with heap:=h6}:=G.call' (ch:=[]) os c6.1 c6.2 bare (λb z=>absurd z (by simp));refine Dt (X:=X.held (.ref x)) (I6.held _) hN hi (.inl Q) (v:= .ref x) rfl (λs7 I7=>?_) (.inr Q);refine wpAny_mono (hs (.ref x) pins s7 _ _ (Ex i D) I7 (r ob)) (λf s8 P=>?_) λ_ _ z=>z.elim;have go:∀ {σ8:W3} {o:Hp},Inv (X.held (.ref x)) pins σ8 o s8->(∀d,Inv X pins (σ8.set i none) o d->SP X pins D f d)->wpAny (model X.prog X.w) X.A (do bindName X.env en .none;unbindBehindTheSuite X.env en hpos) (λ_ d=>SP X pins D f d) X.xe s8:=fun{σ8 o} a k=>by
   have a:=a.unheld I.ok;obtain⟨m,hn,hlk⟩:=id a.loc;refine wpAny_nameGoes_keeps Q hn ?_ λh9 v hn9 hs9=>k _ (a.gone hN hi hlk hn9 hs9);rw[I.ok.kind];rfl
  cases f with
  |next=>obtain⟨σ8,o,a,p⟩:=P;exact go a λd y=>⟨_,_,y,p⟩
  |brk=>obtain⟨σ8,o,a,p⟩:=P;exact go a λd y=>⟨_,_,y,p⟩
  |cont=>obtain⟨σ8,o,a,p⟩:=P;exact go a λd y=>⟨_,_,y,p⟩
  |ret u=>obtain⟨v,σ8,o,a,rv,p⟩:=P;exact go a λd y=>⟨_,_,_,y,rv,p⟩
 ·have q:=q.untried I.ok
  cases f with
  |next=>exact wpAny_execs_nil q
  |brk=>exact q
  |cont=>exact q
  |ret u=>exact q
end
open PySem.SeqAt
def Gu{s:Shared}(I:Inv X pins σ H s)(h:H x=some (BL ob x C)):ExcAt x C s.heap:=by
 obtain⟨_,p,_⟩:=(show ObjOk X.prog X.w H s.heap x (.frz ob (.ext (ExcAt x C)))from I.hok x _ h);exact p
def FI(K:W.Frag):List V->Hp->VK->Prop:=λa H Q=>HQ K a H Q\/
 (∃x ob C T b,a=[.ref x, .ty T]/\H x=some (BL ob x C)/\ECls K C/\W.kitOne K (.ref C) (.type T)=some b/\Q (.bl b) H)\/
 (∃x ob C D b,a=[.ref x, .ref D]/\H x=some (BL ob x C)/\ECls K C/\W.kitOne K (.ref C) (.ref D)=some b/\Q (.bl b) H)\/
 ∃x ob C d,∃cs:List Addr,∃b,a=[.ref x, .ref d]/\H x=some (BL ob x C)/\ECls K C/\H d=some (.tup (cs.map V.ref))/\W.kitAny K (.ref C) (cs.map Value.ref)=some b/\Q (.bl b) H
theorem IV:∀ {cs:List Addr} {us:List Value},Vals (cs.map V.ref) us->us=cs.map Value.ref
 |[],_, .nil=>rfl
 |_::_,_, .cons r t=>by rw[show _=Value.ref _ from r,IV t];rfl
theorem Fu:∀ {bs:List Bool} {us:List Value},Vals (bs.map V.bl) us->us=bs.map Value.bool
 |[],_, .nil=>rfl
 |_::_,_, .cons r t=>by rw[show _=Value.bool _ from r,Fu t];rfl
def CN(K:W.Frag)(j:X.K=K:=by rfl):CallR X (.builtin "isinstance") (FI K):=by
 intro pins s σ H B G Q I r h;rcases h with h|⟨x,ob,C,T,b,rfl,d,Z,e,q⟩|⟨x,ob,C,D,b,rfl,d,Z,e,q⟩|⟨x,ob,C,l,cs,b,rfl,d,Z,ht,e,q⟩
 ·exact Cz K j pins s σ H B G Q I r h
 ·subst j;obtain⟨u,v,rfl,i,a⟩:=vals2 r
  cases(show u=Value.ref x from i);cases(show v=Value.type T from a)
  exact W.kia_one (F8 Z) I.kIn (Gu I d) e (λz=>nomatch z) λo=>⟨.bl b,H,I.tok _,rfl,q⟩
 ·subst j;obtain⟨u,v,rfl,i,a⟩:=vals2 r
  cases(show u=Value.ref x from i);cases(show v=Value.ref D from a)
  exact W.kia_one (F8 Z) I.kIn (Gu I d) e (λz=>nomatch z) λo=>⟨.bl b,H,I.tok _,rfl,q⟩
 ·subst j;obtain⟨u,v,rfl,i,a⟩:=vals2 r
  cases(show u=Value.ref x from i);cases(show v=Value.ref l from a)
  obtain⟨_,J,a,⟨R,S,L,M⟩,P,p,n,y⟩:=(show ObjOk X.prog X.w H s.heap l (.tup (cs.map V.ref))from I.hok l _ ht)
  dsimp only at p y;subst p;subst y
  exact W.kia_tup (F8 Z) I.kIn (Gu I d) P (by rw[IV a];exact e) (λz=>nomatch z) λo=>⟨.bl b,H,I.tok _,rfl,q⟩
def T8{Q:VK}(a:H x=some (BL ob x C))(Z:ECls K C)(e:W.kitOne K (.ref C) (.type T)=some b)(h:Q (.bl b) H):FI K [.ref x, .ty T] H Q:=
 .inr (.inl ⟨x,ob,C,T,b,rfl,a,Z,e,h⟩)
def DA{Q:VK}{D:Addr}(a:H x=some (BL ob x C))(Z:ECls K C)(e:W.kitOne K (.ref C) (.ref D)=some b)(h:Q (.bl b) H):FI K [.ref x, .ref D] H Q:=
 .inr (.inr (.inl ⟨x,ob,C,D,b,rfl,a,Z,e,h⟩))
def T6{Q:VK}{tp:Addr}(a:H x=some (BL ob x C))(Z:ECls K C)(ht:H tp=some (.tup (cs.map V.ref)))(e:W.kitAny K (.ref C) (cs.map Value.ref)=some b)(h:Q (.bl b) H):
 FI K [.ref x, .ref tp] H Q:= .inr (.inr (.inr ⟨x,ob,C,tp,cs,b,rfl,a,Z,ht,e,h⟩))
def rCountB:V->List V->Hp->VK->Prop:=λx vs H Q=>∃l,∃bs:List Bool,∃k,x= .ref l/\vs=[.bl k]/\H l=some (.lst (bs.map V.bl))/\Q (.int (bs.count k:Nat)) H
def L5(k:Bool){bs:List Bool}{s:Shared}:∀y∈bs.map Value.bool,EqAt A s y (.bool k) (isBoolOf k y):=λy a=>by
 obtain⟨b,_,rfl⟩:=List.mem_map.mp a;exact EqAt.bool_bool b k
def Pd:MtM X "list.count" rCountB:=by
 intro pins s σ H x vs v G Q I a b h;obtain⟨l,bs,k,rfl,rfl,d,q⟩:=h
 cases a
 obtain⟨u,rfl,i⟩:=b.one
 cases(show u=Value.bool k from i)
 obtain⟨z,j,n,r,J,e⟩:=I.lstM d;have o:=Fu r;subst o;refine call_meets F.slot_list_count ⟨_,e,rfl⟩ F.entry_list_count (F.args_list_count_2 _ _) (list_countAt l _ n none #[] (.bool k) (isBoolOf k)) ⟨e,λy p=>L5 k y (by simpa using p),?_⟩;have B:(bs.map Value.bool).toArray.toList.countP (isBoolOf k)=bs.count k:=by
  show(bs.map Value.bool).countP (isBoolOf k)=bs.count k;rw[List.countP_map,List.count]
  rfl
 rw[B];exact⟨.int (bs.count k:Nat),H,I.tok _,⟨_,rfl⟩,q⟩
def rIndexB:V->List V->Hp->VK->Prop:=λx vs H Q=>∃l,∃bs:List Bool,∃k,∃j:Nat,x= .ref l/\vs=[.bl k]/\H l=some (.lst (bs.map V.bl))/\bs[j]? =some k/\(∀m,m<j->bs[m]? ≠some k)/\bs.length<=1000/\Q (.int j) H
def Pc:MtM X "list.index" rIndexB:=by
 intro pins s σ H x vs v T Q I o p h;obtain⟨l,bs,k,j,rfl,rfl,B,G,a,U,q⟩:=h
 cases o
 obtain⟨u,rfl,J⟩:=p.one
 cases(show u=Value.bool k from J)
 obtain⟨z,L,n,r,Y,e⟩:=I.lstM B;have M:=Fu r;subst M;obtain⟨b,P⟩:=List.getElem?_eq_some_iff.mp G;refine call_meets F.slot_list_index ⟨_,e,rfl⟩ F.entry_list_index (F.args_list_index_2 _ _) (list_indexAt l _ n none #[] (.bool k) (isBoolOf k) j (by simpa using b) (by lia) ?_ ?_) ⟨e,λy R=>L5 k y (by simpa using R),?_⟩
 ·simp only[List.getElem_toArray,List.getElem_map,isBoolOf,P,beq_self_eq_true]
 ·intro m S d;have i:m<bs.length:=by simpa using S
  have:=a m d;rw[List.getElem?_eq_getElem i]at this;simp only[List.getElem_toArray,List.getElem_map,isBoolOf];exact beq_eq_false_iff_ne.mpr λz=>this (by rw[z])
 ·exact⟨.int j,H,I.tok _,⟨_,rfl⟩,q⟩
end L2
namespace BrR
open PySem.Builtin
variable{a:Addr}{i:Int}{Q:Option Value->Shared->Prop}{t:Tok}
def ND:Slot "reversed" "__init__" "object.__init__":=
 .of (owner:="object") (n:="__init__") (by rw[typeLookup_type,builtinLookup_eq_fast];kernel_rfl) (by decide +kernel) (by decide +kernel) (by decide +kernel) (by first|exact .inl (by decide +kernel)|exact .inr (by decide +kernel)) (by rw[isSubtype_type];kernel_rfl)
def slot_rev_next:Slot "reversed" "__next__" "reversed.__next__":=
 .of (owner:="reversed") (n:="__next__") (by rw[typeLookup_type,builtinLookup_eq_fast];kernel_rfl) (by decide +kernel) (by decide +kernel) (by decide +kernel) (by first|exact .inl (by decide +kernel)|exact .inr (by decide +kernel)) (by rw[isSubtype_type];kernel_rfl)
def Hi:Slot "reversed" "__iter__" "reversed.__iter__":=
 .of (owner:="reversed") (n:="__iter__") (by rw[typeLookup_type,builtinLookup_eq_fast];kernel_rfl) (by decide +kernel) (by decide +kernel) (by decide +kernel) (by first|exact .inl (by decide +kernel)|exact .inr (by decide +kernel)) (by rw[isSubtype_type];kernel_rfl)
def Oj:TypeCalled "reversed" "reversed.__new__" "object.__init__":=
 ⟨by decide +kernel,by decide +kernel,⟨_,_,F.mro_reversed⟩,F.made_reversed,by decide +kernel,by rw[isSubtype_type];kernel_rfl,ND⟩
def Hh:entryFor table "reversed.__next__"=some Builtin.«reversed.__next__»:=entryFor_of_tree (by kernel_rfl)
def NB:entryFor table "reversed.__iter__"=some Builtin.«dict_keyiterator.__iter__»:=
 entryFor_alias (id':="dict_keyiterator.__iter__") (by kernel_rfl) (by first|rfl|decide +kernel|(unfold String.splitOn;simp +decide [String.splitOnAux])) (by decide +kernel) (by kernel_rfl)
def Hk(a:Value):argsOk "reversed.__next__" ⟨[a],[]⟩:=by unfold argsOk;kernel_rfl
def NM(a:Value):argsOk "reversed.__iter__" ⟨[a],[]⟩:=by unfold argsOk;kernel_rfl
def OW:typeLookup (.type "str") "__reversed__"=pure none:=by rw[typeLookup_type,builtinLookup_eq_fast];kernel_rfl
def NN:isSubtype (.type "str") (.type "dict")=pure false:=by rw[isSubtype_type];kernel_rfl
def NK(x:Str)(t:Tok)(d:x.length<=sizeLine):
 Meets (Builtin.«reversed.__new__» ⟨[.type "reversed", .str x t],[]⟩) (λ_ R s=>∀b,R (.ok (.ret (.ref s.heap.objs.size))) {s with heap:=s.heap.push {cls:= .type "reversed",data:= .fields #[.str x t,rawInt ((x.length:Int)-1)]},toks:=b}):=
 .of_wp λprog w A R s h=>by
   have e:=L2.line63;unfold Builtin.«reversed.__new__»;refine wpAny_bind (wpAny_of_eq (newClass_reversed _) ?_)
   try dsimp only
   refine wpAny_bind (wpAny_of_eq (a:=()) (by first|rfl|kernel_rfl) ?_);refine wpAny_bind (wpAny_of_eq (a:=()) (by first|rfl|kernel_rfl) ?_)
   try dsimp only
   refine wpAny_bind (wpAny_specialOf (typeIs_str _ _ _) OW ?_)
   try dsimp only
   refine wpAny_bind ?_;show wpAny _ _ (isInstance (Value.str x t) (.type "dict")>>=_) _ _ _;refine wpAny_bind (wpAny_isInstance (typeIs_str _ _ _) NN ?_);show wpAny _ _ (specialOf (Value.str x t) "__getitem__">>=_) _ _ _;refine wpAny_bind (wpAny_specialOf (typeIs_str _ _ _) F.slot_str_getitem.lookup ?_);refine wpAny_pure ?_;show wpAny _ _ (call (Value.builtin "len") [Value.str x t]>>=_) _ _ _;refine wpAny_bind (PySem.P.len_str (by lia) ?_);refine wpAny_bind (wpAny_of_eq (a:=some (x.length:Int)) (by rfl) ?_);show wpAny _ _ (SmallTypes.newRecord (Value.type "reversed") [Value.str x t,rawInt ((x.length:Int)-1)]>>=_) _ _ _;refine wpAny_bind ?_;show wpAny _ _ (newObj (.type "reversed") (.fields [Value.str x t,rawInt ((x.length:Int)-1)].toArray)) _ _ _;exact wpAny_newObj_type (wpAny_pure ⟨_,rfl,h _⟩)
open PySem.Builtin
def IsRevS(h:Heap)(a:Addr)(x:Str)(t:Tok)(i:Int):Prop:=∃o,h.get? a=some o/\o.cls= .type "reversed"/\o.data= .fields #[.str x t,rawInt i]
def IsRevS.typeIs{s:Shared}(y:IsRevS s.heap a x t i):s.TypeIs (.ref a) "reversed":=let⟨o,b,d,_⟩:=y;⟨o,b,d⟩
section
variable{s:Shared}
def QD{Q:Value->Shared->Prop}(b:x.length<=sizeLine)
 (h:∀a,Q (.ref s.heap.objs.size) {s with heap:=s.heap.push {cls:= .type "reversed",data:= .fields #[.str x t,rawInt ((x.length:Int)-1)]},toks:=a}):
 wpAny (model prog w) A (call (.type "reversed") [.str x t]) Q E s:=by
 refine callType_new Oj (by decide) (F.typeCall_reversed_1 _) (F.newCall_reversed_1 _) (λobj=>F.args_object_init_2 obj _) F.entry_reversed_new (NK x t b) λa=>?_;exact⟨⟨_,Heap.get?_push_size _ rfl,rfl⟩,h a⟩
def Il{Q:Value->Shared->Prop}(y:IsRevS s.heap a x t i)(h:Q (.ref a) s):wpAny (model prog w) A (pyIter (.ref a)) Q E s:=by
 refine wpAny_pyIter_slot y.typeIs Hi (wpAny_call_entry Hi y.typeIs NB ?_ (NM _));show wpAny _ _ (ret (.ref a)) _ _ s;exact wpAny_pure ⟨_,rfl,"reversed",_,y.typeIs,slot_rev_next.lookup,h⟩
def PY{i:Nat}(y:IsRevS s.heap a x t (i:Int))(h:x.cps[i]? =some c)(r:x.length<=sizeLine)
 (j:∀d l u,IsRevS d a x t ((i:Int)-1)->Heap.SameBut a s.heap d->Q (some (.str ⟨#[c]⟩ u)) {s with heap:=d,toks:=l}):wpAny (model prog w) A (pyNext (.ref a)) Q E s:=by
 obtain⟨o,b,e,hd⟩:=id y;have v:=L2.line63;have p:i<x.cps.size:=(Array.getElem?_eq_some_iff.mp h).1;have q:i<x.length:=p;unfold pyNext;refine wpAny_bind (wpAny_attempt (wpAny_callSpecial?_slot (name:=Str.ofString "__next__") y.typeIs slot_rev_next (wpAny_call_entry slot_rev_next y.typeIs Hh ?_ (Hk _))));unfold Builtin.«reversed.__next__»;refine wpAny_bind (wpAny_of_eq (a:=(Value.ref a,[])) rfl ?_)
 try dsimp only
 refine wpAny_bind (wpAny_field b hd (x:= .str x t) rfl ?_);refine wpAny_bind (wpAny_field b hd (x:=rawInt (i:Int)) rfl ?_);show wpAny _ _ (if(i:Int)<0 then _ else _) _ _ s;rw[if_neg (by lia)];show wpAny _ _ (specialOf (Value.str x t) "__getitem__">>=_) _ _ _;refine wpAny_bind (wpAny_specialOf (typeIs_str _ _ _) F.slot_str_getitem.lookup ?_);show wpAny _ _ (mkInt (i:Int)>>=_) _ _ _;refine wpAny_bind (wpAny_mkInt ?_);refine wpAny_bind (wpAny_attempt ?_);refine PySem.P.getItem_str (c:=c) (by simp;lia) (by rw[seqIndex_of (by lia) (by lia)];simpa using h) ?_;show wpAny _ _ (field (Value.ref a) 1>>=_) _ _ _;refine wpAny_bind (wpAny_field b hd (x:=rawInt (i:Int)) rfl ?_);show wpAny _ _ (setField (Value.ref a) 1 (rawInt ((i:Int)-1))>>=_) _ _ _;refine wpAny_bind (wpAny_setField b hd (by simp) (wpAny_pure ⟨_,rfl,wpAny_pure (j _ _ _ ?_ (Heap.SameBut.update ..))⟩));exact⟨_,Heap.get?_update_self _ b (Obj.isFreed_of_fields (Obj.data_mapFields hd _)),(Obj.cls_mapFields ..).trans e,by rw[Obj.data_mapFields hd];simp⟩
def RI(i:A.handled=none)(y:IsRevS s.heap a x t (-1))
 (j:∀h,Heap.ExtBut a s.heap h->Q none {s with heap:=h}):wpAny (model prog w) A (pyNext (.ref a)) Q E s:=by
 obtain⟨o,d,l,hd⟩:=id y;unfold pyNext;refine wpAny_bind (wpAny_attempt (wpAny_callSpecial?_slot (name:=Str.ofString "__next__") y.typeIs slot_rev_next (wpAny_call_entry slot_rev_next y.typeIs Hh ?_ (Hk _))));unfold Builtin.«reversed.__next__»;refine wpAny_bind (wpAny_of_eq (a:=(Value.ref a,[])) rfl ?_)
 try dsimp only
 refine wpAny_bind (wpAny_field d hd (x:= .str x t) rfl ?_);refine wpAny_bind (wpAny_field d hd (x:=rawInt (-1)) rfl ?_);show wpAny _ _ (if(-1:Int)<0 then _ else _) _ _ s;rw[if_pos (by decide)];refine wpAny_bind (wpAny_rule ?_);refine wpAny_bind ?_;show wpAny _ _ (setField (Value.ref a) 1 (rawInt (-1))>>=_) _ _ _;refine wpAny_bind (wpAny_setField d hd (by simp) ?_);have e:=Heap.get?_update_self (Obj.mapFields (·.setIfInBounds 1 (rawInt (-1)))) d (Obj.isFreed_of_fields (Obj.data_mapFields hd _));refine wpAny_setField e (Obj.data_mapFields hd _) (by simp) ?_;refine wpAny_bind ?_;show wpAny _ _ (newExc (.type "StopIteration") []>>=_) _ _ _;refine wpAny_bind ?_;simp only[newExc,newTuple];refine wpAny_bind (wpAny_newObj_type ?_ (by size_fits));refine wpAny_bind (m:=firstArgMember _ _) (wpAny_of_eq (a:=Value.none) (by first|rfl|(simp only[firstArgMember];rfl)) ?_);refine wpAny_newObj_type ?_ (by size_fits);simp only[raiseNew];refine wpAny_bind (wpAny_handled ?_);rw[show A.in1.handled=none from i];refine wpAny_bind (wpAny_pure (wpAny_throw ?_));refine wpAny_bind (wpAny_isInstance (T:="StopIteration") (b:=true) ⟨_,Heap.get?_push_size _ rfl,rfl⟩ isSubtype_stop ?_);exact wpAny_pure (j _ ((((Heap.SameBut.update ..).trans (Heap.SameBut.update ..)).extBut.push _).push _))
end
def Dj(x:Str):W4:=⟨λi _=>i<x.cps.size,λi H v a=>a=H/\∃c,x.cps[x.cps.size-1-i]? =some c/\v= .str ⟨#[c]⟩,λi _=>i=x.cps.size⟩
def Ow{it:Addr}(Y:x.length<=sizeLine):
 Turn P w K tg (Dj x) [it] it (λi h=>i<=x.cps.size/\IsRevS h it x t ((x.cps.size:Int)-1-(i:Int))) where
 mem:=by simp
 obj:=λi h st b a=>by
  obtain⟨_,o,d,_,hd⟩:=st;have e:b=it:=by simpa using a
  subst e;exact⟨o,d,λv z=>by rw[hd]at z;cases z⟩
 keep:=λi h l st k=>by
  obtain⟨B,o,d,r⟩:=st;exact⟨B,o,k it (by simp) o d,r⟩
 item:=by
  intro X G J L T i pins s σ H E I p st hg;subst G J L;have B:i<x.cps.size:=hg;obtain⟨_,y⟩:=st;have e:(x.cps.size:Int)-1-(i:Int)=((x.cps.size-1-i:Nat):Int):=by lia
  rw[e]at y;have j:x.cps[x.cps.size-1-i]? =some (x.cps[x.cps.size-1-i]'(by lia)):=Array.getElem?_eq_getElem (by lia);refine PY y j Y λl U u M Z=>?_;have R:((x.cps.size-1-i:Nat):Int)-1=(x.cps.size:Int)-1-((i+1:Nat):Int):=by lia
  rw[R]at M;obtain⟨o,d,S,hd⟩:=id M;have I1:Inv X pins σ H {s with heap:=l,toks:=U}:=I.turnedAll p λb ob a q=>(Z.2 b (λz=>a (by simp[z]))).trans q;exact⟨_,rfl,EK (s:={s with heap:=l,toks:=U}) (n:="reversed") d S hd (by decide) ⟨.str ⟨#[x.cps[x.cps.size-1-i]'(by lia)]⟩,H,I1,⟨u,rfl⟩,⟨rfl,_,j,rfl⟩,⟨B,M⟩,λb a=>(p b a).1⟩⟩
 done:=by
  intro X G J L T i pins s σ H E I p st hg;subst G J L;have e:i=x.cps.size:=hg;subst e;obtain⟨_,y⟩:=st;have R:(x.cps.size:Int)-1-(x.cps.size:Int)= -1:=by lia
  rw[R]at y;exact RI (I.ok.hd T) y λl ex=>⟨rfl,I.turnedAll (t':=s.toks) p λb ob a q=>ex b ob (λz=>a (by simp[z])) q⟩
 self:=λA i s Q E st h=>Il st.2 h
def MY(b:TA):TI:=λσ H R=>b σ H λvs d=>∃a,vs=[tx a]/\a.length<=sizeLine/\R (Dj ⟨a.toArray⟩) d
def SJ{a:Expr}{ta:TA}{p:Pos}(hg:Gl X "reversed")(v:X.mg "reversed"=none)(x:PA X [a] ta)(B:starEach [a] X.env=[(false,eval a X.env)]:=by rfl):PI X tg (.Call (.Name "reversed" p) [a] [] pos) (MY ta):=by
 intro pins s σ H R I h;refine Call_ (B0 I hg v PyProof.Rows.boot_reversed (PyProof.Rows.callWith_type1 (thn (x pos pins s σ H _ I h) λT d ⟨vs,l,j,G,J⟩=>?_) B rfl));obtain⟨z,e,L,q⟩:=J;subst e
 cases G with
 |cons r M=>
  cases M
  obtain⟨t,rfl⟩:=r;have i:(⟨z.toArray⟩:Str).length<=sizeLine:=by rw[Az];exact L
  refine QD i λP=>?_;have Q:Inv X pins σ l {d with heap:=d.heap.push {cls:= .type "reversed",data:= .fields #[.str ⟨z.toArray⟩ t,rawInt (((⟨z.toArray⟩:Str).length:Int)-1)]},toks:=P}:=j.kept λb o e=>Heap.get?_push_of_some _ e;have y:IsRevS (d.heap.push {cls:= .type "reversed",data:= .fields #[.str ⟨z.toArray⟩ t,rawInt (((⟨z.toArray⟩:Str).length:Int)-1)]}) d.heap.objs.size ⟨z.toArray⟩ t ((((⟨z.toArray⟩:Str)).length:Int)-1):=⟨_,Heap.get?_push_size _ rfl,rfl,rfl⟩;refine Il y ⟨d.heap.objs.size,[d.heap.objs.size],_,_,l,rfl,Q,Ow (t:=t) i,⟨Nat.zero_le _,?_⟩,λb S=>?_,q⟩
  ·show IsRevS _ _ _ _ ((((⟨z.toArray⟩:Str)).cps.size:Int)-1-((0:Nat):Int));rw[show((((⟨z.toArray⟩:Str)).cps.size:Int)-1-((0:Nat):Int))=((((⟨z.toArray⟩:Str)).length:Int)-1)from by show _=(((⟨z.toArray⟩:Str).cps.size:Nat):Int)-1;lia];exact y
  ·have e:b=d.heap.objs.size:=by simpa using S
   subst e;exact j.fpOk (Nat.le_refl _) (j.hok.fresh (Nat.le_refl _))
end BrR
open BrR
namespace L2
variable{xss:List (List Nat)}{R:List Nat->Prop}
def J5:∀ {b:List Value},Vals (xss.map tx) b->StrsAre b (xss.map λa=>⟨a.toArray⟩):=by
 induction xss with
 |nil=>intro b r;cases r;exact .nil
 |cons a r d=>
  intro b h
  cases h with
  |cons e i=>
   obtain⟨t,rfl⟩:=e;exact .cons _ t (d i)
theorem Ik:∀ (d:List (List Nat)),Str.join ⟨([]:List Nat).toArray⟩ (d.map λa=>⟨a.toArray⟩)=⟨d.flatten.toArray⟩
 |[]=>rfl
 |[a]=>by simp[Str.join]
 |a::b::r=>by
  have e:=Ik (b::r);rw[List.map_cons,List.map_cons]at*
  show(⟨a.toArray⟩:Str)++⟨([]:List Nat).toArray⟩++Str.join ⟨([]:List Nat).toArray⟩ (⟨b.toArray⟩::r.map λa=>⟨a.toArray⟩)=_;rw[e];show(⟨a.toArray++([]:List Nat).toArray++(b::r).flatten.toArray⟩:Str)=_;simp
def rJoin(K:W.Frag):V->List V->Hp->VK->Prop:=λx vs H Q=>∃ (p:Addr) (a:List (List Nat)),x=tx []/\vs=[.ref p]/\SqL K H p (a.map tx)/\a.flatten.length+a.length<=1000000/\Q (tx a.flatten) H
def GT(K:W.Frag)(d:X.K=K:=by rfl):MtR X "str.join" (rJoin K):=by
 subst d;intro pins s σ H x vs v G Q I i j h;obtain⟨p,b,rfl,rfl,l,J,q⟩:=h;obtain⟨t,rfl⟩:=i;obtain⟨u,rfl,o⟩:=j.one
 cases o
 obtain⟨y,r,ht,L⟩:=I.list l;have z:((b.map λa=>(⟨a.toArray⟩:Str)).map (·.length)).sum=b.flatten.length:=by
  rw[List.map_map,List.length_flatten];congr 1
 refine join_listW ht.isList (J5 r) (by rw[Az];decide) (by rw[z,List.length_map];lia) λB k=>?_;have e:Txt.join ⟨([]:List Nat).toArray⟩ (b.map λa=>⟨a.toArray⟩)=⟨b.flatten.toArray⟩:=by
  show Builtin.Str.glued _ _=_;rw[StrLaws.glued_eq_join,Ik]
 rw[e];exact⟨tx b.flatten,H,I.tok k,⟨B,rfl⟩,q⟩
def DM(l:List Nat)(c:Nat):Option Nat:=(Builtin.Str.occurrences ⟨l.toArray⟩ ⟨#[c]⟩ 0 (⟨l.toArray⟩:Str).length 1).head?
def rIdx:V->List V->Hp->VK->Prop:=λx vs H Q=>∃l c i,x=tx l/\vs=[tx [c]]/\DM l c=some i/\Q (.int (i:Nat)) H
def F7:MtR X "str.index" rIdx:=by
 intro pins s σ H x vs v o Q I b d h;obtain⟨l,c,i,rfl,rfl,a,q⟩:=h;obtain⟨t,rfl⟩:=b;obtain⟨u,rfl,p,rfl⟩:=d.one;unfold DM at a
 cases e:Builtin.Str.occurrences ⟨l.toArray⟩ ⟨#[c]⟩ 0 (⟨l.toArray⟩:Str).length 1 with
 |nil=>rw[e]at a;cases a
 |cons j rest=>
  rw[e]at a
  cases a
  exact SC.index e ⟨.int (i:Nat),H,I.tok _,⟨_,rfl⟩,q⟩
section
variable{Q:VK}
def VG{P:Prop}(h:P):tyV K "str" (tx a) H/\P:=⟨rfl,h⟩
def Gi(a:SqL K H p (xss.map tx))(b:xss.flatten.length+xss.length<=1000000)(h:Q (tx xss.flatten) H):rJoin K (tx []) [.ref p] H Q:=⟨p,xss,rfl,rfl,a,b,h⟩
def HE(a:DM l c=some i)(h:Q (.int (i:Nat)) H):rIdx (tx l) [tx [c]] H Q:=⟨l,c,i,rfl,rfl,a,h⟩
def T9{ta:TA}{R:W4->Hp->Prop}(h:ta σ H λvs b=>∃a,vs=[tx a]/\a.length<=sizeLine/\R (Dj ⟨a.toArray⟩) b):MY ta σ H R:=h
def Rq(d:a.length<=sizeLine)(h:R a):∃b,[tx a]=[tx b]/\b.length<=sizeLine/\R b:=⟨a,rfl,d,h⟩
def Ek(M:a.length<=sizeLine)(Pv:Addr->Nat->List V->Hp->Prop)(h0:∀D,H D=none->Pv D 0 [] (upd H D (.lst [])))
 (o:∀D d h,H D=none->h D=some (.lst d)->Pv D a.length d h->Q (.ref D) h)
 (I:∀D i c d h,H D=none->a[i]? =some c->i<a.length->h D=some (.lst d)->d.length<=i->Pv D i d h->g (tx [c]) (AV own sel σ) h λσ4 J=>tt σ4 J λb z=>
   if b=true then te σ4 z λv B=>∃d,B D=some (.lst d)/\d.length<sizeLine/\∃j,j<a.length-i/\CW D a.length (Pv D) (i+1) j (upd B D (.lst (d++[v])))
   else∃j,j<a.length-i/\CW D a.length (Pv D) (i+1) j z):BF (Its ⟨a.toArray⟩) own sel σ g tt te Q H:=by
 refine CS (n:=a.length) Pv h0 (λD i d h l q _ p=>by simpa[Its]using q) (λD d h l r G p=>⟨by simp[Its],o D d h l r p⟩) (λD i d h x L l q r G p y=>?_);obtain⟨rfl,c,e,rfl⟩:=y;exact I D i c d L l (by simpa using e) q r G p
def RM(M:a.length<=sizeLine)(Pv:Addr->Nat->List V->Hp->Prop)(h0:∀D,H D=none->Pv D 0 [] (upd H D (.lst [])))
 (q:∀D d h,H D=none->h D=some (.lst d)->Pv D a.length d h->Q (.ref D) h)
 (I:∀D i c d h,H D=none->a.reverse[i]? =some c->i<a.length->h D=some (.lst d)->d.length<=i->Pv D i d h->g (tx [c]) (AV own sel σ) h λσ4 J=>tt σ4 J λb z=>
   if b=true then te σ4 z λv B=>∃d,B D=some (.lst d)/\d.length<sizeLine/\∃j,j<a.length-i/\CW D a.length (Pv D) (i+1) j (upd B D (.lst (d++[v])))
   else∃j,j<a.length-i/\CW D a.length (Pv D) (i+1) j z):BF (Dj ⟨a.toArray⟩) own sel σ g tt te Q H:=by
 refine CS (n:=a.length) Pv h0 (λD i d h l o _ p=>by simpa[Dj]using o) (λD d h l r G p=>⟨by simp[Dj],q D d h l r p⟩) (λD i d h x L l o r G p y=>?_);obtain⟨rfl,c,e,rfl⟩:=y;refine I D i c d L l ?_ o r G p;rw[List.getElem?_reverse o];simpa using e
def RL(I:n<=sizeLine)(Pv:Addr->Nat->List V->Hp->Prop)(h0:∀D,H D=none->Pv D 0 [] (upd H D (.lst [])))
 (j:∀D a d,H D=none->d D=some (.lst a)->Pv D n a d->Q (.ref D) d)
 (B:∀D i a d,H D=none->i<n->d D=some (.lst a)->a.length<=i->Pv D i a d->g (.int (lo+i)) (AV own sel σ) d λσ4 G=>tt σ4 G λb q=>
   if b=true then te σ4 q λv r=>∃a,r D=some (.lst a)/\a.length<sizeLine/\∃e,e<n-i/\CW D n (Pv D) (i+1) e (upd r D (.lst (a++[v])))
   else∃e,e<n-i/\CW D n (Pv D) (i+1) e q):BF (Itr lo n) own sel σ g tt te Q H:=by
 refine CS (n:=n) Pv h0 (λD i a d h l _ p=>l) (λD a d h o z p=>⟨Nat.le_refl _,j D a d h o p⟩) (λD i a d x J h l o z p y=>?_);obtain⟨rfl,rfl⟩:=y;exact B D i a _ h l o z p
end
end L2
namespace BrTx
variable{p:List Nat}
def BK(c:Nat):List Nat->Nat->List Nat
 |[],_=>[]
 |x::r,i=>if x=c then i::BK c r (i+1)else BK c r (i+1)
def J3(l:List Nat)(c i:Nat):Builtin.Str.subAt ⟨l.toArray⟩ ⟨#[c]⟩ i=decide (l[i]? =some c):=by
 unfold Builtin.Str.subAt;have e:(⟨l.toArray⟩:Str).cps.extract i (i+(⟨#[c]⟩:Str).length)=((l.drop i).take 1).toArray:=by
  show l.toArray.extract i (i+1)=_;simp
 rw[e];show(((l.drop i).take 1).toArray== #[c])=_;rw[Bool.eq_iff_iff,beq_iff_eq,decide_eq_true_eq];rw[List.take_one,List.head?_drop]
 cases l[i]? with
 |none=>simp
 |some x=>simp
theorem Gp(l:List Nat)(c k:Nat):∀ (r:List Nat) (i:Nat) (a:Array Nat) (free:Nat),l.drop i=r->free<=i->i<=l.length->
 (forIn (List.range' i (l.length+1-i)) (a,free) (StrLaws.occBody ⟨l.toArray⟩ ⟨#[c]⟩ l.length k)).run.fst.toList=a.toList++(BK c r i).take (k-a.size)
 |[],i,a,free,d,v,B=>by
  have p:i=l.length:=by
   have:=congrArg List.length d;simp at this;lia
  subst p;rw[show l.length+1-l.length=1 by lia];have e:StrLaws.occBody ⟨l.toArray⟩ ⟨#[c]⟩ l.length k l.length (a,free)=pure (ForInStep.yield (a,free)):=by
   unfold StrLaws.occBody;rw[if_neg];rintro⟨⟨_,h⟩,_⟩;have:(⟨#[c]⟩:Str).length=1:=rfl;lia
  simp[List.range',e,BK]
 |x::r,i,a,free,d,v,B=>by
  have j:i<l.length:=by
   have:=congrArg List.length d;simp at this;lia
  have y:l[i]? =some x:=by
   have:=congrArg List.head? d;rw[List.head?_drop]at this;exact this
  have o:l.drop (i+1)=r:=by
   have:=congrArg List.tail d;rw[List.tail_drop]at this;exact this
  rw[show l.length+1-i=(l.length+1-(i+1))+1 by lia,List.range'_succ];have G:(⟨#[c]⟩:Str).length=1:=rfl
  by_cases h:(a.size<k)/\x=c
  ·have e:StrLaws.occBody ⟨l.toArray⟩ ⟨#[c]⟩ l.length k i (a,free)=pure (ForInStep.yield (a.push i,i+1)):=by
    unfold StrLaws.occBody;rw[if_pos ⟨⟨⟨h.1,v⟩,by rw[G];lia⟩,by rw[J3,y,h.2];simp⟩]
    rfl
   have q:=Gp l c k r (i+1) (a.push i) (i+1) o (Nat.le_refl _) j;simp only[List.forIn_cons,e,pure_bind];rw[q,BK,if_pos h.2,Array.toList_push,Array.size_push,List.append_assoc];congr 1;rw[show k-a.size=(k-(a.size+1))+1 by lia]
   rfl
  ·have e:StrLaws.occBody ⟨l.toArray⟩ ⟨#[c]⟩ l.length k i (a,free)=pure (ForInStep.yield (a,free)):=by
    unfold StrLaws.occBody;rw[if_neg];rintro⟨⟨⟨H,_⟩,_⟩,b⟩;rw[J3,y]at b;exact h ⟨H,by simpa using b⟩
   have q:=Gp l c k r (i+1) a free o (by lia) j;simp only[List.forIn_cons,e,pure_bind];rw[q,BK]
   by_cases b:x=c
   ·rw[if_pos b];have:k-a.size=0:=by
     have:¬a.size<k:=λz=>h ⟨z,b⟩;lia
    rw[this,List.take_zero,List.take_zero]
   ·rw[if_neg b]
def Kd(l:List Nat)(c k:Nat):Builtin.Str.occurrences ⟨l.toArray⟩ ⟨#[c]⟩ 0 (⟨l.toArray⟩:Str).length k=(BK c l 0).take k:=by
 have h:=Gp l c k l 0 #[] 0 rfl (Nat.le_refl _) (Nat.zero_le _);have e:(⟨l.toArray⟩:Str).length=l.length:=by show l.toArray.size=_;simp
 rw[e];unfold Builtin.Str.occurrences;have a:(fun(i:Nat) (st:Array Nat×Nat)=>if(decide (st.fst.size<k)&&decide (st.snd<=i)&&decide (i+(⟨#[c]⟩:Str).length<=l.length)&&Builtin.Str.subAt ⟨l.toArray⟩ ⟨#[c]⟩ i)=true then(pure (ForInStep.yield (st.fst.push i,i+(⟨#[c]⟩:Str).length)):Id _)else pure (ForInStep.yield (st.fst,st.snd)))=StrLaws.occBody ⟨l.toArray⟩ ⟨#[c]⟩ l.length k:=by
  funext i st
  unfold StrLaws.occBody;simp only[Bool.and_eq_true,decide_eq_true_eq]
 simp only[Std.Legacy.Range.forIn_eq_forIn_range',Std.Legacy.Range.size];have b:(forIn (List.range' 0 (l.length+1)) (#[],0) (StrLaws.occBody ⟨l.toArray⟩ ⟨#[c]⟩ l.length k)).run.fst.toList=(BK c l 0).take k:=by simpa using h
 rw[<-b,<-a];simp
def Cb(x:Nat):List (List Nat)->List (List Nat)
 |w::ws=>(x::w)::ws
 |[]=>[[x]]
def spN(c:Nat):Nat->List Nat->List (List Nat)
 |_,[]=>[[]]
 |0,x::r=>[x::r]
 |n+1,x::r=>if x=c then []::spN c n r else Cb x (spN c (n+1) r)
theorem Bg(c:Nat):∀ (n:Nat) (l:List Nat),spN c n l≠[]
 |0,[]=>by simp[spN]
 |n+1,[]=>by simp[spN]
 |0,x::r=>by simp[spN]
 |n+1,x::r=>by
  rw[spN]
  split
  ·simp
  ·cases e:spN c (n+1) r with
   |nil=>simp[Cb]
   |cons w ws=>simp[Cb]
def hdP(p:List Nat):List (List Nat)->List (List Nat)
 |w::ws=>(p++w)::ws
 |[]=>[p]
theorem GU:∀ {ws:List (List Nat)},ws≠[]->hdP [] ws=ws
 |[],h=>(h rfl).elim
 |w::ws,_=>rfl
def Pw{x:Nat}{ws:List (List Nat)}(h:ws≠[]):hdP p (Cb x ws)=hdP (p++[x]) ws:=by
 cases ws with
 |nil=>exact(h rfl).elim
 |cons w ws=>simp[hdP,Cb]
def stS(w:List Nat):Str:=⟨w.toArray⟩
def Gg(l:List Nat)(a b:Nat):Builtin.Str.strSub ⟨l.toArray⟩ a b=stS ((l.drop a).take (b-a)):=by
 unfold Builtin.Str.strSub stS;simp[List.extract_eq_take_drop]
def DV(l:List Nat):(⟨l.toArray⟩:Str).length=l.length:=by show l.toArray.size=_;simp
theorem Ef(l:List Nat)(c:Nat):∀ (r:List Nat) (b a n:Nat),l.drop b=r->a<=b->b<=l.length->StrLaws.partsFrom ⟨l.toArray⟩ 1 a ((BK c r b).take n)=(hdP ((l.drop a).take (b-a)) (spN c n r)).map stS
 |[],b,a,n,d,i,q=>by
  have p:b=l.length:=by
   have:=congrArg List.length d;simp at this;lia
  have v:spN c n []=[[]]:=by cases n<;>rfl
  rw[BK,List.take_nil,v];show [Builtin.Str.strSub ⟨l.toArray⟩ a (⟨l.toArray⟩:Str).length]=[stS (_++[])];rw[Gg,DV,List.append_nil,p]
 |x::r,b,a,0,d,i,q=>by
  rw[List.take_zero];show [Builtin.Str.strSub ⟨l.toArray⟩ a (⟨l.toArray⟩:Str).length]=[stS (_++(x::r))];rw[Gg,DV,<-d];congr 2;have e:l.drop b=(l.drop a).drop (b-a):=by rw[List.drop_drop];congr 1;lia
  rw[e,List.take_append_drop,List.take_of_length_le (by simp)]
 |x::r,b,a,n+1,d,i,q=>by
  have j:b<l.length:=by
   have:=congrArg List.length d;simp at this;lia
  have y:(l.drop a)[b-a]? =some x:=by
   have:=congrArg List.head? d;rw[List.head?_drop]at this;rw[List.getElem?_drop,show a+(b-a)=b by lia];exact this
  have o:l.drop (b+1)=r:=by
   have:=congrArg List.tail d;rw[List.tail_drop]at this;exact this
  by_cases h:x=c
  ·rw[BK,if_pos h,spN,if_pos h,List.take_succ_cons];show Builtin.Str.strSub ⟨l.toArray⟩ a b::StrLaws.partsFrom ⟨l.toArray⟩ 1 (b+1) _=_;rw[Ef l c r (b+1) (b+1) n o (Nat.le_refl _) j,Gg,Nat.sub_self,List.take_zero,GU (Bg c n r)];simp[hdP]
  ·rw[BK,if_neg h,spN,if_neg h,Ef l c r (b+1) a (n+1) o (by lia) j,Pw (Bg c (n+1) r)];congr 2;rw[show b+1-a=(b-a)+1 by lia,List.take_add_one,y]
   rfl
theorem Ed(c:Nat):∀ (n:Nat) (l:List Nat),c∉l->spN c n l=[l]
 |0,[],_=>rfl
 |n+1,[],_=>rfl
 |0,x::r,_=>rfl
 |n+1,x::r,h=>by
  rw[spN,if_neg (λz=>h (by rw[z];exact List.mem_cons_self)),Ed c (n+1) r (λz=>h (List.mem_cons_of_mem _ z))]
  rfl
theorem GO:∀ {l:List Nat} {i:Nat},BK c l i=[]->c∉l
 |[],_,_=>by simp
 |x::r,i,h=>by
  rw[BK]at h
  split at h
  ·cases h
  ·rename_i a
   have:=GO h;simp[this,Ne.symm a]
def IX(l:List Nat)(c:Nat)(k:Int)(hk:0<=k):Txt.splitMax ⟨l.toArray⟩ ⟨#[c]⟩ k=(spN c k.toNat l).map stS:=by
 have a:limitOf ⟨l.toArray⟩ k=k.toNat:=by unfold limitOf;rw[if_neg (by lia)]
 unfold Txt.splitMax;rw[a,Kd]
 split
 ·rename_i h
  have d:c∉l:=by
   rw[Bool.or_eq_true,decide_eq_true_eq,decide_eq_true_eq]at h;rcases h with h|h
   ·rw[DV]at h;have:l=[]:=List.length_eq_zero_iff.mp (by have:(⟨#[c]⟩:Str).length=1:=rfl;lia);simp[this]
   ·simpa using StrLaws.kind_free _ _ h
  rw[Ed c _ l d];rfl
 ·split
  ·rename_i h
   rw[List.isEmpty_iff]at h
   by_cases b:k.toNat=0
   ·rw[b]
    cases l with
    |nil=>rfl
    |cons x r=>rfl
   ·have:BK c l 0=[]:=by
     cases e:BK c l 0 with
     |nil=>rfl
     |cons i t=>
      rw[e,show k.toNat=(k.toNat-1)+1 by lia]at h
      cases h
    rw[Ed c _ l (GO this)];rfl
  ·rw[StrLaws.partsBetween_eq];have:=Ef l c l 0 0 k.toNat rfl (Nat.le_refl _) (Nat.zero_le _);rw[show(⟨#[c]⟩:Str).length=1 from rfl,this,Nat.sub_self,List.take_zero,GU (Bg c _ l)]
def QR(l:List Nat)(c:Nat):Txt.split ⟨l.toArray⟩ ⟨#[c]⟩=(spN c (l.length+1) l).map stS:=by
 have h:=IX l c ((l.length+1:Nat):Int) (by lia);rw[Int.toNat_natCast]at h;rw[<-h];unfold Txt.split Txt.splitMax;have a:limitOf ⟨l.toArray⟩ ((l.length+1:Nat):Int)=(⟨l.toArray⟩:Str).length+1:=by unfold limitOf;rw[if_neg (by lia),DV];lia
 rw[a]
def SZ(l:List Nat)(c:Nat):∃w v u,Txt.partition ⟨l.toArray⟩ ⟨#[c]⟩=(stS w,v,u)/\(spN c 1 l).head?=some w:=by
 unfold Txt.partition;rw[Kd];have:=Ef l c l 0 0 1 rfl (Nat.le_refl _) (Nat.zero_le _);rw[Nat.sub_self,List.take_zero,GU (Bg c _ l)]at this
 cases e:BK c l 0 with
 |nil=>
  rw[Ed c _ l (GO e)];exact⟨l,_,_,rfl,rfl⟩
 |cons i t=>
  rw[e]at this
  cases a:spN c 1 l with
  |nil=>exact(Bg c 1 l a).elim
  |cons w ws=>
   rw[a]at this;have b:Builtin.Str.strSub ⟨l.toArray⟩ 0 i=stS w:=by
    have:=congrArg List.head? this;simpa[StrLaws.partsFrom]using this
   refine⟨w,⟨#[c]⟩,Builtin.Str.strSub ⟨l.toArray⟩ (i+(⟨#[c]⟩:Str).length) (⟨l.toArray⟩:Str).length,?_,rfl⟩;show(Builtin.Str.strSub ⟨l.toArray⟩ 0 i,_,_)=_;rw[b]
end BrTx
open BrTx
namespace L2
variable{a:Addr}{G:Addr->Prop}{spOf:Addr->Sp}{elt i value:Expr}{kvs:List (Key×V)}{vs:List (Key×Value)}{xs:List (List Key×Addr×Value)}{values:List Expr}{ks:List Key}{its:List Value}{o:Option V}{td:TE}{wi:TI}{d v y:V}{Q:VK}{r:Value}{Qo:Value->Shared->Prop}
theorem Fk:∀ (ws:List (List Nat)) (a:Nat),Vals (ws.map tx) (strsFrom a (ws.map stS))
 |[],_=> .nil
 |w::ws,a=> .cons ⟨a,rfl⟩ (Fk ws (a+1))
theorem DS(c:Nat):∀ (n:Nat) (l:List Nat),(spN c n l).length<=l.length+1
 |0,[]=>by simp[spN]
 |n+1,[]=>by simp[spN]
 |0,x::r=>by simp[spN]
 |n+1,x::r=>by
  rw[spN]
  split
  ·have:=DS c n r;simp;lia
  ·have a:=DS c (n+1) r;have:(Cb x (spN c (n+1) r)).length=(spN c (n+1) r).length:=by
    cases e:spN c (n+1) r with
    |nil=>exact(Bg c (n+1) r e).elim
    |cons w ws=>rfl
   rw[this,List.length_cons];lia
def rSplit:V->List V->Hp->VK->Prop:=λx vs H Q=>∃l c,x=tx l/\l.length<=2000/\((vs=[tx [c]]/\∀p,H p=none->Q (.ref p) (upd H p (.lst ((spN c (l.length+1) l).map tx))))\/
 ∃k:Int,vs=[tx [c], .int k]/\0<=k/\k<=1000/\∀p,H p=none->Q (.ref p) (upd H p (.lst ((spN c k.toNat l).map tx))))
def Eh{s:Shared}{ws:List (List Nat)}{k:Nat}(I:Inv X pins σ H s)(d:ws.length<=2001)(a:Vals (ws.map tx) its)(q:∀p,H p=none->Q (.ref p) (upd H p (.lst (ws.map tx)))):
 EP X pins σ Q (Value.ref s.heap.objs.size) {heap:=s.heap.push {cls:=Value.type "list",data:=Data.seq its.toArray},gens:=s.gens,drawn:=s.drawn,toks:=k,os:=s.os}:=by
 refine⟨.ref _,_,I.laid (o:= .lst (ws.map tx)) (λb ob q=>Heap.get?_push_of_some _ q) (Nat.le_refl _) ?_,rfl,q _ (I.hok.fresh (Nat.le_refl _))⟩;exact⟨by rw[List.length_map,sizeLine_eq];lia,_,0,a,Heap.get?_push_size _ rfl⟩
def F6:MtR X "str.split" rSplit:=by
 intro pins s σ H x vs v S Q I T R h;obtain⟨l,c,rfl,hl,h⟩:=h;obtain⟨t,rfl⟩:=T;have J:((⟨#[c]⟩:Str).length==0)=false:=rfl;have p:(⟨l.toArray⟩:Str).length<=sizeLine:=by rw[DV,sizeLine_eq];lia
 rcases h with⟨rfl,q⟩|⟨k,rfl,k0,k1,q⟩
 ·obtain⟨u,rfl,r,rfl⟩:=R.one;have d:=QR l c;have U:=DS c (l.length+1) l;unfold Txt.split at d;have one:[(⟨l.toArray⟩:Str)]=(spN c (l.length+1) l).map stS->EP X pins σ Q (Value.ref s.heap.objs.size) {heap:=s.heap.push {cls:=Value.type "list",data:=Data.seq #[Value.str ⟨l.toArray⟩ t]},gens:=s.gens,drawn:=s.drawn,toks:=s.toks,os:=s.os}:=λe=>by
   have L:spN c (l.length+1) l=[l]:=by
    cases y:spN c (l.length+1) l with
    |nil=>rw[y]at e;cases e
    |cons w ws=>
     rw[y]at e;have z:=congrArg List.length e;have B:=congrArg List.head? e;simp at z B;have M:l.toArray=w.toArray:=by
      have:(⟨l.toArray⟩:Str)=⟨w.toArray⟩:=B;injection this
     have G:=congrArg Array.toList M;simp at G;rw[z,G]
   exact Eh (ws:=[l]) (its:=[Value.str ⟨l.toArray⟩ t]) I (by simp) (.cons ⟨t,rfl⟩ .nil) (by rw[L]at q;exact q)
  by_cases o:(decide ((⟨l.toArray⟩:Str).length<(⟨#[c]⟩:Str).length)||decide (Builtin.Str.strKind ⟨l.toArray⟩<Builtin.Str.strKind ⟨#[c]⟩))=true
  ·rw[if_pos o]at d;exact call_meets PySem.F.slot_str_split (typeIs_str s _ t) PySem.F.entry_str_split (PySem.F.args_str_split_2 _ _) (meets_str_split_cannot_occur _ _ t r o) (one d)
  ·rw[if_neg o]at d;have i:(decide ((⟨l.toArray⟩:Str).length<(⟨#[c]⟩:Str).length)||decide (Builtin.Str.strKind ⟨l.toArray⟩<Builtin.Str.strKind ⟨#[c]⟩))=false:=by simpa using o
   by_cases j:(Builtin.Str.occurrences ⟨l.toArray⟩ ⟨#[c]⟩ 0 (⟨l.toArray⟩:Str).length ((⟨l.toArray⟩:Str).length+1)).isEmpty=true
   ·rw[if_pos j]at d;exact call_meets PySem.F.slot_str_split (typeIs_str s _ t) PySem.F.entry_str_split (PySem.F.args_str_split_2 _ _) (meets_str_split_not_found _ _ t r i J j) (one d)
   ·rw[if_neg j]at d;have Y:=by simpa using j
    refine call_meets PySem.F.slot_str_split (typeIs_str s _ t) PySem.F.entry_str_split (PySem.F.args_str_split_2 _ _) (meets_str_split_sep _ _ t r i J (by simpa using j) p (by rw[d,List.length_map,sizeLine_eq];lia)) ?_;rw[d];exact Eh I (by lia) (Fk _ _) q
 ·obtain⟨u,us',rfl,⟨r,rfl⟩,Z⟩:∃u us',S=u::us'/\RelV (tx [c]) u/\Vals [.int k] us':=by
   cases R with
   |cons a b=>exact⟨_,_,rfl,a,b⟩
  obtain⟨u2,rfl,P,rfl⟩:=Z.one;have hk:(decide (k< -2^63)||decide (k>=2^63))=false:=by
   rw[Bool.or_eq_false_iff,decide_eq_false_iff_not,decide_eq_false_iff_not];lia
  have d:=IX l c k k0;have U:=DS c k.toNat l;unfold Txt.splitMax at d;have one:[(⟨l.toArray⟩:Str)]=(spN c k.toNat l).map stS->EP X pins σ Q (Value.ref s.heap.objs.size) {heap:=s.heap.push {cls:=Value.type "list",data:=Data.seq #[Value.str ⟨l.toArray⟩ t]},gens:=s.gens,drawn:=s.drawn,toks:=s.toks,os:=s.os}:=λe=>by
   have L:spN c k.toNat l=[l]:=by
    cases y:spN c k.toNat l with
    |nil=>rw[y]at e;cases e
    |cons w ws=>
     rw[y]at e;have z:=congrArg List.length e;have B:=congrArg List.head? e;simp at z B;have M:l.toArray=w.toArray:=by
      have:(⟨l.toArray⟩:Str)=⟨w.toArray⟩:=B;injection this
     have G:=congrArg Array.toList M;simp at G;rw[z,G]
   exact Eh (ws:=[l]) (its:=[Value.str ⟨l.toArray⟩ t]) I (by simp) (.cons ⟨t,rfl⟩ .nil) (by rw[L]at q;exact q)
  by_cases o:(decide ((⟨l.toArray⟩:Str).length<(⟨#[c]⟩:Str).length)||decide (Builtin.Str.strKind ⟨l.toArray⟩<Builtin.Str.strKind ⟨#[c]⟩))=true
  ·rw[if_pos o]at d;exact call_meets PySem.F.slot_str_split (typeIs_str s _ t) PySem.F.entry_str_split (PySem.F.args_str_split_3 _ _ _) (meets_str_split_max_cannot_occur _ _ k t r P hk o) (one d)
  ·rw[if_neg o]at d;have i:(decide ((⟨l.toArray⟩:Str).length<(⟨#[c]⟩:Str).length)||decide (Builtin.Str.strKind ⟨l.toArray⟩<Builtin.Str.strKind ⟨#[c]⟩))=false:=by simpa using o
   by_cases j:(Builtin.Str.occurrences ⟨l.toArray⟩ ⟨#[c]⟩ 0 (⟨l.toArray⟩:Str).length (limitOf ⟨l.toArray⟩ k)).isEmpty=true
   ·rw[if_pos j]at d;exact call_meets PySem.F.slot_str_split (typeIs_str s _ t) PySem.F.entry_str_split (PySem.F.args_str_split_3 _ _ _) (meets_str_split_max_not_found _ _ k t r P hk i J j) (one d)
   ·rw[if_neg j]at d;refine call_meets PySem.F.slot_str_split (typeIs_str s _ t) PySem.F.entry_str_split (PySem.F.args_str_split_3 _ _ _) (meets_str_split_sep_max _ _ k t r P hk i J (by simpa using j) p (by rw[d,List.length_map,sizeLine_eq];lia)) ?_;rw[d];exact Eh I (by lia) (Fk _ _) q
def rPart:V->List V->Hp->VK->Prop:=λx vs H Q=>∃l c w,x=tx l/\vs=[tx [c]]/\l.length<=2000/\(spN c 1 l).head?=some w/\∀p v u,H p=none->Q (.ref p) (upd H p (.tup [tx w,v,u]))
def Kg:MtR X "str.partition" rPart:=by
 intro pins s σ H x vs v T Q I L M h;obtain⟨l,c,w,rfl,rfl,U,P,q⟩:=h;obtain⟨t,rfl⟩:=L;obtain⟨u,rfl,R,rfl⟩:=M.one;have S:((⟨#[c]⟩:Str).length==0)=false:=rfl;have e:(⟨l.toArray⟩:Str).length<=sizeLine:=by rw[DV,sizeLine_eq];lia
 obtain⟨Y,a,b,d,j⟩:=SZ l c;rw[P]at j
 cases j
 have fin:∀ {p tb y:Tok} {k:Nat},EP X pins σ Q (Value.ref s.heap.objs.size) {heap:=s.heap.push {cls:=Value.type "tuple",data:=Data.seq #[Value.str (stS w) p,Value.str a tb,Value.str b y]},gens:=s.gens,drawn:=s.drawn,toks:=k,os:=s.os}:=fun{p tb y k}=>by
  refine⟨.ref _,_,I.laid (o:= .tup [tx w, .str a, .str b]) (λb ob q=>Heap.get?_push_of_some _ q) (Nat.le_refl _) ?_,rfl,q _ _ _ (I.hok.fresh (Nat.le_refl _))⟩;exact⟨by rw[sizeLine_eq];simp,[_,_,_], .cons ⟨p,rfl⟩ (.cons ⟨tb,rfl⟩ (.cons ⟨y,rfl⟩ .nil)),⟨_,Heap.get?_push_size _ rfl,rfl,0,rfl⟩⟩
 refine call_meets PySem.F.slot_str_partition (typeIs_str s _ t) PySem.F.entry_str_partition (PySem.F.args_str_partition_2 _ _) (meets_str_partition _ _ t R S e) ?_;unfold Txt.partition at d
 cases J:Builtin.Str.occurrences ⟨l.toArray⟩ ⟨#[c]⟩ 0 (⟨l.toArray⟩:Str).length 1 with
 |nil=>
  rw[J]at d;simp only[Prod.mk.injEq]at d;obtain⟨z,B,G⟩:=d;subst B G;rw[<-z]at fin;exact fin
 |cons i r=>
  rw[J]at d;simp only[Prod.mk.injEq]at d;obtain⟨z,B,G⟩:=d;subst B G;rw[<-z]at fin;exact fin
def KH(a:l.length<=2000)(q:∀p,H p=none->Q (.ref p) (upd H p (.lst ((spN c (l.length+1) l).map tx)))):rSplit (tx l) [tx [c]] H Q:=⟨l,c,rfl,a, .inl ⟨rfl,q⟩⟩
def QW{k:Int}(a:l.length<=2000)(k0:0<=k)(k1:k<=1000)(q:∀p,H p=none->Q (.ref p) (upd H p (.lst ((spN c k.toNat l).map tx)))):rSplit (tx l) [tx [c], .int k] H Q:=⟨l,c,rfl,a, .inr ⟨k,rfl,k0,k1,q⟩⟩
def KI{w:List Nat}(a:l.length<=2000)(b:(spN c 1 l).head?=some w)(q:∀p v u,H p=none->Q (.ref p) (upd H p (.tup [tx w,v,u]))):rPart (tx l) [tx [c]] H Q:=⟨l,c,w,rfl,rfl,a,b,q⟩
section
variable{κ:Type}[DecidableEq κ]
def AY(kvs:List (κ×V))(k:κ):Option V:=(kvs.find? λa=>decide (a.1=k)).map (·.2)
def putK(kvs:List (κ×V))(k:κ)(v:V):List (κ×V):=
 if(kvs.any λa=>decide (a.1=k))=true then kvs.map (λa=>if a.1=k then(a.1,v)else a)else kvs++[(k,v)]
def DI(kvs:List (κ×V))(k:κ):List (κ×V):=kvs.filter λa=>decide (a.1≠k)
def Fv{p:κ×V}{r:List (κ×V)}{k:κ}(e:p.1=k):AY (p::r) k=some p.2:=by simp[AY,List.find?_cons,e]
def Fw{p:κ×V}{r:List (κ×V)}{k:κ}(e:¬p.1=k):AY (p::r) k=AY r k:=by simp[AY,List.find?_cons,e]
theorem JN(k:κ):∀a:List (κ×V),(a.any λb=>decide (b.1=k))=(AY a k).isSome
 |[]=>rfl
 |p::r=>by
  rw[List.any_cons]
  by_cases e:p.1=k
  ·simp only[Fv e,decide_eq_true e,Bool.true_or,Option.isSome_some]
  ·rw[Fw e,decide_eq_false e,Bool.false_or];exact JN k r
def EW(kvs:List (κ×V))(k:κ)(v:V):(putK kvs k v).length<=kvs.length+1:=by
 unfold putK
 split
 ·rw[List.length_map];lia
 ·rw[List.length_append,List.length_cons,List.length_nil];lia
def RelO.isSome_eq{u:Option Value}(r:RelO o u):o.isSome=u.isSome:=by
 cases o with
 |none=>cases u with
  |none=>rfl
  |some _=>exact(show False from r).elim
 |some _=>cases u with
  |none=>exact(show False from r).elim
  |some _=>rfl
theorem RelO.getD{u:Option Value}{d':Value}(r:RelO o u)(a:RelV d d'):RelV (o.getD d) (u.getD d'):=by
 cases o with
 |none=>cases u with
  |none=>exact a
  |some _=>exact(show False from r).elim
 |some _=>cases u with
  |none=>exact(show False from r).elim
  |some _=>exact r
def KV.val{kvs:List (κ×V)}{vs:List (κ×Value)}(r:KV kvs vs)(k:κ):RelO (AY kvs k) (valueAt vs k):=by
 unfold KV at r
 induction r with
 |nil=>exact True.intro
 | @cons p q ps a h t j=>
   obtain⟨i,l⟩:=h
   by_cases e:p.1=k
   ·have d:q.1=k:=i.symm.trans e;have b:valueAt (q::a) k=some q.2:=by simp[valueAt,List.find?_cons,d]
    rw[Fv e,b];exact l
   ·have d:¬q.1=k:=λz=>e (i.trans z);have b:valueAt (q::a) k=valueAt a k:=by simp[valueAt,List.find?_cons,d]
    rw[Fw e,b];exact j
theorem KV.any{kvs:List (κ×V)}{vs:List (κ×Value)}(r:KV kvs vs)(k:κ):(kvs.any λa=>decide (a.1=k))=vs.any λa=>decide (a.1=k):=by
 unfold KV at r
 induction r with
 |nil=>rfl
 |cons h t b=>rw[List.any_cons,List.any_cons,b,h.1]
def KV.repl{kvs:List (κ×V)}{vs:List (κ×Value)}(r:KV kvs vs)(k:κ){u:Value}(d:RelV y u):
 KV (kvs.map λa=>if a.1=k then(a.1,y)else a) (vs.map λa=>if a.1=k then(a.1,u)else a):=by
 unfold KV at r⊢
 induction r with
 |nil=>exact .nil
 | @cons p q ps l h t i=>
   rw[List.map_cons,List.map_cons];refine .cons ?_ i;obtain⟨b,j⟩:=h
   by_cases e:p.1=k
   ·rw[if_pos e,if_pos (b.symm.trans e)];exact⟨b,d⟩
   ·rw[if_neg e,if_neg (λz=>e (b.trans z))];exact⟨b,j⟩
def KV.put{kvs:List (κ×V)}{vs:List (κ×Value)}(r:KV kvs vs)(k:κ){u:Value}(a:RelV y u):KV (putK kvs k y) (stored vs k u):=by
 unfold putK stored;rw[r.any k]
 by_cases e:(vs.any λb=>decide (b.1=k))=true
 ·rw[if_pos e,if_pos e];exact r.repl k a
 ·rw[if_neg e,if_neg e];exact Paired.snoc r ⟨rfl,a⟩
def KV.drop{kvs:List (κ×V)}{vs:List (κ×Value)}(r:KV kvs vs)(k:κ):KV (DI kvs k) (without vs k):=by
 unfold KV at r⊢;unfold DI without
 induction r with
 |nil=>exact .nil
 | @cons p q ps o h t i=>
   obtain⟨d,j⟩:=h;rw[List.filter_cons,List.filter_cons]
   by_cases e:p.1=k
   ·have a:¬decide (p.1≠k)=true:=by simp[e]
    have b:¬decide (q.1≠k)=true:=by simp[d.symm.trans e]
    rw[if_neg a,if_neg b];exact i
   ·have l:¬q.1=k:=λz=>e (d.trans z);have a:decide (p.1≠k)=true:=by simp[e]
    have b:decide (q.1≠k)=true:=by simp[l]
    rw[if_pos a,if_pos b];exact .cons ⟨d,j⟩ i
def KV.keys{kvs:List (κ×V)}{vs:List (κ×Value)}(r:KV kvs vs):kvs.map (·.1)=vs.map (·.1):=by
 unfold KV at r
 induction r with
 |nil=>rfl
 |cons h t a=>rw[List.map_cons,List.map_cons,a,h.1]
theorem KV.length{kvs:List (κ×V)}{vs:List (κ×Value)}(r:KV kvs vs):kvs.length=vs.length:=Paired.length r
def RJ(kvs:List (κ×V))(k:κ):(DI kvs k).length<=kvs.length:=List.length_filter_le _ _
end
def Ca{k:Key}{u:Value}(r:RelV (kV k) u):(An P w).is k u=true:=by
 cases k with
 |inl i=>obtain⟨t,e⟩:=(show∃t,u=Value.int i t from r);subst e;exact N0 P w i t
 |inr x=>obtain⟨t,e⟩:=(show∃t,u=Value.str x t from r);subst e;exact Nz P w x t
theorem Im:∀ {a:List Key} {us:List Value},Vals (a.map kV) us->ItemsAre (An P w) a us
 |[],_,r=>by rw[List.map_nil]at r;cases r;exact .nil
 |k::a,_,r=>by
  rw[List.map_cons]at r
  cases r with
  |cons h t=>exact .cons (Ca h) (Im t)
abbrev KT(H:Hp):List (List Key×V)->List (List Key×Addr×Value)->Prop:=Paired λp q=>p.1=q.1/\H q.2.1=some (.tup (p.1.map kV))/\RelV p.2 q.2.2
def KT.val{kvs:List (List Key×V)}(r:KT H kvs xs)(k:List Key):RelO (AY kvs k) ((atKey xs k).map (·.2)):=by
 induction r with
 |nil=>exact True.intro
 | @cons p q ps a h t j=>
   obtain⟨i,_,l⟩:=h
   by_cases e:p.1=k
   ·have d:q.1=k:=i.symm.trans e;have b:atKey (q::a) k=some q.2:=by simp[atKey,List.find?_cons,d]
    rw[Fv e,b];exact l
   ·have d:¬q.1=k:=λz=>e (i.trans z);have b:atKey (q::a) k=atKey a k:=by simp[atKey,List.find?_cons,d]
    rw[Fw e,b];exact j
def KT.repl{kvs:List (List Key×V)}(r:KT H kvs xs)(k:List Key){u:Value}(i:RelV y u):
 KT H (kvs.map λb=>if b.1=k then(b.1,y)else b) (xs.map (putAt k u)):=by
 induction r with
 |nil=>exact .nil
 | @cons p q ps o h t j=>
   rw[List.map_cons,List.map_cons];refine .cons ?_ j;obtain⟨a,d,l⟩:=h;unfold putAt
   by_cases e:p.1=k
   ·rw[if_pos e,if_pos (a.symm.trans e)];exact⟨a,d,i⟩
   ·rw[if_neg e,if_neg (λz=>e (a.trans z))];exact⟨a,d,l⟩
def KT.put{kvs:List (List Key×V)}(r:KT H kvs xs)(k:List Key){u:Value}(d:H b=some (.tup (k.map kV)))(a:RelV y u):
 KT H (putK kvs k y) (storedH xs k b u):=by
 have e:(kvs.any λh=>decide (h.1=k))=(atKey xs k).isSome:=by
  rw[JN,(r.val k).isSome_eq,Option.isSome_map]
 unfold putK storedH;rw[e]
 by_cases q:(atKey xs k).isSome=true
 ·rw[if_pos q,if_pos q];exact r.repl k a
 ·rw[if_neg q,if_neg q];exact Paired.snoc r ⟨rfl,d,a⟩
def KT.keeps{kvs:List (List Key×V)}(r:KT H kvs xs)(ht:∀b a,H b=some (.tup a)->H' b=some (.tup a)):KT H' kvs xs:=
 Paired.mapP r λ_ _ z=>⟨z.1,ht _ _ z.2.1,z.2.2⟩
def Lo{u:HO}(ok:HOk P w H h)(e:Rd H a u):ObjOk P w H h a u:=e.ok ok
def Cu(ok:HOk P w H h)(e:Rd H a (.dK kvs)):kvs.length<=sizeLine/\(a==sysModules)=false/\∃vs,KV kvs vs/\h.DictOf (An P w) a vs:=
 show ObjOk P w H h a (.dK kvs)from Lo ok e
def FM(ok:HOk P w H h)(e:H a=some (.dK kvs)):kvs.length<=sizeLine/\(a==sysModules)=false/\∃vs,KV kvs vs/\h.DictOf (An P w) a vs:=Cu ok (.inl e)
def key_of(ok:HOk P w H h)(e:H a=some (.tup (ks.map kV))):(tupleKind (An P w)).is h ks a:=by
 obtain⟨_,b,r,o,d,i,n,j⟩:=(show ObjOk P w H h a (.tup (ks.map kV))from ok a _ e);exact⟨o,b.toArray,n,d,i,j,by simpa using Im r⟩
def Da{kvs:List (List Key×V)}(ok:HOk P w H h)(e:Rd H a (.dT kvs)):kvs.length<=sizeLine/\(a==sysModules)=false/\
 ∃xs,KT H kvs xs/\h.DictOfH (tupleKind (An P w)) a xs:=by
 obtain⟨z,y,xs,r,o,d,i,j,v,B,G,I⟩:=(show ObjOk P w H h a (.dT kvs)from Lo ok e);refine⟨z,y,xs,r,o,d,i,j,v,B,G,λx hx=>?_,I⟩;have all:∀ {l:List (List Key×V)} {m:List (List Key×Addr×Value)},KT H l m->∀x∈m,(tupleKind (An P w)).is h x.1 x.2.1:=by
  intro l m q
  induction q with
  |nil=>intro x hx;exact nomatch hx
  | @cons p q ps L b t J=>
    intro x hx;rcases List.mem_cons.mp hx with e|hx
    ·subst e;exact key_of ok (by rw[<-b.1];exact b.2.1)
    ·exact J x hx
 exact all r x hx
def Vv{kvs:List (List Key×V)}(ok:HOk P w H h)(e:H a=some (.dT kvs)):kvs.length<=sizeLine/\(a==sysModules)=false/\
 ∃xs,KT H kvs xs/\h.DictOfH (tupleKind (An P w)) a xs:=Da ok (.inl e)
def DGet(H:Hp)(a:Addr)(y:V)(r:Option V):Prop:=
 (∃d k,Rd H a (.dK d)/\y=kV k/\r=AY d k)\/∃d k b,Rd H a (.dT d)/\y= .ref b/\H b=some (.tup (k.map kV))/\r=AY d k
def DPut(H:Hp)(a:Addr)(y v:V)(e:Hp):Prop:=
 (∃d k,H a=some (.dK d)/\y=kV k/\d.length<sizeLine/\e=upd H a (.dK (putK d k v)))\/
 ∃d k b,H a=some (.dT d)/\y= .ref b/\H b=some (.tup (k.map kV))/\d.length<sizeLine/\e=upd H a (.dT (putK d k v))
def DGet.k{k:Key}(e:H a=some (.dK kvs)):DGet H a (kV k) (AY kvs k):= .inl ⟨kvs,k, .inl e,rfl,rfl⟩
def DPut.k{k:Key}(e:H a=some (.dK kvs))(b:kvs.length<sizeLine):DPut H a (kV k) v (upd H a (.dK (putK kvs k v))):= .inl ⟨kvs,k,e,rfl,b,rfl⟩
section
variable{s:Shared}{u:Value}
def Inv.big(I:Inv X pins σ H s):sysModules<s.heap.objs.size:=by
 have h:mainGlobals<s.heap.objs.size:=(I.mod.glob.keeps I.bk).lt;exact Nat.lt_trans (by decide) h
def P5{Q:Value->Shared->Prop}(L:A.units+1<cLine)(I:Inv X pins σ H s)(g:DGet H a y (some v))(G:RelV y u)(h:∀j J,Inv X pins σ H J->RelV v j->Q j J):
 wpAny (model X.prog X.w) A (getItem (.ref a) u) Q E s:=by
 rcases g with⟨kvs,k,e,ey,l⟩|⟨kvs,k,b,e,ey,eb,l⟩
 ·subst ey;obtain⟨z,hd,vs,d,q⟩:=Cu I.hok e;obtain⟨j,x,i⟩:=RelO.some_of (v:=v) (o:=valueAt vs k) (by rw[l];exact d.val k);exact wpAny_getItem_of (Ca G) q.mapOf x (h j _ (I.tok _) i)
 ·subst ey
  cases(show u=Value.ref b from G)
  obtain⟨z,hd,M,d,q⟩:=Da I.hok e;obtain⟨j,x,i⟩:=RelO.some_of (v:=v) (o:=(atKey M k).map (·.2)) (by rw[l];exact d.val k);obtain⟨p,P,B⟩:=Option.map_eq_some_iff.mp x;refine wpAny_getItem_heap (tupleKind_room_in1 L) (key_of I.hok eb) q P ?_;rw[B];exact h j _ (I.tok _) i
def S6{Q:Value->Shared->Prop}(x:A.units+1<cLine)(I:Inv X pins σ H s)(g:DGet H a y o)(j:RelV y u)(h:∀p,Inv X pins σ H p->Q (.bool (!o.isSome)) p):
 wpAny (model X.prog X.w) A (compareOp .NotIn u (.ref a)) Q E s:=by
 rcases g with⟨kvs,k,e,ey,l⟩|⟨kvs,k,b,e,ey,eb,l⟩
 ·subst ey;obtain⟨z,hd,vs,d,i⟩:=Cu I.hok e;refine wpAny_notIn_of (Ca j) hd i.mapOf ?_;rw[<-(d.val k).isSome_eq,<-l];exact h _ (I.tok _)
 ·subst ey
  cases(show u=Value.ref b from j)
  obtain⟨z,hd,B,d,i⟩:=Da I.hok e;refine wpAny_notIn_heap (tupleKind_room_in1 x) (key_of I.hok eb) hd i ?_;have q:=(d.val k).isSome_eq;rw[Option.isSome_map]at q;rw[<-q,<-l];exact h _ (I.tok _)
def D4{ob:HO}(I:Inv X pins σ H s)(d:Mut (H a))(h:Heap.SameBut a s.heap h')(i:∃q,h'.get? a=some q)(new:ObjOk X.prog X.w (upd H a ob) h' a ob):
 Inv X pins σ (upd H a ob) {s with heap:=h',toks:=t'}:=
 I.write (x:=a) (e:=a) d (.inl rfl) (λb q j z=>(h.2 b j).trans z) i new
def FE(z:kvs.length<=sizeLine)(hd:(a==sysModules)=false)(b:KV kvs vs)(dd:h'.DictOf (An P w) a vs):
 ObjOk P w H' h' a (.dK kvs):=⟨z,hd,vs,b,dd⟩
def P4{Q:Unit->Shared->Prop}(S:A.units+1<cLine)(I:Inv X pins σ H s)(g:DPut H a y v H')(J:RelV y u)(L:RelV v r)(h:∀M,Inv X pins σ H' M->Q () M):
 wpAny (model X.prog X.w) A (setItem (.ref a) u r) Q E s:=by
 rcases g with⟨kvs,k,e,ey,l,eH⟩|⟨kvs,k,b,e,ey,eb,l,eH⟩
 ·subst ey eH;obtain⟨z,hd,vs,d,p⟩:=FM I.hok e;have x:vs.length<=sizeLine:=by rw[<-d.length];exact z
  have B:(putK kvs k v).length<=sizeLine:=by have:=EW kvs k v;lia
  refine wpAny_setItem_pairs (hsz:=x) (Ca J) p λP i G=>h _ ?_;have T:∃q,P.get? a=some q:=let⟨q,_,_,j,_⟩:=i;⟨q,j⟩;exact D4 I (by rw[e];exact True.intro) G T (FE B hd (d.put k L) i)
 ·subst ey eH
  cases(show u=Value.ref b from J)
  obtain⟨z,hd,U,d,p⟩:=Vv I.hok e;have x:U.length<=sizeLine:=by rw[<-Paired.length d];exact z
  have B:(putK kvs k v).length<=sizeLine:=by have:=EW kvs k v;lia
  refine wpAny_setItem_heap (hsz:=x) (tupleKind_room_in1 S) (key_of I.hok eb) p λP i G=>h _ ?_;obtain⟨q,Y,Z,j,h2,h3,h4,_,h5⟩:=i;refine D4 I (by rw[e];exact True.intro) G ⟨q,j⟩ ⟨B,hd,_,(d.put k eb L).keeps λc ys R=>?_,q,Y,Z,j,h2,h3,h4,h5⟩;rw[AH (Vr R e (λz=>nomatch z))];exact R
end
section
variable{s:Shared}{k:Key}{u:Value}
def Vw{more:List Value}{Q:Value->Shared->Prop}(I:Inv X pins σ H s)(e:H a=some (.dK kvs))(p:RelV (kV k) u)(l:AY kvs k=some v)(y:more=[]\/∃x,more=[x])
 (h:∀d B,Inv X pins σ (upd H a (.dK (DI kvs k))) B->RelV v d->Q d B):wpAny (model X.prog X.w) A (call (.builtin "dict.pop") (.ref a::u::more)) Q E s:=by
 obtain⟨z,hd,vs,b,G⟩:=FM I.hok e;obtain⟨d,J,r⟩:=RelO.some_of (v:=v) (o:=valueAt vs k) (by rw[<-l];exact b.val k);have L:(keyPart u).isSome=true:=by
  cases k with
  |inl i=>obtain⟨t,q⟩:=(show∃t,u=Value.int i t from p);subst q;rfl
  |inr x=>obtain⟨t,q⟩:=(show∃t,u=Value.str x t from p);subst q;rfl
 have M:argsOk "dict.pop" ⟨.ref a::u::more,[]⟩:=by
  rcases y with q|⟨x,q⟩
  ·subst q;exact PySem.F.args_dict_pop_2 _ _
  ·subst q;exact PySem.F.args_dict_pop_3 _ _ _
 refine call_meetsIn PySem.F.slot_dict_pop G.typeIs PySem.F.entry_dict_pop M (meets_dict_pop_there (An X.prog X.w) a (Ca p) more y L)
  ⟨vs,d,G,by rw[<-b.length];exact z,J,λP j R=>h d _ ?_ r⟩
 have S:∃q,P.get? a=some q:=let⟨q,_,_,T,_⟩:=j;⟨q,T⟩;exact D4 I (by rw[e];exact True.intro) R S (FE (Nat.le_trans (RJ kvs k) z) hd (b.drop k) j)
end
def ER(i:Expr):Prop:=∀a b,subscripted i false a b=operate [a,b] (getItem a b)
def J4{s:Shared}{slice:Expr}{id:String}{Q:Value->Shared->Prop}
 (p:typeLookup (.type T) "__getitem__"=pure (some (.builtin id))) (q:ER slice)
 (h:wpAny (model prog w) A (eval value env) (λo b=>wpAny (model prog w) A (eval slice env) (λi s₂=>s₂.TypeIs o T/\wpAny (model prog w) A (getItem o i) Q E s₂) E b) E s):
 wpAny (model prog w) A (eval (.Subscript value slice pos) env) Q E s:=by
 refine Subscript_ (wpAny_mono h (λo b e=>wpAny_mono e (λi s₂ a=>?_) λ_ _ x=>x) λ_ _ x=>x);obtain⟨l,a⟩:=a;unfold subscriptTail;refine wpAny_bind ?_;rw[getitemInPython_of_ne l.not_modules];refine wpAny_bind (wpAny_specialOf l p ?_);have fin:wpAny (model prog w) A (subscripted slice false o i) (λr d=>wpAny (model prog w) A (letTemporaryGo value o r>>=λ_=>pure r) Q E d) E s₂:=by
  rw[q o i];exact wpAny_operating (wpAny_mono a (λr d j=>wpAny_bind (wpAny_letTemporaryGo (wpAny_pure j))) λ_ _ x=>x)
 first
  |exact wpAny_pure (wpAny_bind fin)
  |exact wpAny_bind (wpAny_pure (wpAny_bind fin))
  |exact wpAny_bind fin
def N5{s:Shared}(I:Inv X pins σ H s)(g:DGet H a y o):s.TypeIs (.ref a) "dict":=by
 rcases g with⟨kvs,k,e,_,_⟩|⟨kvs,k,b,e,_,_,_⟩
 ·obtain⟨_,_,vs,_,d⟩:=Cu I.hok e;exact d.typeIs
 ·obtain⟨_,_,h,_,d⟩:=Da I.hok e;exact d.typeIs
def G9(d ty:TE):TE:=λσ H Q=>d σ H λx e=>ty σ e λy b=>∃a v,x= .ref a/\DGet b a y (some v)/\Q v b
def J2(ty d:TE):TE:=λσ H Q=>ty σ H λy e=>d σ e λx b=>∃a o,x= .ref a/\DGet b a y o/\Q (.bl (!o.isSome)) b
def Lm(d ty e:TE):TS:=λD σ H=>e σ H λv h=>d σ h λx i=>ty σ i λy j=>∃a b,x= .ref a/\DPut j a y v b/\D.nx σ b
section
variable{o:Expr}{ty tv:TE}
def SV(j:X.A.units+1<cLine)(l:PE X o td)(p:PE X i ty)(q:ER i):PE X (.Subscript o i pos) (G9 td ty):=by
 intro pins s σ H Q I h;refine J4 PySem.F.slot_dict_getitem.lookup q (thn (l pins s σ H _ I h) λu r ⟨x,z,B,G,J⟩=>thn (p pins r σ z _ B J) λT U L=>?_);obtain⟨y,M,d,P,a,v,ex,g,R⟩:=L;subst ex;obtain rfl:u=Value.ref a:=G;exact⟨N5 d g,P5 j d g P λY Z S b=>⟨v,M,S,b,R⟩⟩
def PH(b:X.A.units+1<cLine)(d:PE X i ty)(j:PE X o td):PC X .NotIn i o (J2 ty td):=by
 intro pins s σ H Q I h;refine thn (d pins s σ H _ I h) λR l ⟨y,p,q,r,v⟩=>thn (j pins l σ p _ q v) λu S z=>?_;obtain⟨x,B,G,J,a,L,ex,g,M⟩:=z;subst ex;obtain rfl:u=Value.ref a:=J;exact S6 b G g r λT P=>⟨.bl (!L.isSome),B,P,rfl,M⟩
def GN(b:X.A.units+1<cLine)(d:PE X o td)(j:PE X i ty)(l:PE X value tv)(p:swapsWith value (some (.Subscript o i pos')) pos.line X.env=pure false):
 PS X (.Assign [.Subscript o i pos'] value pos) (Lm td ty tv):=by
 intro pins s σ H D I h;refine wpAny_Assign_Subscript (thn (l pins s σ H _ I h) λr q ⟨v,z,B,G,J⟩=>thn (d pins q σ z _ B J) λu L ⟨x,M,P,Q,R⟩=>thn (j pins L σ M _ P R) λiv s3 ⟨y,H3,S,T,a,U,ex,g,Y⟩=>?_) p;subst ex;obtain rfl:u=Value.ref a:=Q;exact P4 b S g T G λs4 Z=>⟨σ,U,Z,Y⟩
end
def Js(h:Heap)(a:sysModules<h.objs.size):ObjOk P w H (h.push {cls:= .type "dict",data:= .dict #[]}) h.objs.size (.dK []):=
 ⟨Nat.zero_le _,beq_eq_false_iff_ne.mpr (Ne.symm (Nat.ne_of_lt a)),[], .nil,Heap.DictOf.new h⟩
def tDNewK:TE:=λ_ H Q=>∀p,H p=none->Q (.ref p) (upd H p (.dK []))
def F3:PE X (.Dict [] [] pos) tDNewK:=λpins s σ H Q I h=>
 wpAny_Dict_empty ⟨.ref s.heap.objs.size,_,I.laid (a:=s.heap.objs.size) (o:= .dK []) (t':=s.toks) (λ_ _ q=>Heap.get?_push_of_some _ q) (Nat.le_refl _) (Js s.heap I.big),rfl,h _ (I.hok.fresh (Nat.le_refl _))⟩
def E3:List (TE×TE)->W3->Hp->(List (V×V)->Hp->Prop)->Prop
 |[],_,H,Q=>Q [] H
 |(tk,tv)::r,σ,H,Q=>tk σ H λx H1=>tv σ H1 λy H2=>E3 r σ H2 λps H3=>Q ((x,y)::ps) H3
abbrev VV:List (V×V)->List (Value×Value)->Prop:=Paired λp q=>RelV p.1 q.1/\RelV p.2 q.2
def PPs(X:Cx)(pos:Pos)(keys:List (Option Expr))(values:List Expr)(a:List (TE×TE)):Prop:=
 ∀ (pins:List (Addr×Obj)) (s:Shared) (σ:W3) (H:Hp) (Q:List (V×V)->Hp->Prop),Inv X pins σ H s->E3 a σ H Q->
   wpAny (model X.prog X.w) X.A (evalPairs (pairTrees keys values X.env pos)) (λvs d=>∃ps b,Inv X pins σ b d/\VV ps vs/\Q ps b) X.xe s
def KQ:PPs X pos [] [] []:=λpins s σ H Q I h=>pairTrees_nil_walk ⟨[],H,I, .nil,h⟩
def JZ{k v:Expr}{ks:List (Option Expr)}{vs:List Expr}{tk tv:TE}(hk:PE X k tk)(b:PE X v tv)(d:PPs X pos ks vs trs):
 PPs X pos (some k::ks) (v::vs) ((tk,tv)::trs):=λpins s σ H Q I h=>
 pairTrees_cons_walk (thn (hk pins s σ H _ I h) λu e ⟨x,i,j,l,o⟩=>thn (b pins e σ i _ j o) λM p ⟨y,q,r,z,B⟩=>
  thn (d pins p σ q _ r B) λws P ⟨ps,G,J,a,L⟩=>⟨(x,y)::ps,G,J, .cons ⟨l,z⟩ a,L⟩)
def A3(kvs more:List (Key×V)):List (Key×V):=more.foldl (λa b=>putK a b.1 b.2) kvs
def KV.merge:∀ {more:List (Key×V)} {b:List (Key×Value)} {a:List (Key×V)} {vs:List (Key×Value)},KV more b->KV a vs->KV (A3 a more) (merged vs b):=by
 intro more b a vs r;unfold KV at r
 induction r generalizing a vs with
 |nil=>intro q;exact q
 | @cons p q ps j h t d=>
   intro i;have e:KV (putK a p.1 p.2) (stored vs q.1 q.2):=by
    have:=i.put p.1 h.2;rw[<-h.1];exact this
   exact d e
theorem Hj:∀ (more a:List (Key×V)),(A3 a more).length<=a.length+more.length
 |[],a=>by show a.length<=a.length+0;lia
 |p::r,a=>by
  have b:=Hj r (putK a p.1 p.2);have d:=EW a p.1 p.2;show(A3 (putK a p.1 p.2) r).length<=_;rw[List.length_cons];lia
theorem IR{P:Program}{w:World}:∀ {kvs:List (Key×V)} {ws:List (Value×Value)},VV (kvs.map λkv=>(kV kv.1,kv.2)) ws->∃rs,Carries (An P w) ws rs/\KV kvs rs
 |[],_,r=>by rw[List.map_nil]at r;cases r;exact⟨[],True.intro, .nil⟩
 |p::kvs,_,r=>by
  rw[List.map_cons]at r
  cases r with
  | @cons a b as bs h t=>
    obtain⟨rs,c,q⟩:=IR (P:=P) (w:=w) t;obtain⟨b1,b2⟩:=b;exact⟨(p.1,b2)::rs,⟨Ca h.1,rfl,c⟩, .cons ⟨rfl,h.2⟩ q⟩
def FF(b:List (TE×TE)):TE:=λσ H Q=>∀p,H p=none->E3 b σ (upd H p (.dK [])) λps d=>d p=some (.dK [])/\∃a:List (Key×V),ps=a.map (λe=>(kV e.1,e.2))/\a.length<=15/\Q (.ref p) (upd d p (.dK (A3 [] a)))
def GP{keys:List (Option Expr)}(h:PPs X pos keys values trs)(b:keys.all (·.isSome)=true)(r:keys.length=values.length)(h0:keys≠[])
 (j:keys.length<=15):PE X (.Dict keys values pos) (FF trs):=by
 intro pins s σ H Q I q;have v:=I.hok.fresh (Nat.le_refl s.heap.objs.size);have x:=I.laid (a:=s.heap.objs.size) (o:= .dK []) (h':=s.heap.push {cls:= .type "dict",data:= .dict #[]}) (t':=s.toks) (λ_ _ q=>Heap.get?_push_of_some _ q) (Nat.le_refl _) (Js s.heap I.big);refine wpAny_Dict_walk (knd:=An X.prog X.w) b r h0 j (thn (h pins _ σ _ _ x (q _ v)) λws s2 y=>?_);obtain⟨ps,H2,p,l,e,d,B,lk,G⟩:=y;subst B;obtain⟨J,c,L⟩:=IR (P:=X.prog) (w:=X.w) l;obtain⟨z,hd,M,R,S⟩:=FM p.hok e
 cases R
 refine⟨J,c,S,λh' i T=>⟨.ref s.heap.objs.size,_,?_,rfl,G⟩⟩;have U:(A3 [] d).length<=sizeLine:=by
  have Y:=Hj d [];rw[List.length_nil]at Y;rw[sizeLine_eq];lia
 have Z:∃q,h'.get? s.heap.objs.size=some q:=let⟨q,_,_,hq,_⟩:=i;⟨q,hq⟩;exact D4 p (by rw[e];exact True.intro) T Z (FE U hd (L.merge .nil) i)
structure M1 (X:Cx) (o:Expr) (m:Str) (apos:Pos) (e:Expr) (cpos:Pos):Prop where
 base:attributeBase o m X.env (eval o X.env)=eval o X.env
 few:((backTo cpos (starEach [e] X.env)).all (λx=> !x.1)&&(backToKw cpos (keywordEach [] X.env)).all (λx=>x.1.isSome)
  &&decide (([e]:List Expr).length+([]:List Keyword).length+(if([]:List Keyword).isEmpty then 0 else 1)<30))=true
 line:(apos.endLine==cpos.line)=true
 trees:backTo cpos (starEach [e] X.env)=[(false,eval e X.env)]
structure M2 (X:Cx) (o:Expr) (m:Str) (apos:Pos) (e f:Expr) (cpos:Pos):Prop where
 base:attributeBase o m X.env (eval o X.env)=eval o X.env
 few:((backTo cpos (starEach [e,f] X.env)).all (λx=> !x.1)&&(backToKw cpos (keywordEach [] X.env)).all (λx=>x.1.isSome)
  &&decide (([e,f]:List Expr).length+([]:List Keyword).length+(if([]:List Keyword).isEmpty then 0 else 1)<30))=true
 line:(apos.endLine==cpos.line)=true
 trees:backTo cpos (starEach [e,f] X.env)=[(false,eval e X.env),(false,eval f X.env)]
def IsD(H:Hp)(a:Addr):Prop:=(∃b,Rd H a (.dK b))\/∃b,Rd H a (.dT b)
def LH{s:Shared}(I:Inv X pins σ H s)(d:IsD H a):
 s.TypeIs (.ref a) "dict"/\(∀b,Value.ref a= .ref b->∃ob,s.heap.get? b=some ob/\ob.dict=none)/\(a==sysModules)=false:=by
 rcases d with⟨kvs,e⟩|⟨kvs,e⟩
 ·obtain⟨_,hd,vs,_,h⟩:=Cu I.hok e;refine⟨h.typeIs,λb q=>?_,hd⟩
  cases q
  obtain⟨ob,_,_,i,j,_⟩:=h;exact⟨ob,i,j.2.1⟩
 ·obtain⟨_,hd,l,_,h⟩:=Da I.hok e;refine⟨h.typeIs,λb q=>?_,hd⟩
  cases q
  obtain⟨ob,_,_,i,j,_⟩:=h;exact⟨ob,i,j.2.1⟩
section
variable{s:Shared}{u:Value}
def U9{Q:Value->Shared->Prop}(B:A.units+1<cLine)(I:Inv X pins σ H s)(g:DGet H a y o)(p:RelV y u)(q:RelV d r)(h:∀v x,Inv X pins σ H x->RelV (o.getD d) v->Q v x):
 wpAny (model X.prog X.w) A (call (.builtin "dict.get") [.ref a,u,r]) Q E s:=by
 rcases g with⟨kvs,k,e,ey,l⟩|⟨kvs,k,b,e,ey,eb,l⟩
 ·subst ey;obtain⟨z,hd,vs,i,j⟩:=Cu I.hok e;refine call_meetsIn PySem.F.slot_dict_get j.typeIs PySem.F.entry_dict_get (PySem.F.args_dict_get_3 _ _ _) (meets_dict_get_default (An X.prog X.w) a (Ca p) hd r) ⟨_,j.mapOf,h _ _ (I.tok _) ?_⟩;rw[l];exact(i.val k).getD q
 ·subst ey
  cases(show u=Value.ref b from p)
  obtain⟨z,hd,G,i,j⟩:=Da I.hok e;refine call_meetsIn PySem.F.slot_dict_get j.typeIs PySem.F.entry_dict_get (PySem.F.args_dict_get_3 _ _ _) (meetsH_dict_get_default (tupleKind (An X.prog X.w)) a b hd r) ⟨tupleKind_room_in1 B,k,G,key_of I.hok eb,j,h _ _ (I.tok _) ?_⟩;rw[l];exact(i.val k).getD q
end
def K0(e ty tx:TE):TE:=λσ H Q=>e σ H λx b=>∃a,x= .ref a/\IsD b a/\ty σ b λy h=>tx σ h λz d=>∃o,DGet d a y o/\Q (o.getD z) d
def Kz(h ty:TE):TE:=λσ H Q=>h σ H λx d=>∃a,x= .ref a/\IsD d a/\ty σ d λy e=>∃b k v,e a=some (.dK b)/\y=kV k/\AY b k=some v/\Q v (upd e a (.dK (DI b k)))
section
variable{o f:Expr}{apos cpos:Pos}{ty tx:TE}
def Qu(j:X.A.units+1<cLine)(l:PE X o td)(p:PE X e ty)(hf:PE X f tx)(m:M2 X o "get" apos e f cpos):PE X (.Call (.Attribute o "get" apos) [e,f] [] cpos) (K0 td ty tx):=by
 intro pins s σ H Q I h;refine wpAny_Call_method m.base m.few m.line PySem.F.plainAttrs_dict PySem.F.slot_dict_get PySem.F.type_dict_get (thn (l pins s σ H _ I h) λu q r=>?_);obtain⟨x,v,i,B,a,ex,d,G⟩:=r;subst ex;obtain rfl:u=Value.ref a:=B;obtain⟨J,L,_⟩:=LH i d;refine⟨J,L,?_⟩;rw[m.trees];refine Calls.callWith_builtin rfl (Calls.evalArgs_plain (Calls.spliced_cons (thn (p pins q σ v _ i G) λiv M ⟨y,P,R,S,T⟩=>
  Calls.spliced_cons (thn (hf pins M σ P _ R T) λfv s3 ⟨z,U,Y,Z,ov,g,q3⟩=>Calls.spliced_nil ?_))))
 exact U9 j Y g S Z λw' s4 I4 b=>⟨_,U,I4,b,q3⟩
def Qs(j:PE X o td)(p:PE X e ty)(m:M1 X o "pop" apos e cpos):PE X (.Call (.Attribute o "pop" apos) [e] [] cpos) (Kz td ty):=by
 intro pins s σ H Q I h;refine wpAny_Call_method m.base m.few m.line PySem.F.plainAttrs_dict PySem.F.slot_dict_pop PySem.F.type_dict_pop (thn (j pins s σ H _ I h) λu q r=>?_);obtain⟨x,z,i,B,a,ex,d,G⟩:=r;subst ex;obtain rfl:u=Value.ref a:=B;obtain⟨J,L,_⟩:=LH i d;refine⟨J,L,?_⟩;rw[m.trees];refine Calls.callWith_builtin rfl (Calls.evalArgs_plain (Calls.spliced_cons (thn (p pins q σ z _ i G) λZ s2 ⟨y,H2,M,P,R,k,v,S,T,l,U⟩=>Calls.spliced_nil ?_)));subst T;exact Vw M S P l (.inl rfl) λw' s3 Y b=>⟨v,_,Y,b,U⟩
end
def TF(i:Nat)(G:Addr->Prop)(spOf:Addr->Sp)(R:XR)(t:TA):TE:=λσ H Q=>∃f,σ[i]? =some (some (.ref f))/\G f/\t σ H λvs a=>spOf f vs a Q (xk R σ)
def SU(i:Nat){k:Nat}{ps:List Str}{R:XR}{t:TA}{p:Pos}
 (U:∀f,G f->∃fd,FnOk X.prog X.w X.K X.mg X.base (CXE X.prog X.w) k f fd ps (spOf f)/\W.keepIn X.K (.ref f)=true/\Binds X.K fd ps []) (M:Room k X.A) (P:∀e j,XF X R e j->X.xe e j) (S:PA X (e::es) t)
 (T:X.N[i]? =some x:=by rfl) (Y:Vis X.env.scope x:=by first|exact Or.inl rfl|exact Or.inr (Or.inl rfl)|exact Or.inr (Or.inr rfl)) (hd:(x==("__debug__":Str))=false:=by decide) (l:(x==("__classdict__":Str))=false:=by decide)
 (Z:starEach (e::es) X.env=(false,eval e X.env)::starEach es X.env:=by rfl) (o:(backTo pos (starEach es X.env)).any (·.1)=false:=by rfl):
 PE X (.Call (.Name x p) (e::es) [] pos) (TF i G spOf R t):=by
 intro pins s σ H Q I h;obtain⟨f,ef,hf,h⟩:=h;obtain⟨fd,F,hk,hb⟩:=U f hf;refine wpAny_Call_Name_kw (thn (K7 T Y hd l pins s σ H (λv H'=>v= .ref f/\H'=H) I ⟨.ref f,ef,rfl,rfl⟩) λu s0 z_=>?_);obtain⟨v,H0,B,r0,J,eH⟩:=z_;subst J eH;obtain rfl:u=Value.ref f:=r0;refine W.callWith_K (h₀:=X.base) B.ok.mod.kin hk (thn (S pos pins s0 σ _ _ B h) λd y ⟨vs,L,a,r,q⟩=>⟨a.kIn,?_⟩) Z o;have hl:d.length=ps.length:=by rw[<-r.length];exact F.len _ _ _ _ q
 refine wpAny_call (codeAny_mono (F.run X.A X.stack y L ⟨d,[]⟩ d vs Q (xk R σ) M a.env0 ?_ r q) λres j b=>?_)
 ·have z:=hb y d a.kIn (by rw[List.append_nil];exact hl);rw[List.append_nil]at z;exact z
 ·cases res with
  |error J=>exact P _ _ ⟨pins,σ,L,y,a,b⟩
  |ok fl=>
   cases fl with
   |ret u=>exact a.after b
   |next=>exact False.elim b
   |brk=>exact False.elim b
   |cont=>exact False.elim b
def FDc(P:Program)(w:World)(K:W.Frag)(a:Addr)(kvs:List (Key×V)):Prop:=∃ (o:Obj) (b:Array DictEntry) (d:Nat) (vs:List (Key×Value)),KV kvs vs/\K.lookup a=some o/\o.ExactDict/\o.data=Data.dict b d/\KeysOf (An P w) b/\Pairs (An P w) b.toList vs/\(vs.map λx=>x.1).Nodup/\(a==sysModules)=false
def FDc.of{s:Shared}(h:FDc X.prog X.w X.K a kvs)(I:Inv X pins σ H s):(a==sysModules)=false/\∃vs,KV kvs vs/\s.heap.DictOf (An X.prog X.w) a vs:=by
 obtain⟨o,b,d,vs,r,e,ex,hd,hk,i,nd,ns⟩:=h;exact⟨ns,vs,r,o,b,d,I.kIn _ _ e,ex,hd,hk,i,nd⟩
def Gc(P:Program)(w:World)(K:W.Frag)(d ty:TE):TE:=λσ H Q=>d σ H λx e=>ty σ e λy h=>∃a b k v,x= .ref a/\FDc P w K a b/\y=kV k/\AY b k=some v/\Q v h
def Qt{o:Expr}{ty:TE}(P:Program)(w:World)(K:W.Frag)(q:PE X o td)(r:PE X i ty)(z:ER i)(B:X.prog=P:=by rfl)(b:X.w=w:=by rfl)(G:X.K=K:=by rfl):PE X (.Subscript o i pos) (Gc P w K td ty):=by
 subst B b G;intro pins s σ H Q I h;refine J4 PySem.F.slot_dict_getitem.lookup z (thn (q pins s σ H _ I h) λu J ⟨x,L,M,R,S⟩=>thn (r pins J σ L _ M S) λiv s2 T=>?_);obtain⟨y,U,j,Y,a,Z,k,v,ex,f,ey,l,q2⟩:=T;subst ex ey;obtain rfl:u=Value.ref a:=R;obtain⟨_,vs,d,p⟩:=f.of j;obtain⟨w',b,e⟩:=RelO.some_of (v:=v) (o:=valueAt vs k) (by rw[<-l];exact d.val k);exact⟨p.typeIs,wpAny_getItem_of (Ca Y) p.mapOf b ⟨v,U,j.tok _,e,q2⟩⟩
def JP(P:Program)(w:World)(K:W.Frag)(ty d:TE):TE:=λσ H Q=>ty σ H λy e=>d σ e λx h=>∃a b k,x= .ref a/\FDc P w K a b/\y=kV k/\Q (.bl (!(AY b k).isSome)) h
def ON{o:Expr}{ty:TE}(P:Program)(w:World)(K:W.Frag)(e:PE X i ty)(j:PE X o td)(l:X.prog=P:=by rfl)(p:X.w=w:=by rfl)(q:X.K=K:=by rfl):PC X .NotIn i o (JP P w K ty td):=by
 subst l p q;intro pins s σ H Q I h;refine thn (e pins s σ H _ I h) λY r ⟨y,v,z,B,G⟩=>thn (j pins r σ v _ z G) λu Z J=>?_;obtain⟨x,L,d,M,a,R,k,ex,f,S,T⟩:=J;subst ex S;obtain rfl:u=Value.ref a:=M;obtain⟨ns,vs,b,U⟩:=f.of d;refine wpAny_notIn_of (Ca B) ns U.mapOf ?_;rw[<-(b.val k).isSome_eq];exact⟨.bl _,L,d.tok _,rfl,T⟩
def Df(w:World)(x:Str×Tok×Value):DictEntry:=⟨PyData.keyHash w.params x.1, .str x.1 x.2.1,x.2.2⟩
theorem Iq:∀l:List (Str×Tok×Value),Pairs (An P w) (l.map (Df w)) (l.map λx=>((.inr x.1:Key),x.2.2))
 |[]=> .nil
 |x::l=> .cons (Fo x.1 x.2.1) rfl (Iq l)
theorem LO:∀ {l:List (Str×Tok×Value)} {vs:List V},Paired RelV vs (l.map λx=>x.2.2)->KV ((l.map λx=>(.inr x.1:Key)).zip vs) (l.map λx=>((.inr x.1:Key),x.2.2))
 |[],[],_=> .nil
 |[],_::_,h=>by cases h
 |x::l,[],h=>by cases h
 |x::l,v::vs,h=>by
  cases h with
  |cons a b=>exact .cons ⟨rfl,a⟩ (LO b)
def U5{o:Obj}(l:List (Str×Tok×Value)){vs:List V}(i:K.lookup a=some o)(ex:o.ExactDict)(j:o.data= .dict (l.map (Df w)).toArray ep)(p:Paired RelV vs (l.map λx=>x.2.2))(nd:(l.map λx=>x.1).Nodup)(ns:(a==sysModules)=false):
 FDc P w K a ((l.map λx=>(.inr x.1:Key)).zip vs):=by
 refine⟨o,_,ep,_,LO p,i,ex,j,λe q=>?_,by simpa using Iq l,?_,ns⟩
 ·have d:e∈l.map (Df w):=by simpa using q
  obtain⟨x,r,rfl⟩:=List.mem_map.mp d;exact⟨.inr x.1,Fo x.1 x.2.1,rfl⟩
 ·rw[List.map_map];have:(l.map ((λx=>x.1)∘λx:Str×Tok×Value=>((.inr x.1:Key),x.2.2)))=(l.map λx=>x.1).map Sum.inr:=by rw[List.map_map];rfl
  rw[this];exact List.Pairwise.map _ (λa b h z=>h (Sum.inr.inj z)) nd
theorem GD:∀ (names:List (Str×NameKind)) (h:Heap) (i:List (Str×Addr)) (x:Str) (c:Addr),(cellsFrom h.objs.size names i).lookup x=some c->
 ((x,NameKind.cell)∈names/\h.objs.size<=c/\(pushCells h names).IsCell c none)\/i.lookup x=some c
 |[],_,_,_,_,e=> .inr e
 |(l,k)::r,h,i,x,c,e=>by
  unfold cellsFrom at e;unfold pushCells
  by_cases hk:(k==NameKind.cell)=true
  ·rw[if_pos hk]at e⊢;rw[<-Heap.size_push h {cls:= .type "cell",data:= .cell none}]at e;rcases GD r _ _ x c e with⟨a,b,d⟩|q
   ·refine .inl ⟨List.mem_cons_of_mem _ a,?_,d⟩;rw[Heap.size_push]at b;lia
   ·rw[List.lookup_cons]at q
    cases j:x==l with
    |true=>
     rw[j]at q
     cases q
     have o:=eq_of_beq j;have p:k= .cell:=by simpa using hk
     subst o;subst p;exact .inl ⟨List.mem_cons_self,Nat.le_refl _,⟨_,pushCells_keeps _ _ _ _ (Heap.get?_push_size _ rfl),rfl⟩⟩
    |false=>rw[j]at q;exact .inr q
  ·rw[if_neg hk]at e⊢;rcases GD r h i x c e with⟨a,b,d⟩|q
   ·exact .inl ⟨List.mem_cons_of_mem _ a,b,d⟩
   ·exact .inr q
theorem ED:∀ (names:List (Str×NameKind)) (n:Nat) (a:List (Str×Addr)) (x:Str),(x,NameKind.cell)∉names->(cellsFrom n names a).lookup x=a.lookup x
 |[],_,_,_,_=>rfl
 |(b,k)::r,n,a,x,d=>by
  unfold cellsFrom;have e:(x,NameKind.cell)∉r:=λz=>d (List.mem_cons_of_mem _ z)
  by_cases hk:(k==NameKind.cell)=true
  ·rw[if_pos hk,ED r _ _ x e,List.lookup_cons];have:(x==b)=false:=by
    cases q:x==b with
    |false=>rfl
    |true=>
     have h:=eq_of_beq q;have i:k= .cell:=by simpa using hk
     subst h;subst i;exact absurd List.mem_cons_self d
   rw[this]
  ·rw[if_neg hk];exact ED r n a x e
theorem Gx:∀ (names:List (Str×NameKind)) (n:Nat) (a:List (Str×Addr)) (x:Str),((x,NameKind.cell)∈names\/∃c,a.lookup x=some c/\n<=c)->∃c,(cellsFrom n names a).lookup x=some c/\n<=c
 |[],n,a,x,h=>by
  rcases h with z|z
  ·cases z
  ·exact z
 |(d,k)::r,n,a,x,h=>by
  unfold cellsFrom
  by_cases hk:(k==NameKind.cell)=true
  ·rw[if_pos hk]
   by_cases b:(x,NameKind.cell)∈r
   ·obtain⟨c,e,l⟩:=Gx r (n+1) ((d,n)::a) x (.inl b);exact⟨c,e,by lia⟩
   ·rw[ED r _ _ x b,List.lookup_cons]
    cases i:x==d with
    |true=>exact⟨n,rfl,Nat.le_refl _⟩
    |false=>
     rcases h with z|z
     ·rcases List.mem_cons.mp z with q|q
      ·cases q;simp at i
      ·exact absurd q b
     ·exact z
  ·rw[if_neg hk];refine Gx r n a x ?_;rcases h with z|z
   ·rcases List.mem_cons.mp z with q|q
    ·cases q;exact absurd rfl hk
    ·exact .inl q
   ·exact .inr z
theorem Gy:∀ (names:List (Str×NameKind)) (n:Nat) (d:List (Str×Addr)),(∀x y c,d.lookup x=some c->d.lookup y=some c->x=y)->(∀x c,d.lookup x=some c->c<n)->
 ∀x y c,(cellsFrom n names d).lookup x=some c->(cellsFrom n names d).lookup y=some c->x=y
 |[],_,_,h,_=>h
 |(e,k)::r,n,d,h,i=>by
  unfold cellsFrom
  by_cases hk:(k==NameKind.cell)=true
  ·rw[if_pos hk];refine Gy r (n+1) ((e,n)::d) (λx y c a b=>?_) λx c a=>?_
   ·rw[List.lookup_cons]at a b
    cases j:x==e<;>cases l:y==e<;>rw[j]at a<;>rw[l]at b
    ·exact h x y c a b
    ·cases b;exact absurd (i x _ a) (Nat.lt_irrefl _)
    ·cases a;exact absurd (i y _ b) (Nat.lt_irrefl _)
    ·rw[eq_of_beq j,eq_of_beq l]
   ·rw[List.lookup_cons]at a
    cases j:x==e<;>rw[j]at a
    ·exact Nat.lt_succ_of_lt (i x c a)
    ·cases a;exact Nat.lt_succ_self _
  ·rw[if_neg hk];exact Gy r n d h i
def RS{s:Shared}{cl:List (Str×Addr)}{Q:Env->Shared->Prop}
 (h:Q {scope:=scope,locals:=s.heap.objs.size,globals:=env.globals,cells:=cellsFrom (s.heap.objs.size+1) scope.names cl,qual:=env.qual,func:=none,code:=env.code,frame:=env.frame,builtins:=env.builtins}
   {s with heap:=pushCells (s.heap.push {cls:= .type "dict",data:= .dict #[]}) scope.names}):
 wpAny M A (newFunctionEnv scope env.globals cl [] env.qual none .none (some env)) Q E s:=by
 simp only[newFunctionEnv,Option.isSome_some,if_true];refine wpAny_bind (wpAny_alloc ?_);refine wpAny_bind (wpAny_layCells _ (λname kind cells=>by cases a:kind==NameKind.cell<;>simp[a]) _ _ _ _ ?_);rw[show({s with heap:=s.heap.push {cls:= .type "dict",data:= .dict #[]}}:Shared).heap.objs.size=s.heap.objs.size+1 from Heap.size_push ..];rw[List.forIn_nil];exact wpAny_bind (wpAny_pure (wpAny_pure h))
def Br(X:Cx)(own:List Str)(sel:List Nat)(scope:Scope)(cl:List (Str×Addr))(C:Addr)(a:Shared)(b:Hp)(d:List Addr):Cx where
 prog:=X.prog
 w:=X.w
 K:=X.K
 mg:=X.mg
 base:=X.base
 A:=X.A
 N:=own++sel.map λj=>X.N.getD j Str.empty
 s₀:=a
 H₀:=b
 env:=compEnvC scope cl C X.env
 outer:=X.stack
 stack:=X.stack
 ex:=d
 fn:=λx=>scope.names.lookup x==some .cell
 calm:=X.calm
 pn:=[]
 xe:=λ_ _=>False
structure CompOkC (osc:Scope) (N:List Str) (own:List Str) (sel:List Nat) (scope:Scope):Prop where
 kind:scope.kind= .function
 cell:∀y∈scope.names,y.2= .cell->scope.names.lookup y.1=some .cell
 names:∀y∈scope.names,y.2= .local->scope.names.lookup y.1=some .local
 free:∀y∈scope.names,y.2= .free->osc.names.lookup y.1=some .cell\/osc.names.lookup y.1=some .free
 seln:∀j∈sel,j<N.length/\scope.names.lookup (N.getD j Str.empty)=some .free/\(osc.names.lookup (N.getD j Str.empty)=some .cell\/osc.names.lookup (N.getD j Str.empty)=some .free)
def IQ{use:Option (Value->Sem Unit)}
 (S:CompOkC X.env.scope X.N own sel scope) (hc:X.calm=true) (hi:PI X tg iter wi)
 (hg:∀cl C M P Z,PG (Br X own sel scope cl C M P Z) tg g) (hk:GK own.length g)
 (ht:∀cl C M P Z,PIf (Br X own sel scope cl C M P Z) ifs tt) (he:∀cl C M P Z,PE (Br X own sel scope cl C M P Z) elt te)
 (hs:∀x,foldedSetIterable iter X.env x=pure x) {pins:List (Addr×Obj)} {s:Shared} {σ:W3} {H:Hp} {Q:VK} {ps:Pos} (I0:Inv X pins σ H s) (h:FG own sel wi g tt te σ H Q)
 (fin:∀ (D C:Addr) (H':Hp) (s':Shared) (m:Str->Option Value),Inv X pins σ H' s'->s'.heap.Ns C m->Far X pins H' C->Q (.ref D) H'->compPost (model X.prog X.w) X.A X.xe use Qo (.ref D) C (.ok .next) s'):
 wpAny (model X.prog X.w) X.A (comprehension (.ListComp elt [⟨tg,iter,ifs,0⟩] scope pos) scope X.env ps (newList []) false (eval iter X.env) use) Qo X.xe s:=by
 obtain⟨cl0,hclos,R,hfree0⟩:=Kq (scope:=scope) (env:=X.env) λy hy e=>I0.ok.has y.1 (S.free y hy e);refine wpAny_comprehension_free (use:=use) rfl hs hclos S.kind S.names (thn (hi pins s σ H _ I0 h) λv s1 h1=>thn h1 λitv M h2=>?_);obtain⟨it,Z,tn,J,P,e,I,T,st2,f2,h3⟩:=h2;subst e;clear h h1 I0;refine wpAny_newObj_type (RS ?_)
 dsimp only
 generalize hP:M.heap.push {cls:= .type "list",dict:=none,data:= .seq ([]:List Value).toArray}=P1;generalize hD:M.heap.objs.size=D;generalize hC:P1.objs.size=C;have hCD:C=D+1:=by rw[<-hC,<-hP,Heap.size_push,hD]
 have U:D<C:=by rw[hCD];exact Nat.lt_succ_self D
 have hDC:D≠C:=Nat.ne_of_lt U;have neC:∀b:Addr,b<D->b≠C:=λb B=>Nat.ne_of_lt (Nat.lt_trans B U);have neD:∀b:Addr,b<D->b≠D:=λb B=>Nat.ne_of_lt B;have hsD:M.heap.objs.size<=D:=Nat.le_of_eq hD;have hsC:M.heap.objs.size<=C:=Nat.le_trans hsD (Nat.le_of_lt U);have fresh:∀a,D<=a->P a=none:=λa ha=>I.hok.fresh (by rw[hD];exact ha);have hnD:P D=none:=fresh D (Nat.le_refl _);have hnC:P C=none:=fresh C (Nat.le_of_lt U);have below:∀b o,M.heap.get? b=some o->b<D:=λb o e=>by rw[<-hD];exact Heap.lt_size e
 generalize hh1:pushCells (P1.push {cls:= .type "dict",data:= .dict #[]}) scope.names=h1;have keepP:∀b o,P1.get? b=some o->h1.get? b=some o:=λb o e=>by rw[<-hh1];exact pushCells_keeps _ _ b o (Heap.get?_push_of_some _ e)
 have G:∀b o,M.heap.get? b=some o->h1.get? b=some o:=λb o e=>keepP b o (hP▸Heap.get?_push_of_some _ e);have hns1:h1.Ns C (λ_=>none):=by rw[<-hh1,<-hC];exact(Heap.Ns.new P1 (.type "dict")).keeps (pushCells_keeps _ _)
 have gD:h1.get? D=some {cls:= .type "list",dict:=none,data:= .seq ([]:List Value).toArray}:=by
  refine keepP _ _ ?_;rw[<-hP,<-hD];exact Heap.get?_push_size _ rfl
 have szP:(P1.push {cls:= .type "dict",data:= .dict #[]}).objs.size=C+1:=by rw[Heap.size_push,hC]
 have hcb:∀x c,cl0.lookup x=some c->c<D:=λx c e=>by
  obtain⟨u,o,z,_⟩:=I.cell x c (R _ _ e);exact below c o z
 generalize hcs:cellsFrom (C+1) scope.names cl0=cl;have L:∀x c,cl.lookup x=some c->((x,NameKind.cell)∈scope.names/\C+1<=c/\h1.IsCell c none)\/X.env.cells.lookup x=some c:=λx c e=>by
  rw[<-hcs,<-szP]at e;rcases GD _ _ _ x c e with⟨a,b,d⟩|q
  ·rw[szP]at b;rw[hh1]at d;exact .inl ⟨a,b,d⟩
  ·exact .inr (R _ _ q)
 have hinj:∀x y c,cl.lookup x=some c->cl.lookup y=some c->x=y:=by
  rw[<-hcs];exact Gy _ _ _ (λx y c a b=>I.ok.inj x y c (R _ _ a) (R _ _ b)) λx c e=>Nat.lt_succ_of_lt (Nat.lt_trans (hcb x c e) U)
 have hcell:∀x,(x,NameKind.cell)∈scope.names->∃c,cl.lookup x=some c/\C+1<=c:=λx hx=>by rw[<-hcs];exact Gx _ _ _ x (.inl hx)
 have hfree:∀y∈scope.names,y.2= .free->∃c,cl.lookup y.1=some c:=λy hy e=>by
  by_cases hm:(y.1,NameKind.cell)∈scope.names
  ·obtain⟨c,q,_⟩:=hcell _ hm;exact⟨c,q⟩
  ·rw[<-hcs,ED _ _ _ _ hm];exact hfree0 y hy e
 have hold:∀x,scope.names.lookup x=some .free->∃c,cl.lookup x=some c/\X.env.cells.lookup x=some c:=λx hx=>by
  have hm:(x,NameKind.cell)∉scope.names:=λz=>by have:=S.cell _ z rfl;rw[hx]at this;cases this
  obtain⟨c,q⟩:=hfree0 _ (PySem.mem_of_lookup hx) rfl;exact⟨c,by rw[<-hcs,ED _ _ _ _ hm];exact q,R _ _ q⟩
 obtain⟨W,⟨m0,w0⟩,turn⟩:=h3 D hnD;have fpb:∀b∈Z,b<D:=λb B=>by obtain⟨o,e,_⟩:=T.obj _ _ st2 b B;exact below b o e
 generalize hY:Br X own sel scope cl C M P Z=Y;have hg:=hg cl C M P Z;have ht:=ht cl C M P Z;have he:=he cl C M P Z;rw[hY]at hg ht he;have okY:Y.Ok:=by
  subst hY;refine⟨I.ok.mod,S.kind,I.ok.glob,I.ok.blt,?_,hinj,λx hx=>?_,λx c hf e=>?_,λz=>I.ok.hd z,I.ok.frames, .inl rfl,λb B=>⟨?_,λx c e=>?_⟩,I.bs,
   Nat.le_trans I.ok.bsz I.sz,λb o e B=>?_,λb B z=>?_,I.stack,I.stkFree⟩
  ·exact hsC
  ·have hx':(relabel scope X.env).names.lookup x=some .cell\/(relabel scope X.env).names.lookup x=some .free:=hx;have hf:scope.names.lookup x=some .cell\/scope.names.lookup x=some .free:=by
    rcases hx' with z|z
    ·rcases Dm z with q|q
     ·exact .inl q
     ·exact .inr q
    ·rcases Dm z with q|q<;>exact .inr q
   rcases hf with hf|hf
   ·obtain⟨c,q,_⟩:=hcell _ (PySem.mem_of_lookup hf);exact⟨c,q⟩
   ·exact hfree _ (PySem.mem_of_lookup hf) rfl
  ·have hf':scope.names.lookup x=some .cell:=by
    have:(scope.names.lookup x==some NameKind.cell)=true:=hf;exact eq_of_beq this
   obtain⟨c',q,l⟩:=hcell x (PySem.mem_of_lookup hf');have e':cl.lookup x=some c:=e;rw[q]at e'
   cases e'
   exact Nat.le_trans hsC (by lia)
  ·exact neC b (fpb b B)
  ·rcases L x c e with⟨_,l,_⟩|q
   ·have:=fpb b B;intro z;subst z;exact absurd (Nat.lt_of_lt_of_le this (Nat.le_of_lt U)) (by lia)
   ·exact(f2 b B).2.2.2.2.1 x c q
  ·rcases(f2 b B).2.2.2.1 with z|z
   ·exact I.ok.noex b o e z
   ·exact absurd (Nat.lt_of_lt_of_le (Heap.lt_size e) (Nat.le_trans I.ok.bsz z)) (Nat.lt_irrefl _)
  ·rcases List.mem_cons.mp (I.stkSub b z)with q|q
   ·exact(f2 b B).2.1 q
   ·exact(f2 b B).2.2.1 q
 have eo:ObjOk X.prog X.w (upd P D (.lst [])) h1 D (.lst []):=⟨by decide,[],_, .nil,gD⟩;have I1:Inv Y [] (AV own sel σ) (upd P D (.lst [])) {M with heap:=h1}:=by
  subst hY;refine⟨okY,rfl,I.bare,Un.laid G hsD hnD,⟨_,hns1,λi x v e1 e2 e3=>?_⟩,λx c e=>?_,?_,λx c e=>?_,λp hp=>absurd (show p∈([]:List (Addr×Obj))from hp) (by simp),I.hok.laid G hsD eo,?_⟩
  ·obtain⟨k,j,ei,ej,es⟩:=Jk e2;subst ei;have e1':(own++sel.map λj=>X.N.getD j Str.empty)[own.length+k]? =some x:=e1;rw[List.getElem?_append_right (by lia),List.getElem?_map,show own.length+k-own.length=k by lia,ej]at e1';simp only[Option.map_some,Option.some.injEq]at e1';obtain⟨hj,hfx,hkd⟩:=S.seln j (List.mem_of_getElem? ej);have hN:X.N[j]? =some x:=by rw[<-e1',List.getD_eq_getElem?_getD,List.getElem?_eq_getElem hj];rfl
   rw[e1']at hkd hfx;obtain⟨m,_,hl⟩:=I.loc;obtain⟨u,r,lk⟩:=hl j x v hN es (.inr hkd);refine⟨u,r, .inr ⟨FY I.ok.kind hfx,?_⟩⟩;rcases lk with⟨z1,_⟩|⟨_,c,hc1,hc2⟩
   ·have z1':X.env.scope.names.lookup x=some .local:=z1;rcases hkd with q|q<;>(rw[z1']at q;cases q)
   ·obtain⟨c',q,q2⟩:=hold _ hfx;rw[hc1]at q2
    cases q2
    exact⟨c,q,hc2.keeps G⟩
  ·rcases L x c e with⟨_,_,z⟩|q
   ·exact⟨_,z⟩
   ·obtain⟨u,z⟩:=I.cell x c q;exact⟨u,z.keeps G⟩
  ·show upd P D (.lst []) C=none;rw[AH (Ne.symm hDC)];exact hnC
  ·show upd P D (.lst []) c=none;rcases L x c e with⟨_,l,_⟩|q
   ·have hcD:D<c:=Nat.lt_of_lt_of_le U (by lia);rw[AH (Ne.symm (Nat.ne_of_lt hcD))];exact fresh c (Nat.le_of_lt hcD)
   ·obtain⟨u,o,z,_⟩:=I.cell x c q;rw[AH (neD c (below c o z))];exact I.freeC x c q
  ·show(AV own sel σ).length=(own++sel.map λj=>X.N.getD j Str.empty).length;rw[Jl];simp
 have fin:∀ (σ':W3) (H':Hp) (s':Shared),Inv Y [] σ' H' s'->Q (.ref D) H'->compPost (model X.prog X.w) X.A X.xe use Qo (.ref D) C (.ok .next) s':=by
  intro σ' H' s' I' q;subst hY;obtain⟨m,hn,_⟩:=I'.loc;have J':Inv X pins σ H' s':=I.call' I'.os I'.base I'.hok I'.bare λb B=>⟨(f2 b B).2.2.2.1,(f2 b B).2.1,(f2 b B).2.2.2.2.1,(f2 b B).2.2.2.2.2⟩;refine fin D C H' s' m J' hn ⟨I'.free,Ne.symm (neC _ (by rw[<-hD];exact I.lt)),Nat.le_trans I.sz hsC,λx c e=>?_,λp hp=>?_⟩ q
  ·obtain⟨u,o,z,_⟩:=I.cell x c e;exact neC c (below c o z)
  ·exact neC p.1 (below p.1 p.2 (I.pin p hp).1)
 have stat:∀ {H':Hp},(∀b∈Z,H' b=none)->∀b∈Z,BM Y [] H' b:=fun{H'} hn b B=>by
  subst hY;refine⟨hn b B,neC b (fpb b B),λz=>?_, .inl B,λx c e=>?_,λp hp=>absurd (show p∈([]:List (Addr×Obj))from hp) (by simp)⟩
  ·rcases List.mem_cons.mp (I.stkSub b z)with q|q
   ·exact(f2 b B).2.1 q
   ·exact(f2 b B).2.2.1 q
  ·rcases L x c e with⟨_,l,_⟩|q
   ·have:=fpb b B;intro z;subst z;exact absurd (Nat.lt_of_lt_of_le this (Nat.le_of_lt U)) (by lia)
   ·exact(f2 b B).2.2.2.2.1 x c q
 have loop:∀s3:Shared,s3={M with heap:=h1}->
  codeAny (model X.prog X.w) X.A (.compLoop (.ListComp elt [⟨tg,iter,ifs,0⟩] scope pos) 0 (.ref it) (.ref D) (compEnvC scope cl C X.env)) (compPost (model X.prog X.w) X.A X.xe use Qo (.ref D) C) s3:=by
  rintro s3 rfl;have eP:Y.prog=X.prog:=by subst hY;rfl
  have eW:Y.w=X.w:=by subst hY;rfl
  have eA:Y.A=X.A:=by subst hY;rfl
  have eK:Y.K=X.K:=by subst hY;rfl
  have eE:Y.env=compEnvC scope cl C X.env:=by subst hY;rfl
  have eX:Y.xe=λ_ _=>False:=by subst hY;rfl
  have eC:Y.calm=true:=by subst hY;exact hc
  refine Oh (λn s'=>∃i H',Inv Y [] (AV own sel σ) H' s'/\tn i s'.heap/\(∀b∈Z,H' b=none)/\W i n H') ?_ m0
   ⟨0,_,I1,T.keep _ _ _ st2 λb _ o e=>G b o e,λb B=>by rw[AH (neD b (fpb b B))];exact(f2 b B).1,w0⟩
  rintro n s4 ⟨i,H4,I4,st4,fr4,w4⟩;rcases turn i n H4 w4 with⟨stop,q⟩|⟨go,step⟩
  ·have dn:=T.done Y eP eW eK eC i [] s4 _ H4 (λ_ _=>False) I4 (stat fr4) st4 stop;rw[eA]at dn;refine thn dn λr s5 z_=>?_;obtain⟨hr,I5⟩:=z_;subst hr;exact fin _ _ _ I5 q
  ·have im:=T.item Y eP eW eK eC i [] s4 _ H4 (λ_ _=>False) I4 (stat fr4) st4 go;rw[eA]at im;refine thn im λr s5 z_=>?_;obtain⟨u,hr,h5⟩:=z_;subst hr;refine thn h5 λ_ s6 z_=>?_;obtain⟨x,H6,I6,r6,y6,st6,fr6⟩:=z_;have I6':=I6.pinned (stat fr6) (T.obj _ _ st6);have back:∀ {σ7:W3} {H7:Hp} {s7:Shared} {k:Nat},Inv Y ([]++DC Z s6.heap) σ7 H7 s7->σ7.length=(AV own sel σ).length->(∀j,own.length<=j->σ7[j]? =(AV own sel σ)[j]?)->(∃m',m'<n/\W (i+1) m' H7)->
    ∃m',m'<n/\∃i H',Inv Y [] (AV own sel σ) H' s7/\tn i s7.heap/\(∀b∈Z,H' b=none)/\W i m' H':=fun{σ7 H7 s7 k} I7 l7 k7 w7=>by
    obtain⟨m',hm,w7⟩:=w7;refine⟨m',hm,i+1,H7,I7.unpinned.weak l7.symm λj v e=>?_,T.keep _ _ _ st6 λb B o e=>(I7.pin (b,o) (List.mem_append_right _ (List.mem_append_right _ (Cf B e)))).1,λb B=>?_,w7⟩
    ·by_cases hj:j<own.length
     ·rw[Ei hj]at e;cases e
     ·rw[k7 j (Nat.le_of_not_lt hj)];exact e
    ·obtain⟨o,e,d⟩:=T.obj _ _ st6 b B;exact(I7.pin (b,o) (List.mem_append_right _ (List.mem_append_right _ (Cf B e)))).2.1
   have ga:=hg _ s6 _ H6 x u _ I6' r6 (hk _ _ _ _ (step x H6 y6));rw[eP,eW,eA,eE,eX]at ga;refine thn ga λ_ s7 z_=>?_;obtain⟨σ7,H7,I7,q7,l7,k7⟩:=z_;have ta:=ht _ s7 σ7 H7 _ I7 q7;rw[eP,eW,eA,eE,eX]at ta;refine thn ta λb s8 z_=>?_;obtain⟨H8,I8,q8⟩:=z_
   cases b with
   |false=>
    rw[if_neg Bool.false_ne_true]at q8⊢;exact back (k:=0) I8 l7 k7 q8
   |true=>
    rw[if_pos rfl]at q8⊢;have ea:=he _ s8 σ7 H8 _ I8 q8;rw[eP,eW,eA,eE,eX]at ea;refine thn ea λv s9 z_=>?_;obtain⟨x9,H9,I9,r9,ys,hD9,hz9,q9⟩:=z_;have aa:=CD (X:=Y) _ s9 σ7 H9 (.ref D) [x9] (.ref D) [v] (λ_ H'=>∃m',m'<n/\W (i+1) m' H') I9 rfl (.cons r9 .nil) ⟨D,ys,x9,rfl,rfl,hD9,hz9,q9⟩;rw[eP,eW,eA,eX]at aa;exact thn aa λ_ s10 ⟨_,H10,I10,_,q10⟩=>back (k:=0) I10 l7 k7 q10
 exact codeAny_compStart_list (loop _ rfl) (T.self X.A 0 _ _ _ (T.keep _ _ _ st2 λb _ o e=>G b o e) (loop _ rfl))
def A1
 (S:CompOkC X.env.scope X.N own sel scope) (e:X.calm=true) (i:PI X tg iter wi)
 (hg:∀cl C a b d,PG (Br X own sel scope cl C a b d) tg g) (hk:GK own.length g)
 (ht:∀cl C a b d,PIf (Br X own sel scope cl C a b d) ifs tt) (j:∀cl C a b d,PE (Br X own sel scope cl C a b d) elt te)
 (l:∀x,foldedSetIterable iter X.env x=pure x:=by intro _;rfl):
 PE X (.ListComp elt [⟨tg,iter,ifs,0⟩] scope pos) (FG own sel wi g tt te):=by
 intro pins s σ H Q I h;rw[eval_ListComp];refine IQ (use:=none) S e i hg hk ht j l I h λD C o v m p r f q=>?_;exact⟨m,r,λy k=>⟨.ref D,o,p.far f k,rfl,q⟩⟩
def Fb{i:Nat}{spos:Pos}
 (y:X.N.Nodup) (l:X.N[i]? =some x) (z:Loc X.env.scope x)
 (S:CompOkC X.env.scope X.N own sel scope) (B:X.calm=true) (G:PI X tg iter wi)
 (hg:∀cl C b d j,PG (Br X own sel scope cl C b d j) tg g) (hk:GK own.length g)
 (ht:∀cl C b d j,PIf (Br X own sel scope cl C b d j) ifs tt) (J:∀cl C b d j,PE (Br X own sel scope cl C b d j) elt te)
 (L:∀x,foldedSetIterable iter X.env x=pure x:=by intro _;rfl)
 (o:swapsWith (.ListComp elt [⟨tg,iter,ifs,0⟩] scope pos) (some (.Name x pos')) spos.line X.env=pure true:=by rfl)
 (hf:X.fn x=true\/X.env.scope.names.lookup x=some .local:=by first|exact .inl rfl|exact .inr rfl|assumption):
 PS X (.Assign [.Name x pos'] (.ListComp elt [⟨tg,iter,ifs,0⟩] scope pos) spos) (Bb (FG own sel wi g tt te) (Aw i)):=by
 intro pins s σ H M I h;rw[exec_Assign_Name_used _ _ _ _ o];refine wpAny_bind (wpAny_standAt (wpAny_bind ?_));show wpAny _ X.A (do let _<-comprehension (.ListComp elt [⟨tg,iter,ifs,0⟩] scope pos) scope X.env _ (newList []) false (eval iter X.env) (some (assign (.Name x pos') X.env))) _ _ s;refine wpAny_bind (wpAny_mono (IQ (use:=some (assign (.Name x pos') X.env)) (Qo:=λ_ p=>SP X pins M .next p) S B G hg hk ht J L I h λD C P p m Q R f q=>?_) (λ_ p T=>wpAny_pure (wpAny_pure T)) λ_ _ e=>e);show wpAny _ X.A (assign (.Name x pos') X.env (.ref D)) _ _ _;refine wpAny_assign_Name (Fl (v:=V.ref D) Q y l z rfl (λb U ⟨a,k,ha⟩=>?_) hf);have r:C≠a:=by
  rcases ha with rfl|ha
  ·exact f.nl
  ·exact Ne.symm (f.nc x a ha)
 exact⟨m,R.sameBut k r,λZ Y=>⟨_,P,U.far f Y,q⟩⟩
end L2
namespace BrM
variable{Q:VK}{E:XK}
def Pn{k:Int}(h:AZ k a=true):∀c∈a,c∈sgn k:=by
 unfold AZ at h;simp only[Bool.and_eq_true,List.all_eq_true,decide_eq_true_eq]at h;exact h.2
def all9:List Nat:=[40,91,123,60,63,62,125,93,41]
def oth(c:Nat):Nat:=if c=40 then 41 else if c=91 then 93 else if c=123 then 125 else if c=60 then 62 else if c=41 then 40 else if c=93 then 91 else if c=125 then 123 else if c=62 then 60 else c
def trn(a:List Nat):List Nat:=a.reverse.map oth
def RX(a:List Nat):(trn a).length=a.length:=by simp[trn]
def WG(h:c∈all9):c=40\/c=91\/c=123\/c=60\/c=63\/c=62\/c=125\/c=93\/c=41:=by simpa[all9]using h
def Vz{k:Int}(h:c∈sgn k):c∈all9:=by
 unfold sgn at h;rcases List.mem_append.mp h with z|z
 ·rcases List.mem_append.mp z with z|z
  ·have:=List.mem_of_mem_take z;have:c=40\/c=91\/c=123\/c=60:=by simpa[opn]using this
   rcases this with rfl|rfl|rfl|rfl<;>decide
  ·have:=List.mem_of_mem_take z;have:c=41\/c=93\/c=125\/c=62:=by simpa[cls]using this
   rcases this with rfl|rfl|rfl|rfl<;>decide
 ·rw[List.mem_singleton.mp z];decide
inductive spOther (vs:List V) (H:Hp) (Q:VK) (E:XK):Prop
 |mk (c:_) (_:vs=[tx [c]]) (_:c∈all9) (_:Q (tx [oth c]) H)
def PJ(h:c∈all9)(q:Q (tx [oth c]) H):spOther ([tx [c]]++[]) H Q E:=⟨c,rfl,h,q⟩
inductive spTurned (vs:List V) (H:Hp) (Q:VK) (E:XK):Prop
 |mk (k a:_) (_:vs=[.int k,tx a]) (_:1<=k) (_:k<=4) (_:AZ k a=true) (_:∀H',Same H H'->Q (tx (trn a)) H')
def N9{k:Int}(d:1<=k)(e:k<=4)(h:AZ k a=true)(q:∀b,Same H b->Q (tx (trn a)) b):spTurned ([.int k,tx a]++[]) H Q E:=⟨k,a,rfl,d,e,h,q⟩
def Fp(l:List Nat):(l.map λc=>[c]).flatten=l:=by
 induction l with
 |nil=>rfl
 |cons c r a=>rw[List.map_cons,List.flatten_cons,a];rfl
end BrM
namespace L2
variable{c i:Int}{ta:TA}{tget:V->V->Hp->VK->Prop}{Q:VK}{R:W4->Hp->Prop}
def RN{a:Addr}(f:V->V)(S:xs.length<=sizeLine)(G:H a=some (.lst xs))
 (I:∀D d,H D=none->Same H d->d D=some (.lst (xs.map f))->Q (.ref D) d)
 (T:∀ (D:Addr) (i:Nat) (x:V) (d:Hp) (R:V->Hp->Prop),H D=none->xs[i]? =some x->Same H d->(∀j,Same d j->R (f x) j)->g x (AV own sel σ) d λσ4 r=>te σ4 r R):BF (Itl K a) own sel σ g tYes te Q H:=by
 refine CS (n:=xs.length) (λD i h d=>h=(xs.take i).map f/\Same H d) (λD q=>⟨rfl,AK q _⟩) (λD i h d q J B ⟨_,l⟩=>⟨xs,xs[i],SqL.of (l _ _ G),List.getElem?_eq_getElem J⟩) (λD h d q B L ⟨e,l⟩=>⟨⟨_,SqL.of (l _ _ G),Nat.le_refl _⟩,I D d q l (by rw[B,e,List.take_length])⟩) ?_;rintro D i h d x U q J B L ⟨e,l⟩ ⟨rfl,X⟩;have y:=X _ (SqL.of (l _ _ G));have Y:(fun(σ4:W3) (r:Hp)=>tYes σ4 r λb M=>if b=true then te σ4 M λv j=>∃h,j D=some (.lst h)/\h.length<sizeLine/\∃p,p<xs.length-i/\CW D xs.length (λi h d=>h=(xs.take i).map f/\Same H d) (i+1) p (upd j D (.lst (h++[v])))else∃p,p<xs.length-i/\CW D xs.length (λi h d=>h=(xs.take i).map f/\Same H d) (i+1) p M)
  =λσ4 r=>te σ4 r λv j=>∃h,j D=some (.lst h)/\h.length<sizeLine/\∃p,p<xs.length-i/\CW D xs.length (λi h d=>h=(xs.take i).map f/\Same H d) (i+1) p (upd j D (.lst (h++[v]))):=by
  funext σ4 r
  simp only[tYes,if_true]
 rw[Y];refine T D i x U _ q y l λj P=>?_;refine B6 J S (P _ _ B) L ⟨?_,λb o z=>?_⟩
 ·rw[e,List.take_add_one,y,List.map_append];rfl
 ·rw[AH (AM z q)];exact P _ _ (l _ _ z)
def CB(a c:Int)(n:Nat):W4:=⟨λi _=>i<n,λi H x b=>b=H/\x= .int (a+i*c),λi _=>n<=i⟩
def Nf(it:Addr)(j c:Int)(n:Nat):Turn P w K tg (CB j c n) [it] it (λi h=>IsRangeIter h it (j+(i:Nat)*c) ((n:Int)-(i:Nat)) c) where
 mem:=by simp
 obj:=λi h st b a=>by
  obtain rfl:b=it:=by simpa using a
  exact⟨_,st,λv z=>by
   have R:Data.fields _=Data.cell v:=z
   cases R⟩
 keep:=λi h l st k=>k it (by simp) _ st
 item:=by
  intro X q r x y i pins s σ H E I p st hg;subst q r x;obtain⟨B,G,S,J,L,M⟩:=p it (by simp);have W:=Walks.range (prog:=X.prog) (w:=X.w) (I.ok.hd y) it j c n;refine W.item i s _ _ hg st λv l Q T d U=>?_;obtain⟨t,rfl⟩:=T;have Y:Inv X pins σ H {s with heap:=l,toks:=Q}:=I.turned (λb o a e=>U b o (by simpa using a) e) B G J L M;exact⟨_,rfl,EK (s:={s with heap:=l,toks:=Q}) (n:="range_iterator") d rfl rfl (by decide) ⟨.int (j+i*c),H,Y,⟨t,rfl⟩,⟨rfl,rfl⟩,d,λb a=>(p b a).1⟩⟩
 done:=by
  intro X q r x y i pins s σ H E I p st hg;subst q r x;obtain⟨B,G,S,J,L,M⟩:=p it (by simp);exact wpAny_pyNext_range_end (I.ok.hd y) st (by have:n<=i:=hg;lia) λl Z=>⟨rfl,I.turned (t':=s.toks) (λb o a e=>Z b o a e) B G J L M⟩
 self:=λ_ _ _ _ _ st h=>wpAny_pyIter_rangeiter st h
def rN(a b c:Int):Nat:=(Builtin.Range.rangeSize a b c).toNat
def O5{s:Shared}{hi:Int}{t u v:Tok}{tk:Nat}(I:Inv X pins σ H s)(d:Builtin.Range.small lo hi c=true)
 (q:R (CB lo c (rN lo hi c)) H):wpAny (model X.prog X.w) X.A (pyIter (.ref s.heap.objs.size)) (PIE X pins σ tg R) E {s with heap:=s.heap.push {cls:= .type "range",data:= .fields #[.int lo t, .int hi u, .int c v]},toks:=tk}:=by
 refine wpAny_pyIter_range (IsRange.new ..) d ?_;have a:Inv X pins σ H {s with heap:=s.heap.push {cls:= .type "range",data:= .fields #[.int lo t, .int hi u, .int c v]},toks:=tk}:=I.kept λb o e=>Heap.get?_push_of_some _ e;refine⟨(s.heap.push {cls:= .type "range",data:= .fields #[.int lo t, .int hi u, .int c v]}).objs.size,[(s.heap.push {cls:= .type "range",data:= .fields #[.int lo t, .int hi u, .int c v]}).objs.size],_,_,H,rfl,
  a.kept (t':=tk) λb o e=>Heap.get?_push_of_some _ e,Nf _ lo c (rN lo hi c),?_,λb h=>?_,q⟩
 ·have i:lo+((0:Nat):Int)*c=lo:=by simp
  have j:((rN lo hi c:Nat):Int)-((0:Nat):Int)=Builtin.Range.rangeSize lo hi c:=by unfold rN;rw[<-rangeSize_toNat];simp
  show IsRangeIter _ _ (lo+((0:Nat):Int)*c) (((rN lo hi c:Nat):Int)-((0:Nat):Int)) c;rw[i,j];exact Heap.get?_push_size _ rfl
 ·obtain rfl:b=(s.heap.push {cls:= .type "range",data:= .fields #[.int lo t, .int hi u, .int c v]}).objs.size:=by simpa using h
  exact a.fpOk (Nat.le_refl _) (a.hok.fresh (Nat.le_refl _))
def Lw(a:TA):TI:=λσ H R=>a σ H λvs b=>∃i j c:Int,vs=[.int i, .int j, .int c]/\(c≠0/\c.natAbs<1000/\Builtin.Range.small i j c=true)/\R (CB i c (rN i j c)) b
def Bv{a b c:Expr}{p:Pos}(hg:Gl X "range")(x:X.mg "range"=none)(y:PA X [a,b,c] ta)(z:starEach [a,b,c] X.env=[(false,eval a X.env),(false,eval b X.env),(false,eval c X.env)]:=by rfl)(d:starEach [b,c] X.env=[(false,eval b X.env),(false,eval c X.env)]:=by rfl):
 PI X tg (.Call (.Name "range" p) [a,b,c] [] pos) (Lw ta):=by
 intro pins s σ H R I h;refine Call_ (B0 I hg x boot_range (PyProof.Rows.callWith_type1 (thn (y pos pins s σ H _ I h) λP Q ⟨vs,S,B,G,o⟩=>?_) (by rw[z,d]) (by rw[d];rfl)));obtain⟨i,j,c,e,⟨o,T,J⟩,q⟩:=o;subst e
 cases G with
 |cons r l=>
  cases l with
  |cons L l=>
   cases l with
   |cons v l=>
    cases l
    obtain⟨t,rfl⟩:=r;obtain⟨U,rfl⟩:=L;obtain⟨M,rfl⟩:=v;exact call_range_3 o (O5 B J q) (Or.inl (PyProof.noPylong_small (by lia)))
def EY{a b:Int}(h:0<=a)(d:a<=1000)(i: -1000<=b)(e:b<=1000):Builtin.Range.small a b 2=true:=by
 unfold Builtin.Range.small Builtin.Range.rangeSize;simp only[Builtin.Range.rangeFitsLong,Bool.and_eq_true,Bool.or_eq_true,decide_eq_true_eq,beq_iff_eq,show(2:Int)>0 by decide,if_true]
 split<;>lia
def E7(a b:Int):rN a b 2=((b-a+1)/2).toNat:=by
 unfold rN Builtin.Range.rangeSize;simp only[show(2:Int)>0 by decide,if_true]
 split<;>lia
def MP(K:W.Frag):List V->Hp->VK->Prop:=λa H Q=>∃ (p:Addr) (ns:List Int),a=[.ref p]/\SqL K H p (ns.map V.int)/\Q (.int ns.sum) H
def Eb(K:W.Frag)(l:X.calm=true)(v:X.K=K:=by rfl):CallR X (.builtin "sum") (MP K):=by
 subst v;intro pins s σ H a M Q I r h;obtain⟨p,ns,rfl,x,q⟩:=h;obtain⟨u,rfl,y⟩:=vals1 r
 cases y
 obtain⟨B,G,ht,P⟩:=I.list x;have i:=IL G;obtain⟨a,e⟩:=i.allInts.items;have d:ns=a.toList.map (·.1):=by rw[<-i.numsOf,<-nums_intItems,<-e]
 have j:=ht.isList;rw[e]at j;refine sum_intListG (I.ok.hd l) j λR S J hk=>?_;have L:preSum (numAt a) a.size=ns.sum:=by
  rw[preSum_eq,List.take_of_length_le (by simp),d]
 rw[L];exact⟨.int ns.sum,H,I.kept λb o z=>hk b o z,⟨J,rfl⟩,q⟩
def Lq(K:W.Frag):List V->Hp->VK->Prop:=λb H Q=>∃p a,b=[.ref p]/\(SqL K H p a\/SqT K H p a)/\∀l,H l=none->Q (.ref l) (upd H l (.lst a))
def Om(K:W.Frag)(a:X.K=K:=by rfl):CallR X (.type "list") (Lq K):=by subst a;exact Na
def Lr(K:W.Frag):V->V->Hp->VK->Prop:=λx y H Q=>∃p a,∃ (j:Nat),∃v,x= .ref p/\y= .int j/\SqL K H p a/\a[j]? =some v/\Q v H
def Dq(K:W.Frag)(d:X.K=K:=by rfl):Mb X (Lr K):=by
 subst d;intro pins s σ H o i G J Q I e l h;obtain⟨p,L,j,z,rfl,rfl,v,b,q⟩:=h
 cases e
 obtain⟨t,rfl⟩:=l;obtain⟨x,r,y,M⟩:=I.list v;obtain⟨w,B,a⟩:=r.get b;have P:=r.length;have R:=line63;have S:=(List.getElem?_eq_some_iff.mp b).1;exact wpAny_getItem_list y.isList (by lia) (by lia) (by simpa using B) ⟨z,H,I,a,q⟩
def Ro(h:ta σ H λvs a=>∃i j c:Int,vs=[.int i, .int j, .int c]/\(c≠0/\c.natAbs<1000/\Builtin.Range.small i j c=true)/\R (CB i c (rN i j c)) a):Lw ta σ H R:=h
def FH(a:SqL K H p (ns.map V.int))(h:Q (.int ns.sum) H):MP K [.ref p] H Q:=⟨p,ns,rfl,a,h⟩
def Rj{ys:List V}(a:SqL K H p ys)(h:∀l,H l=none->Q (.ref l) (upd H l (.lst ys))):Lq K [.ref p] H Q:=⟨p,ys,rfl, .inl a,h⟩
def UR{ti:TE}{tip:TIp}{tset:TSet}(h:to σ H λo a=>ti σ a λi b=>tget o i b λx d=>te σ d λy e=>tip x y e λz j=>tset o i z j λl=>D.nx σ l):Le to ti te tget tip tset D σ H:=h
def EB{v:V}(a:SqL K H p xs)(b:xs[j]? =some v)(h:Q v H):Lr K (.ref p) (.int j) H Q:=⟨p,xs,j,v,rfl,rfl,a,b,h⟩
theorem RC(Pv:Nat->W3->Hp->Prop)(h0:Pv 0 σ H)
 (b:∀i σ H,i<n->Pv i σ H->g (.int (lo+i*c)) σ H λσ2 d=>tb {D with nx:=Pv (i+1),ct:=Pv (i+1),bk:=D.nx} σ2 d) (hd:∀σ H,Pv n σ H->D.nx σ H):Bu (CB lo c n) g tb D σ H:=
 FC (n:=n) Pv h0 (λi σ H a _=>a) (λσ H _=>Nat.le_refl _) (λi x σ H e a p y=>by obtain⟨rfl,rfl⟩:=y;exact b i σ _ a p) hd
def Qg(scope osc:Scope):Scope:={scope with names:=scope.names.map fun(n,k)=>if(k== .free&&osc.kind== .function&&osc.names.lookup n==some .cell)then(n, .cell)else(n,k)}
def GC(osc:Scope)(N:List Str)(own:List Str)(sel:List Nat)(scope:Scope):Bool:=
 (scope.kind== .function)&&scope.names.all (λy=>y.2 != .cell||scope.names.lookup y.1==some .cell)&&scope.names.all (λy=>y.2 != .local||scope.names.lookup y.1==some .local)&&
 scope.names.all (λy=>y.2 != .free||osc.names.lookup y.1==some .cell||osc.names.lookup y.1==some .free)&&
 sel.all (λj=>decide (j<N.length)&&scope.names.lookup (N.getD j Str.empty)==some .free&&(osc.names.lookup (N.getD j Str.empty)==some .cell||osc.names.lookup (N.getD j Str.empty)==some .free))
def Ax{osc:Scope}{N:List Str}(h:GC osc N own sel scope=true):CompOkC osc N own sel scope:=by
 unfold GC at h;simp only[Bool.and_eq_true,List.all_eq_true]at h;obtain⟨⟨⟨⟨b,d⟩,i⟩,l⟩,o⟩:=h;refine⟨by simpa using b,λy a e=>?_,λy a e=>?_,λy a e=>?_,λj p=>?_⟩
 ·have:=d y a;simp only[Bool.or_eq_true,bne_iff_ne,beq_iff_eq]at this;rcases this with q|q
  ·exact absurd e q
  ·exact q
 ·have:=i y a;simp only[Bool.or_eq_true,bne_iff_ne,beq_iff_eq]at this;rcases this with q|q
  ·exact absurd e q
  ·exact q
 ·have:=l y a;simp only[Bool.or_eq_true,bne_iff_ne,beq_iff_eq]at this;rcases this with(q|q)|q
  ·exact absurd e q
  ·exact .inl q
  ·exact .inr q
 ·have:=o j p;simp only[Bool.or_eq_true,beq_iff_eq,decide_eq_true_eq]at this;exact⟨this.1.1,this.1.2,this.2⟩
def big:Nat:=2^10000
def Jx(h:i.natAbs<big):Builtin.Int.intBits i<=2^20:=by
 refine Nat.le_trans (?_ :Builtin.Int.intBits i<=10000) (by decide);exact PySem.intBits_le_iff.mpr h
def rTimesW:R2:=λx y H Q=>(∃i j,x= .int i/\y= .int j/\(i.natAbs<big/\j.natAbs<big)/\Q (.int (i*j)) H)\/rRep x y H Q\/Lp x y H Q
def op_mulW:OpR X (binaryOp .Mult) (rI (λi j=>i.natAbs<big/\j.natAbs<big) λi j=> .int (i*j)):=opI λ_ _ _ _ _ _ _ a q=>mul_int q (PySem.IntMulOk.of_bits (Jx a.1) (Jx a.2))
def BR:OpR X (binaryOp .Mult) rTimesW:=op_mulW.or (op_rep.or Kb)
def BX{j:Int}(a:i.natAbs<big)(b:j.natAbs<big)(h:Q (.int (i*j)) H):rTimesW (.int i) (.int j) H Q:= .inl ⟨i,j,rfl,rfl,⟨a,b⟩,h⟩
def Dw{J:W4}(f:Nat->V)(hn:n<=sizeLine)(Iv:Addr->Nat->List V->Hp->Prop)
 (G:∀i d,i<n->Same H d->J.go i d) (I:∀d,Same H d->J.stop n d) (hy:∀i p x d,i<n->Same H p->J.yld i p x d->d=p/\x=f i)
 (h0:∀D,H D=none->Iv D 0 [] (upd H D (.lst []))) (mono:∀D i a p U,H D=none->Iv D i a p->SameBut1 D p U->Iv D i a U)
 (L:∀D a d,H D=none->d D=some (.lst a)->a.length=n->Same H d->Iv D n a d->Q (.ref D) d)
 (hs:∀ (D:Addr) (i:Nat) (a:List V) (d:Hp) (R:V->Hp->Prop),H D=none->i<n->d D=some (.lst a)->a.length=i->Same H d->Iv D i a d->(∀v h,Same d h->Iv D (i+1) (a++[v]) h->R v h)->
   g (f i) (AV own sel σ) d λσ4 r=>te σ4 r R):BF J own sel σ g tYes te Q H:=by
 refine CS (n:=n) (λD i a d=>a.length=i/\Same H d/\Iv D i a d) (λD l=>⟨rfl,AK l _,h0 D l⟩) (λD i a d l y _ ⟨_,q,_⟩=>G i d y q)
  (λD a d l M X ⟨e,q,P⟩=>⟨I d q,L D a d l M e q P⟩) ?_
 rintro D i a p x Y l y B X ⟨Z,q,P⟩ yl;obtain⟨rfl,rfl⟩:=hy i p x Y y q yl;have S:=hs D i a Y (λv h=>∃a,h D=some (.lst a)/\a.length<sizeLine/\∃j,j<n-i/\CW D n (λi a d=>a.length=i/\Same H d/\Iv D i a d) (i+1) j (upd h D (.lst (a++[v])))) l y B Z q P (λv h s6 T=>?_)
 ·have ef:(fun(σ4:W3) (r:Hp)=>tYes σ4 r λb H5=>if b=true then te σ4 H5 λv h=>∃a,h D=some (.lst a)/\a.length<sizeLine/\∃j,j<n-i/\CW D n (λi a d=>a.length=i/\Same H d/\Iv D i a d) (i+1) j (upd h D (.lst (a++[v])))
   else∃j,j<n-i/\CW D n (λi a d=>a.length=i/\Same H d/\Iv D i a d) (i+1) j H5)=λσ4 r=>te σ4 r λv h=>∃a,h D=some (.lst a)/\a.length<sizeLine/\∃j,j<n-i/\CW D n (λi a d=>a.length=i/\Same H d/\Iv D i a d) (i+1) j (upd h D (.lst (a++[v]))):=by
   funext σ4 r
   exact propext ⟨λz=>by have z':=z;simp only[tYes]at z';simpa using z',λz=>by show tYes _ _ _;simp only[tYes];simpa using z⟩
  rw[ef];exact S
 ·refine B6 y hn (s6 _ _ B) X ⟨by simp[Z],λb o z=>?_,mono D _ _ _ _ l T SameBut1.upd⟩;rw[AH (AM z l)];exact s6 b o (q b o z)
def GG(l:n<=sizeLine)(Iv:Addr->Nat->List V->Hp->Prop)
 (h0:∀D,H D=none->Iv D 0 [] (upd H D (.lst []))) (mono:∀D i b d j,H D=none->Iv D i b d->SameBut1 D d j->Iv D i b j)
 (e:∀D b a,H D=none->a D=some (.lst b)->b.length=n->Same H a->Iv D n b a->Q (.ref D) a)
 (o:∀ (D:Addr) (i:Nat) (b:List V) (a:Hp) (R:V->Hp->Prop),H D=none->i<n->a D=some (.lst b)->b.length=i->Same H a->Iv D i b a->(∀v h,Same a h->Iv D (i+1) (b++[v]) h->R v h)->
   g (.int (lo+i)) (AV own sel σ) a λσ4 p=>te σ4 p R):BF (Itr lo n) own sel σ g tYes te Q H:=
 Dw (λi=> .int (lo+i)) l Iv (λi a q _=>q) (λa _=>Nat.le_refl _) (λi d x a _ _ y=>y) h0 mono e o
def QL(l:n<=sizeLine)(Iv:Addr->Nat->List V->Hp->Prop)
 (h0:∀D,H D=none->Iv D 0 [] (upd H D (.lst []))) (mono:∀D i b d j,H D=none->Iv D i b d->SameBut1 D d j->Iv D i b j)
 (e:∀D b a,H D=none->a D=some (.lst b)->b.length=n->Same H a->Iv D n b a->Q (.ref D) a)
 (o:∀ (D:Addr) (i:Nat) (b:List V) (a:Hp) (R:V->Hp->Prop),H D=none->i<n->a D=some (.lst b)->b.length=i->Same H a->Iv D i b a->(∀v h,Same a h->Iv D (i+1) (b++[v]) h->R v h)->
   g (.int (lo+i*c)) (AV own sel σ) a λσ4 p=>te σ4 p R):BF (CB lo c n) own sel σ g tYes te Q H:=
 Dw (λi=> .int (lo+i*c)) l Iv (λi a q _=>q) (λa _=>Nat.le_refl _) (λi d x a _ _ y=>y) h0 mono e o
def GF(q:a.length<=sizeLine)(Iv:Addr->Nat->List V->Hp->Prop)
 (h0:∀D,H D=none->Iv D 0 [] (upd H D (.lst []))) (mono:∀D i d h o,H D=none->Iv D i d h->SameBut1 D h o->Iv D i d o)
 (j:∀D d b,H D=none->b D=some (.lst d)->d.length=a.length->Same H b->Iv D a.length d b->Q (.ref D) b)
 (r:∀ (D:Addr) (i:Nat) (d:List V) (b:Hp) (R:V->Hp->Prop),H D=none->i<a.length->b D=some (.lst d)->d.length=i->Same H b->Iv D i d b->(∀v l,Same b l->Iv D (i+1) (d++[v]) l->R v l)->
   g (tx [a.getD i 0]) (AV own sel σ) b λσ4 z=>te σ4 z R):BF (Its ⟨a.toArray⟩) own sel σ g tYes te Q H:=
 Dw (λi=>tx [a.getD i 0]) q Iv (λi b p _=>by simpa[Its]using p) (λb _=>by simp[Its]) (λi h x b p _ y=>by
  obtain⟨rfl,c,e,rfl⟩:=y;have B:a[i]? =some c:=by simpa using e
  exact⟨rfl,by rw[List.getD_eq_getElem?_getD,B];rfl⟩) h0 mono j r
def JM(v:Nat->V)(p:n<=sizeLine)(d:∀D a,H D=none->Same H a->a D=some (.lst ((List.range n).map v))->Q (.ref D) a)
 (q:∀ (i:Nat) (a:Hp) (R:V->Hp->Prop),i<n->Same H a->(∀b,Same a b->R (v i) b)->g (.int (lo+i)) (AV own sel σ) a λσ4 x=>te σ4 x R):BF (Itr lo n) own sel σ g tYes te Q H:=
 GG p (λD i h _=>h=(List.range i).map v) (λ_ _=>rfl) (λ_ _ _ _ _ _ e _=>e) (λD h a l o _ j e=>d D a l j (by rw[o,e]))
  (λD i h a R l y o _ j e r=>q i a R y j λb z=>r _ b z (by rw[e,List.range_succ,List.map_append];rfl))
def IU(v:Nat->V)(p:n<=sizeLine)(d:∀D a,H D=none->Same H a->a D=some (.lst ((List.range n).map v))->Q (.ref D) a)
 (q:∀ (i:Nat) (a:Hp) (R:V->Hp->Prop),i<n->Same H a->(∀b,Same a b->R (v i) b)->g (.int (lo+i*c)) (AV own sel σ) a λσ4 x=>te σ4 x R):BF (CB lo c n) own sel σ g tYes te Q H:=
 QL p (λD i h _=>h=(List.range i).map v) (λ_ _=>rfl) (λ_ _ _ _ _ _ e _=>e) (λD h a l o _ j e=>d D a l j (by rw[o,e]))
  (λD i h a R l y o _ j e r=>q i a R y j λb z=>r _ b z (by rw[e,List.range_succ,List.map_append];rfl))
def JL(v:Nat->V)(x:a.length<=sizeLine)(h:∀D b,H D=none->Same H b->b D=some (.lst (a.map v))->Q (.ref D) b)
 (y:∀ (i c:Nat) (b:Hp) (R:V->Hp->Prop),a[i]? =some c->Same H b->(∀d,Same b d->R (v c) d)->g (tx [c]) (AV own sel σ) b λσ4 z=>te σ4 z R):BF (Its ⟨a.toArray⟩) own sel σ g tYes te Q H:=
 GF x (λD i j _=>j=(a.take i).map v) (λ_ _=>rfl) (λ_ _ _ _ _ _ e _=>e) (λD j b p q _ l e=>h D b p l (by rw[q,e,List.take_length]))
  (λD i j b R p B q _ l e r=>by
    have o:a[i]? =some a[i]:=List.getElem?_eq_getElem B;have G:a.getD i 0=a[i]:=by rw[List.getD_eq_getElem?_getD,o];rfl
    rw[G];exact y i a[i] b R o l λd I=>r _ d I (by rw[e,List.take_add_one,o,List.map_append];rfl))
end L2
namespace BrC
variable{f g:Nat->Int}
def sm:Nat->(Nat->Int)->Int
 |0,_=>0
 |n+1,f=>sm n f+f n
theorem JR:∀n,(∀i,i<n->f i=g i)->sm n f=sm n g
 |0,_=>rfl
 |n+1,h=>by unfold sm;rw[JR n λi a=>h i (Nat.lt_succ_of_lt a),h n (Nat.lt_succ_self n)]
theorem IY:∀n,(∀i,i<n->0<=f i)->0<=sm n f
 |0,_=>Int.le_refl _
 |n+1,h=>by unfold sm;have:=IY n λi a=>h i (Nat.lt_succ_of_lt a);have:=h n (Nat.lt_succ_self n);lia
theorem KD:∀n,(∀i,i<n->f i<=g i)->sm n f<=sm n g
 |0,_=>Int.le_refl _
 |n+1,h=>by unfold sm;have:=KD n λi a=>h i (Nat.lt_succ_of_lt a);have:=h n (Nat.lt_succ_self n);lia
theorem JQ(c:Int):∀n,sm n (λ_=>c)=n*c
 |0=>by simp[sm]
 |n+1=>by rw[sm,JQ c n];rw[Int.natCast_add,Int.add_mul];simp
theorem IW(f:Nat->Int):∀n,((List.range n).map f).sum=sm n f
 |0=>rfl
 |n+1=>by rw[List.range_succ,List.map_append,List.sum_append,IW f n];simp[sm]
def cv(P:Nat->Nat->Int)(k:Nat):Nat->Nat->List Nat->Int
 |0,_,[]=>1
 |0,_,_::_=>0
 |n+1,i,st=>sm k (λp=>P i (2*p)*cv P k n (i+1) (p::st))+(match st with|[]=>0|o::r=>P i (2*o+1)*cv P k n (i+1) r)
variable{P:Nat->Nat->Int}{k:Nat}
def pr(P:Nat->Nat->Int)(k i j:Nat):Int:=sm k λp=>P i (2*p)*P j (2*p+1)
end BrC
open BrC
namespace BrS
variable{v:Int}{l w:List Int}{f:Nat->Int}{T:Nat->Nat->Int}{Q:VK}{E:XK}
abbrev iL(l:List Int):HO:= .lst (l.map V.int)
def Pls(H:Hp)(r:Addr)(ps:List (List Int)):Prop:=∃a:Nat->Addr,H r=some (.lst ((List.range ps.length).map λi=>V.ref (a i)))/\∀i,i<ps.length->H (a i)=some (iL (ps.getD i []))
def Pls.same{r:Addr}{ps:List (List Int)}(h:Pls H r ps)(s:Same H H'):Pls H' r ps:=by
 obtain⟨a,b,d⟩:=h;exact⟨a,s _ _ b,λi e=>s _ _ (d i e)⟩
def rwl(n:Nat)(f:Nat->Int):List V:=(List.range (n+1)).map λj=>V.int (f j)
def C8(n:Nat)(f:Nat->Int):(rwl n f).length=n+1:=by simp[rwl]
def Dy(h:j<=n):(rwl n f)[j]? =some (.int (f j)):=by
 unfold rwl;rw[List.getElem?_map,List.getElem?_range (by lia)];rfl
def R4:(rwl n f).set j (.int v)=rwl n (λx=>if x=j then v else f x):=by
 apply List.ext_getElem?;intro i;unfold rwl;rw[List.getElem?_set,List.getElem?_map,List.getElem?_map]
 by_cases e:j=i
 ·subst e
  by_cases a:j<n+1
  ·rw[List.getElem?_range a];simp[a]
  ·rw[if_pos rfl,if_neg (by simpa using a)];rw[List.getElem?_eq_none (by simpa using a)];rfl
 ·rw[if_neg e]
  by_cases b:i<n+1
  ·rw[List.getElem?_range b];simp[Ne.symm e]
  ·rw[List.getElem?_eq_none (by simpa using b)];rfl
def Fm{g:Nat->Int}(h:∀j,j<=n->f j=g j):rwl n f=rwl n g:=by
 unfold rwl;refine List.map_congr_left λj a=>?_;rw[h j (by have:=List.mem_range.mp a;lia)]
structure Tb (H0 H:Hp) (s:Addr) (ad:Nat->Addr) (n:Nat) (T:Nat->Nat->Int):Prop where
 fs:H0 s=none
 fa:∀i,i<=n->H0 (ad i)=none
 ns:∀i,i<=n->ad i≠s
 inj:∀i j,i<=n->j<=n->ad i=ad j->i=j
 top:H s=some (.lst ((List.range (n+1)).map λi=>V.ref (ad i)))
 row:∀i,i<=n->H (ad i)=some (.lst (rwl n (T i)))
 sm:Same H0 H
section
variable{H0:Hp}{s:Addr}{T':Nat->Nat->Int}
def Tb.same(t:Tb H0 H s ad n T)(h:Same H H'):Tb H0 H' s ad n T:=⟨t.fs,t.fa,t.ns,t.inj,h _ _ t.top,λi a=>h _ _ (t.row i a),t.sm.trans h⟩
def Tb.congr(t:Tb H0 H s ad n T)(h:∀i j,i<=n->j<=n->T i j=T' i j):Tb H0 H s ad n T':=⟨t.fs,t.fa,t.ns,t.inj,t.top,λi a=>by rw[t.row i a,Fm λj b=>h i j a b],t.sm⟩
def Tb.at(t:Tb H0 H s ad n T)(a:i<=n):((List.range (n+1)).map λi=>V.ref (ad i))[i]? =some (.ref (ad i)):=by
 rw[List.getElem?_map,List.getElem?_range (by lia)];rfl
theorem Tb.set(t:Tb H0 H s ad n T)(d:i<=n):Tb H0 (upd H (ad i) (.lst ((rwl n (T i)).set j (.int v)))) s ad n (λa b=>if a=i/\b=j then v else T a b):=by
 refine⟨t.fs,t.fa,t.ns,t.inj,by rw[AH (Ne.symm (t.ns i d))];exact t.top,λa h=>?_,λb o z=>?_⟩
 ·by_cases e:a=i
  ·subst e;rw[AF,R4];congr 2;refine Fm λx _=>?_
   by_cases q:x=j<;>simp[q]
  ·rw[AH (λz=>e (t.inj a i h d z)),t.row a h];congr 2;refine Fm λx _=>?_;simp[e]
 ·rw[AH (AM z (t.fa i d))];exact t.sm b o z
end
def brs:List Nat:=[40,41,91,93,123,125,60,62]
def plw(w:List Int)(c:Nat):List Int:=if c=63 then w else(brs.take w.length).map λb=>if c=b then 1 else 0
def SG(h:w.length<=8):(plw w c).length=w.length:=by
 unfold plw
 split
 ·rfl
 ·rw[List.length_map,List.length_take];exact Nat.min_eq_left h
abbrev PP(ps:List (List Int)):Nat->Nat->Int:=λi b=>(ps.getD i []).getD b 0
abbrev ones(k:Nat):List Int:=List.replicate (2*k) 1
inductive spWeighed (K:W.Frag) (vs:List V) (H:Hp) (Q:VK) (E:XK):Prop
 |mk (a:List Nat) (p:Addr) (w:List Int) (_:vs=[tx a, .ref p]) (_:a.length<=40) (_:SqL K H p (w.map V.int)) (_:w.length<=8) (_:∀r H',H r=none->Same H H'->Pls H' r (a.map (plw w))->Q (.ref r) H')
def Nd(d:a.length<=40)(e:SqL K H p (w.map V.int))(h:w.length<=8)(q:∀r b,H r=none->Same H b->Pls b r (a.map (plw w))->Q (.ref r) b):spWeighed K ([tx a, .ref p]++[]) H Q E:=⟨a,p,w,rfl,d,e,h,q⟩
inductive spCounted (vs:List V) (H:Hp) (Q:VK) (E:XK):Prop
 |mk (k:Int) (a:List Nat) (_:vs=[.int k,tx a]) (_:1<=k) (_:k<=4) (_:a.length<=40) (_:∀r H',H r=none->Same H H'->Pls H' r (a.map (plw (ones k.toNat)))->Q (.ref r) H')
def EX{k:Int}(d:1<=k)(e:k<=4)(h:a.length<=40)(q:∀r b,H r=none->Same H b->Pls b r (a.map (plw (ones k.toNat)))->Q (.ref r) b):spCounted ([.int k,tx a]++[]) H Q E:=⟨k,a,rfl,d,e,h,q⟩
def top30:Int:=10^31
def Sm(l:List Int):Prop:=∀v∈l,0<=v/\v<=top30
def Sm.at(h:Sm l)(b:Nat):0<=l.getD b 0/\l.getD b 0<=top30:=by
 rw[List.getD_eq_getElem?_getD]
 cases e:l[b]? with
 |none=>exact⟨by simp,by simp[top30]⟩
 |some v=>exact h v (List.mem_of_getElem? e)
inductive spPair (vs:List V) (H:Hp) (Q:VK) (E:XK):Prop
 |mk (p q:Addr) (x y:List Int) (k:Nat) (_:vs=[.ref p, .ref q]) (_:H p=some (iL x)) (_:H q=some (iL y)) (_:x.length=2*k) (_:y.length=2*k) (_:k<=4) (_:Sm x) (_:Sm y) (_:∀H',Same H H'->Q (.int (sm k λo=>x.getD (2*o) 0*y.getD (2*o+1) 0)) H')
def Jb{q:Addr}{x y:List Int}{k:Nat}(b:H p=some (iL x))(d:H q=some (iL y))(e:x.length=2*k)(h:y.length=2*k)(hk:k<=4)(i:Sm x)(j:Sm y)(r:∀a,Same H a->Q (.int (sm k λo=>x.getD (2*o) 0*y.getD (2*o+1) 0)) a):spPair ([.ref p, .ref q]++[]) H Q E:=⟨p,q,x,y,k,rfl,b,d,e,h,hk,i,j,r⟩
inductive spNoSums (vs:List V) (H:Hp) (Q:VK) (E:XK):Prop
 |mk (n:Nat) (_:vs=[.int n]) (_:n<=40) (_:∀s ad H',Tb H H' s ad n (λ_ _=>0)->Q (.ref s) H')
def Fe(b:n<=40)(r:∀s d a,Tb H a s d n (λ_ _=>0)->Q (.ref s) a):spNoSums ([.int n]++[]) H Q E:=⟨n,rfl,b,r⟩
def tbl(P:Nat->Nat->Int)(k:Nat)(i j:Nat):Int:=if i<=j then cv P k (j-i) i []else 0
inductive spWholeSum (vs:List V) (H:Hp) (Q:VK) (E:XK):Prop
 |mk (H0 s ad n T:_) (_:vs=[.ref s]) (_:Tb H0 H s ad n T) (_:Q (.int (T 0 n)) H)
def Dn{H0:Hp}{s:Addr}(h:Tb H0 H s ad n T)(q:Q (.int (T 0 n)) H):spWholeSum ([.ref s]++[]) H Q E:=⟨H0,s,ad,n,T,rfl,h,q⟩
def Sb(k:Nat):Sm (ones k):=λv a=>by
 obtain rfl:=List.eq_of_mem_replicate a;exact⟨by decide,by decide⟩
def Ua(h:Sm w)(c:Nat):Sm (plw w c):=by
 unfold plw
 split
 ·exact h
 ·intro v a;obtain⟨b,_,rfl⟩:=List.mem_map.mp a
  split<;>exact⟨by decide,by decide⟩
def Dx{ps:List (List Int)}(h:∀l∈ps,Sm l)(i b:Nat):0<=PP ps i b/\PP ps i b<=top30:=by
 show 0<=(ps.getD i []).getD b 0/\(ps.getD i []).getD b 0<=top30
 cases e:ps[i]? with
 |none=>
  have q:ps.getD i []=[]:=by rw[List.getD_eq_getElem?_getD,e];rfl
  rw[q];exact⟨by simp,by simp[top30]⟩
 |some l=>
  have q:ps.getD i []=l:=by rw[List.getD_eq_getElem?_getD,e];rfl
  rw[q];exact(h l (List.mem_of_getElem? e)).at b
def cap:Int:=(5*top30)^40
def UZ{ps:List (List Int)}{k:Nat}(hk:k<=4)(h:∀l∈ps,Sm l)(i j:Nat):0<=pr (PP ps) k i j/\pr (PP ps) k i j<=4*(top30*top30):=by
 unfold pr;have a:∀p,0<=PP ps i (2*p)*PP ps j (2*p+1)/\PP ps i (2*p)*PP ps j (2*p+1)<=top30*top30:=λp=>
  ⟨Int.mul_nonneg (Dx h _ _).1 (Dx h _ _).1,Int.mul_le_mul (Dx h _ _).2 (Dx h _ _).2 (Dx h _ _).1 (by decide)⟩
 refine⟨IY k λp _=>(a p).1,Int.le_trans (KD (g:=λ_=>top30*top30) k λp _=>(a p).2) ?_⟩;rw[JQ];exact Int.mul_le_mul_of_nonneg_right (by lia) (by decide)
def A4{i c:Int}(h0:0<=i)(h:i<=c)(a:c.natAbs<big):i.natAbs<big:=by
 refine Nat.lt_of_le_of_lt ?_ a;lia
def D5:cap.natAbs<big:=by unfold cap big top30;decide +kernel
def DR:top30.natAbs<big:=by unfold big top30;decide +kernel
def DU:(4*(top30*top30)).natAbs<big:=by unfold big top30;decide +kernel
def Qe(n:Nat):(List.replicate (n+1) [V.int 0]).flatten=rwl n λ_=>0:=by
 unfold rwl;have:∀m,(List.replicate m [V.int 0]).flatten=(List.range m).map λ_=>V.int 0:=by
  intro m
  induction m with
  |zero=>rfl
  |succ m a=>rw[List.replicate_succ',List.flatten_append,a,List.range_succ,List.map_append];rfl
 exact this (n+1)
def D6{xs:List α}{v:α}(h:0<xs.length)(e:xs[xs.length-1]? =some v):atI xs (-1)=some v:=by
 unfold atI ixN;rw[if_neg (by lia),if_pos (by lia)];have:((-1:Int)+xs.length).toNat=xs.length-1:=by lia
 simp only[this,Option.bind];exact e
def Qf(m:Nat):(List.replicate (2*m) [V.int 1]).flatten=(ones m).map V.int:=by
 unfold ones;generalize 2*m=j
 induction j with
 |zero=>rfl
 |succ j a=>rw[List.replicate_succ,List.flatten_cons,a,List.replicate_succ];rfl
def int_at(h:j<l.length):(l.map V.int)[j]? =some (.int (l.getD j 0)):=by
 rw[List.getElem?_map,List.getD_eq_getElem?_getD,List.getElem?_eq_getElem h];rfl
def Do{k:Nat}(hk:k<=4):∀l∈a.map (plw (ones k)),l.length=2*k/\Sm l:=λl b=>by
 obtain⟨c,_,rfl⟩:=List.mem_map.mp b;exact⟨by rw[SG (by rw[List.length_replicate];lia),List.length_replicate],Ua (Sb k) c⟩
def Pz(a:List Int):(a.map V.int).all Ay=true:=by
 rw[List.all_eq_true];intro v b;obtain⟨d,_,rfl⟩:=List.mem_map.mp b
 rfl
end BrS
open BrS
namespace L2
variable{t:TS}{R:TS->Prop}
def Low(a:List Nat):Prop:=∀c∈a,c<16^8
theorem Ia{β:Type}{F:α->β->Prop}:∀ {l:List α} {m:List β},l.length=m.length->(∀ (i:Nat) x u,l[i]? =some x->m[i]? =some u->F x u)->Paired F l m
 |[],[],_,_=> .nil
 |[],_::_,h,_=>by simp at h
 |_::_,[],h,_=>by simp at h
 |a::l,b::m,h,d=> .cons (d 0 a b rfl rfl) (Ia (by simpa using h) λi x u e j=>d (i+1) x u (by simpa using e) (by simpa using j))
def rListS:List V->Hp->VK->Prop:=λb H Q=>∃a,b=[tx a]/\a.length<=1000/\∀l,H l=none->Q (.ref l) (upd H l (.lst ((a.map λc=>[c]).map tx)))
def Ol(K:W.Frag)(y:X.calm=true):CallR X (.type "list") rListS:=by
 intro pins s σ H S T Q I r h;obtain⟨a,rfl,U,q⟩:=h;obtain⟨u,rfl,z⟩:=vals1 r;obtain⟨t,rfl⟩:=z;refine PySem.call_list_str (I.ok.hd y) _ t (λY B b G hk e J=>?_) (by rw[sizeLine_eq];show a.toArray.size<=_;rw[List.size_toArray];lia);obtain⟨j,l⟩:=J;have d:b.size=a.length:=by rw[j];simp
 have L:Vals ((a.map λc=>[c]).map tx) b.toList:=by
  refine Ia ?_ λi x u v M=>?_
  ·simp[d]
  ·have p:b[i]? =some u:=by simpa using M
   obtain⟨c,t',P,rfl⟩:=l i u p;have R:a[i]? =some c:=by simpa using P
   rw[List.map_map,List.getElem?_map,R]at v
   cases v
   exact⟨t',rfl⟩
 refine⟨.ref s.heap.objs.size,_,I.laid (t':=B) (o:= .lst ((a.map λc=>[c]).map tx)) hk (Nat.le_refl _) ⟨?_,b.toList,G,L,by simpa using e⟩,rfl,q _ (I.hok.fresh (Nat.le_refl _))⟩;rw[List.length_map,List.length_map,sizeLine_eq];lia
def TH{es p x l env}:swapsWith (.List es p) x l env=pure false:=rfl
def TU{c z pos es env}:starEach (.Constant c z pos::es) env=(false,eval (.Constant c z pos) env)::starEach es env:=rfl
def TR{c pos es env}:starEach (.List c pos::es) env=(false,eval (.List c pos) env)::starEach es env:=rfl
def TK{c z pos es env}:starEach (.Tuple c z pos::es) env=(false,eval (.Tuple c z pos) env)::starEach es env:=rfl
def K2{c z pos es env}:starEach (.Dict c z pos::es) env=(false,eval (.Dict c z pos) env)::starEach es env:=rfl
def TX{c o d pos es env}:starEach (.BinOp c o d pos::es) env=(false,eval (.BinOp c o d pos) env)::starEach es env:=rfl
def TJ{o c pos es env}:starEach (.UnaryOp o c pos::es) env=(false,eval (.UnaryOp o c pos) env)::starEach es env:=rfl
def TV{f a k pos es env}:starEach (.Call f a k pos::es) env=(false,eval (.Call f a k pos) env)::starEach es env:=rfl
def TQ{x pos es env}:starEach (.Name x pos::es) env=(false,eval (.Name x pos) env)::starEach es env:=rfl
def TN{a b pos es env}:starEach (.Subscript a b pos::es) env=(false,eval (.Subscript a b pos) env)::starEach es env:=rfl
inductive Pl (X:Cx):List Expr->List TE->Prop
 |nil:Pl X [] []
 |con {c z p t es ts:_} (h:PE X (.Constant c z p) t) (r:Pl X es ts):Pl X (.Constant c z p::es) (t::ts)
 |lst {c p t es ts:_} (h:PE X (.List c p) t) (r:Pl X es ts):Pl X (.List c p::es) (t::ts)
 |tup {c z p t es ts:_} (h:PE X (.Tuple c z p) t) (r:Pl X es ts):Pl X (.Tuple c z p::es) (t::ts)
 |dct {c z p t es ts:_} (h:PE X (.Dict c z p) t) (r:Pl X es ts):Pl X (.Dict c z p::es) (t::ts)
 |bin {c o d p t es ts:_} (h:PE X (.BinOp c o d p) t) (r:Pl X es ts):Pl X (.BinOp c o d p::es) (t::ts)
 |una {o c p t es ts:_} (h:PE X (.UnaryOp o c p) t) (r:Pl X es ts):Pl X (.UnaryOp o c p::es) (t::ts)
 |cal {f a k p t es ts:_} (h:PE X (.Call f a k p) t) (r:Pl X es ts):Pl X (.Call f a k p::es) (t::ts)
 |nam {x p t es ts:_} (h:PE X (.Name x p) t) (r:Pl X es ts):Pl X (.Name x p::es) (t::ts)
 |sub {a b p t es ts:_} (h:PE X (.Subscript a b p) t) (r:Pl X es ts):Pl X (.Subscript a b p::es) (t::ts)
def CH:List TE->TA
 |[]=>tNil
 |t::ts=>CY t (CH ts)
def Pl.pa(h:Pl X es ts):PA X es (CH ts):=by
 induction h with
 |nil=>exact AB
 |con h _ a=>exact AA h a TU
 |lst h _ a=>exact AA h a TR
 |tup h _ a=>exact AA h a TK
 |dct h _ a=>exact AA h a K2
 |bin h _ a=>exact AA h a TX
 |una h _ a=>exact AA h a TJ
 |cal h _ a=>exact AA h a TV
 |nam h _ a=>exact AA h a TQ
 |sub h _ a=>exact AA h a TN
def RH{st:Stmt}(e:body=st::rest)(d:PS X st t)(h:∃u,PSs X rest u/\R (Cc t u)):∃t,PSs X body t/\R t:=by
 obtain⟨u,a,b⟩:=h;exact⟨_,by rw[e];exact AD d a,b⟩
def S4{st:Stmt}(e:body=[st])(a:PS X st t)(b:R t):∃t,PSs X body t/\R t:=⟨_,by rw[e];exact AE a,b⟩
def SD{st:Stmt}{p:Pos}(a:st= .Assign [.Name x pos'] (.List es p) pos)(d:X.N.Nodup)(e:X.N[i]? =some x)(h:Loc X.env.scope x)(hf:X.fn x=true\/X.env.scope.names.lookup x=some .local)(b:Pl X es ts):PS X st (Bb (Cv (CH ts)) (Aw i)):=by
 subst a;exact Bz d e h (Ac b.pa) TH hf
inductive PSb (X:Cx) (st:Stmt) (t:TS):Prop
 |mk (h:PS X st t):PSb X st t
def PSb.ps{st:Stmt}(h:PSb X st t):PS X st t:=h.casesOn λh=>h
inductive PEb (X:Cx) (e:Expr) (t:TE):Prop
 |mk (h:PE X e t):PEb X e t
def PEb.pe{t:TE}(h:PEb X e t):PE X e t:=h.casesOn λh=>h
def GA{st:Stmt}(e:body=st::rest)(a:PSb X st t)(b:∃u,PSs X rest u/\R (Cc t u)):∃t,PSs X body t/\R t:=
 a.casesOn λh=>RH e h b
def Es{st:Stmt}{p:Pos}(a:st= .Assign [.Name x pos'] (.List es p) pos)(d:X.N.Nodup)(e:X.N[i]? =some x)(h:Loc X.env.scope x)(hf:X.fn x=true\/X.env.scope.names.lookup x=some .local)(b:Pl X es ts):PSb X st (Bb (Cv (CH ts)) (Aw i)):=⟨SD a d e h hf b⟩
end L2
namespace BrM
def Ri{Q:VK}(b:a.length<=1000)(q:∀l,H l=none->Q (.ref l) (upd H l (.lst ((a.map λc=>[c]).map tx)))):rListS [tx a] H Q:=⟨a,rfl,b,q⟩
def FW(a:List Nat):Prop:=Low a/\a.length<=1000
inductive Th (p:Addr) (H:Hp):V->Prop
 |txt (a:List Nat) (h:FW a):Th p H (tx a)
 |non:Th p H .non
 |int (i:Int) (h:i=0\/i=7):Th p H (.int i)
 |bl (b:Bool):Th p H (.bl b)
 |lst {q:Addr} {l:List (List Nat)} (h:H q=some (.lst (l.map tx))) (n:q≠p) (f:∀a∈l,FW a) (z:l.length<=1100):Th p H (.ref q)
 |tup {q:Addr} {l:List (List Nat)} (h:H q=some (.tup (l.map tx))) (n:q≠p) (f:∀a∈l,FW a) (z:l.length<=1):Th p H (.ref q)
 |dc0 {q:Addr} (h:H q=some (.dK [])) (n:q≠p):Th p H (.ref q)
 |dc1 {q:Addr} {a:List Nat} (h:H q=some (.dK [(.inr ⟨a.toArray⟩, .int 1)])) (n:q≠p) (f:FW a):Th p H (.ref q)
def all_cons{x:V}{l:List V}(a:Th p H x)(b:∀v∈l,Th p H v):∀v∈x::l,Th p H v:=λv d=>(List.mem_cons.mp d).elim (λe=>e▸a) (b v)
def Er(n:Nat)(b:List Nat):(List.replicate n b).flatten.length=n*b.length:=by
 induction n with
 |zero=>simp
 |succ n a=>rw[List.replicate_succ,List.flatten_cons,List.length_append,a,Nat.add_mul];lia
end BrM
namespace L2
variable{b:List Stmt}{apos:Pos}{f:Str}{t:TA}{tv:TE}{v:V}{rd:V->V->Hp->VK->Prop}{Q:VK}{E:XK}{R:XR}
structure MeU (P:Program) (w:World) (K:W.Frag) (mg:Str->Option Value) (base:Heap) (k:Nat) (C:Addr) (m:Str) (ps:List Str) (sp:Sp):Prop where
 ex:∃f fd,FnOk P w K mg base CX0 k f fd ps sp/\Meth K C m f/\Binds K fd ps []
structure MkU (P:Program) (w:World) (K:W.Frag) (mg:Str->Option Value) (base:Heap) (k:Nat) (C:Addr) (ps:List Str) (sp:Sp):Prop where
 ex:∃j f fd,j+1<=k/\FnOk P w K mg base CX0 j f fd ps sp/\Mk K C f/\Binds K fd ps []
section
variable{k:Nat}{m:Str}{ps:List Str}{o value:Expr}{p:Pos}
def DE(c:Cls X.K C)(U:MeU X.prog X.w X.K X.mg X.base k C m ps sp)(d:Room k X.A)(h:PE X o ta)(i:PA X (e::es) t)
 (a:starEach (e::es) X.env=(false,eval e X.env)::starEach es X.env:=by rfl) (b:(backTo pos (starEach es X.env)).any (·.1)=false:=by rfl)
 (ht:eval (.Call (.Attribute o m apos) (e::es) [] pos) X.env=(do
   let ov<-eval o X.env
   standAt apos.atName
   let(f,first)<-holding [ov] (getMethod ov m pl)
   callWith pos f first (backTo pos (starEach (e::es) X.env)) (backToKw pos (keywordEach [] X.env))):=by rfl):
 PE X (.Call (.Attribute o m apos) (e::es) [] pos) (EF C m sp [] E0 ta t):=
 let⟨_,_,F,j,l⟩:=U.ex;SN h c j F d l .nil DY i a b ht
def KZ(c:Cls X.K C)(U:MeU X.prog X.w X.K X.mg X.base k C m ps sp)(a:Room k X.A)(b:PE X o ta)
 (ht:eval (.Call (.Attribute o m apos) [] [] pos) X.env=(do
   let ov<-eval o X.env
   standAt apos.atName
   let(f,first)<-holding [ov] (getMethod ov m pl)
   callWith pos f first (backTo pos (starEach [] X.env)) (backToKw pos (keywordEach [] X.env))):=by rfl):
 PE X (.Call (.Attribute o m apos) [] [] pos) (EF C m sp [] E0 ta tNil):=
 let⟨_,_,F,d,h⟩:=U.ex;Qp b c d F a h .nil DY ht
def K9(U:MkU X.prog X.w X.K X.mg X.base k C ps sp)(d:Room k X.A)(h:X.mg x=some (.ref C))(i:PA X (e::es) t)(hg:Gl X x:=by rfl)(a:(x==("__debug__":Str))=false:=by decide)
 (j:starEach (e::es) X.env=(false,eval e X.env)::starEach es X.env:=by rfl) (b:(backTo pos (starEach es X.env)).any (·.1)=false:=by rfl):PE X (.Call (.Name x p) (e::es) [] pos) (EG C sp [] E0 t):=
 let⟨_,_,_,l,F,M,q⟩:=U.ex;SQ M F (d.mono l) hg h q .nil DY i a j b
def AU(K:W.Frag)(a:PE X e ta)(b:X.K=K:=by rfl)(d:attributeBase e f X.env (eval e X.env)=eval e X.env:=by rfl):PE X (.Attribute e f pos) (HL K ta f):=by subst b;exact Ue a d
def CO(K:W.Frag)(a:PE X o ta)(b:PE X value tv)(d:X.K=K:=by rfl)(h:swapsWith value (some (.Attribute o f pos')) pos.line X.env=pure false:=by rfl):PS X (.Assign [.Attribute o f pos'] value pos) (HN K ta tv f):=by subst d;exact UX a b h
def OM(K:W.Frag){op:Operator}(a:FV X op rd)(b:PE X o ta)(d:PE X value tv)(h:X.K=K:=by rfl):PS X (.AugAssign (.Attribute o f tpos) op value pos) (GI K ta tv rd f):=by subst h;exact O8 b d a
def rAddA:V->V->Hp->VK->Prop:=λx y H Q=>rAdd x y H Q\/∃a b,x=tx a/\y=tx b/\a.length+b.length<=sizeLine/\Q (tx (a++b)) H
def Kk:FV X .Add rAddA:=by
 rintro pins s σ H x y u v Q I d i (h|⟨a,b,rfl,rfl,j,q⟩)
 ·exact U3 pins s σ H x y u v Q I d i h
 ·obtain⟨t,rfl⟩:=d;obtain⟨r,rfl⟩:=i;refine PyProof.Rows.iadd_str (λl z=>⟨tx (a++b),H,I.tok _,⟨l,?_⟩,q⟩) (by rw[Az,Az];exact j);congr 1;show(⟨a.toArray++b.toArray⟩:Str)=_;simp
end
section
variable{m:Str}
def Tq(h:ta σ H λx b=>∃a d fs,x= .ref a/\b a=some (.ins C d fs)/\fs.lookup m=none/\t σ b λvs e=>sp (x::(vs++[])) e Q E):EF C m sp [] E ta t σ H Q:=h
def Tr(h:t σ H λvs b=>∀x a,b x=none->b a=none->a≠x->sp (.ref x::(vs++[])) (upd (upd b a (.own x)) x (.ins C a [])) (λv d=>v= .non/\Q (.ref x) d) E):EG C sp [] E t σ H Q:=h
def UF(h:ta σ H λx b=>∃a C d fs v,x= .ref a/\b a=some (.ins C d fs)/\Cls K C/\NoAttr K C f/\fs.lookup f=some v/\Q v b):HL K ta f σ H Q:=h
def UG(h:tv σ H λy e=>ta σ e λx b=>∃a C d fs,x= .ref a/\b a=some (.ins C d fs)/\Cls K C/\NoAttr K C f/\fs.length<1000/\D.nx σ (upd b a (.ins C d (Al f y fs)))):HN K ta tv f D σ H:=h
def UH(h:ta σ H λx e=>∃a C j fs v,x= .ref a/\e a=some (.ins C j fs)/\Cls K C/\NoAttr K C f/\fs.lookup f=some v/\tv σ e λy l=>rd v y l λz i=>∃d b,i a=some (.ins C d b)/\b.length<1000/\D.nx σ (upd i a (.ins C d (Al f z b)))):GI K ta tv rd f D σ H:=h
end
structure Cs where
 RowError:Addr
 NoKinds:Addr
 NoLine:Addr
 NotRight:Addr
 NoTree:Addr
 NoNumber:Addr
 NoWeights:Addr
 NoPlace:Addr
 NoFilling:Addr
 TooMany:Addr
 NoName:Addr
 NoRow:Addr
def FL(K:W.Frag)(C:Addr):Bool:=W.excIn K C E2 "ValueError.__new__"&&(W.typeIn K (.ref C)==some (.type "type"))&&(W.clsIn K C).isSome&&(W.mroIn K C (.type "BaseException")==some true)&&
 (W.mroIn K C (.type "object")==some true)&&(W.findIn K (.ref C) "__getattribute__"==some (some (.builtin "BaseException.__getattribute__")))&&(W.findIn K (.ref C) "__getattr__"==some none)&&
 (W.findIn K (.ref C) "__class__"==some (some (.builtin "object.__class__")))&&(W.specialIn K (.builtin "object.__class__") "__get__"==some (some (.builtin "getset_descriptor.__get__")))&&(W.takesIn K (.builtin "object.__class__")==some true)
def S5(h:FL K C=true):ECls K C:=by
 unfold FL at h;simp only[Bool.and_eq_true,beq_iff_eq]at h;obtain⟨⟨⟨⟨⟨⟨⟨⟨⟨b,d⟩,e⟩,i⟩,j⟩,l⟩,o⟩,p⟩,q⟩,a⟩:=h;exact⟨b,d,Option.isSome_iff_exists.mp e,i,j,l,o,p,q,a⟩
def B9(h:X.mg x=some (.ref C))(hg:Gl X x:=by rfl)(hd:(x==("__debug__":Str))=false:=by decide):PE X (.Name x pos) (tC (.ref C)):=AX (v:= .ref C) ⟨_,h,rfl⟩ hg hd
def My:bootBuiltins "ValueError"=some (.type "ValueError"):=by decide +kernel
def rNo:XR:=λ_ _ _ _=>False
def A9(e:Value)(s':Shared)(h:XF X rNo e s'):X.xe e s':=by
 obtain⟨_,_,_,_,_,_,_,_,_,_,_,_,_,_,_,_,_,_,r⟩:=h;exact r.elim
def BC{R:TS->Prop}(h:∃t,PSs X.nox b t/\R t):∃t,PSs X b t/\R t:=let⟨t,p,r⟩:=h;⟨t,p.nox,r⟩
theorem PS.nox{st:Stmt}{t:TS}(h:PS X.nox st t):PS X st t:=λpins s σ H D I a=>
 wpAny_mono (h pins s σ H D (I.wish _) a) (λ_ _ q=>q.unwish) λ_ _ z=>False.elim z
def R1(h:t σ H λvs a=>sp vs a Q (xk R σ)):Gf sp R t σ H Q:=h
def Rf(h:t σ H λvs a=>vs.length<=sizeLine/\∀y,a y=none->R C y σ a):Kx C R t D σ H:=h
def VJ{CR:Addr}{tb:XR->TS}{ts:TS}
 (h:tb (λC x σ' a=>W.mroIn K C (.ref CR)=some true/\∀ob,ts (Ex i D) (σ'.set i (some (.ref x))) (upd a x (BL ob x C))) D σ H):MD K i CR tb ts D σ H:=h
def Ref(E:XK)(C:Addr)(H:Hp):Prop:=∀y a,Same H a->H y=none->E (.ref C) (some y) a
def Ref.pass(r:Ref E C H)(s:Same H H1):Ref (xk (rOf E) σ) C H1:=λy a b h=>⟨C,y,rfl,rfl,r y a (s.trans b) (s.free h)⟩
def QU{y:Addr}{o:HO}(s:Same H H')(n:H y=none):Same H (upd H' y o):=λb u z=>by rw[AH (AM z n)];exact s b u z
def UU(h:∀y a,Same H a->H y=none->R C y σ a):Ref (xk R σ) C H:=λy a s n=>⟨C,y,rfl,rfl,h y a s n⟩
def NoN(K:W.Frag)(a b:Int)(H:Hp)(v:V):Prop:=∃ty,TyOf K H v (.type ty)/\ty∈Bf/\∀i,v= .int i->i<a\/b<i
abbrev NoK(K:W.Frag):Hp->V->Prop:=NoN K 1 4
def NoL(K:W.Frag)(k:Int)(H:Hp)(v:V):Prop:=(∃a,v=tx a/\a.length<=1000/\AZ k a=false)\/∃ty,TyOf K H v (.type ty)/\ty∈Bf/\ty≠"str"
def TyOf.same{t:Value}(h:TyOf K H v t)(s:Same H H'):TyOf K H' v t:=by
 cases h with
 |non=>exact .non
 |bl x=>exact .bl x
 |int i=>exact .int i
 |str x=>exact .str x
 |flt x=>exact .flt x
 |lst e=>exact .lst (s _ _ e)
 |frz e=>exact .frz (s _ _ e)
 |tup e=>exact .tup (s _ _ e)
 |dK e=>exact .dK (s _ _ e)
 |dT e=>exact .dT (s _ _ e)
 |ins e cl b d a j=>exact .ins (s _ _ e) cl b d a j
def TyOf.keep{t:Value}(h:TyOf K H v t)(n:∀a,v= .ref a->a≠p)(s:SameBut1 p H H'):TyOf K H' v t:=by
 cases h with
 |non=>exact .non
 |bl x=>exact .bl x
 |int i=>exact .int i
 |str x=>exact .str x
 |flt x=>exact .flt x
 |lst e=>exact .lst (s _ _ e (n _ rfl))
 |frz e=>exact .frz (s _ _ e (n _ rfl))
 |tup e=>exact .tup (s _ _ e (n _ rfl))
 |dK e=>exact .dK (s _ _ e (n _ rfl))
 |dT e=>exact .dT (s _ _ e (n _ rfl))
 |ins e cl d j b l=>exact .ins (s _ _ e (n _ rfl)) cl d j b l
def TyOf.int_of{t:Value}(h:TyOf K H v t)(e:t= .type "int"):∃i,v= .int i:=by
 cases h<;>first|exact⟨_,rfl⟩|(injection e with e;exact absurd e (by decide))|cases e
theorem NoN.same{hi:Int}(h:NoN K lo hi H v)(s:Same H H'):NoN K lo hi H' v:=let⟨ty,a,b⟩:=h;⟨ty,a.same s,b⟩
theorem NoL.same{k:Int}(h:NoL K k H v)(s:Same H H'):NoL K k H' v:=h.elim .inl λ⟨ty,a,b⟩=> .inr ⟨ty,a.same s,b⟩
def Gate(K:W.Frag)(cs:Cs)(H:Hp)(E:XK)(a v:V):Prop:=(NoK K H a/\Ref E cs.NoKinds H)\/∃k:Int,a= .int k/\1<=k/\k<=4/\NoL K k H v/\Ref E cs.NoLine H
theorem Gate.pass{cs:Cs}{kv:V}(g:Gate K cs H E kv v)(s:Same H H1):Gate K cs H1 (xk (rOf E) σ) kv v:=
 g.elim (λ⟨a,r⟩=> .inl ⟨a.same s,r.pass s⟩) λ⟨k,e,b,d,a,r⟩=> .inr ⟨k,e,b,d,a.same s,r.pass s⟩
def QT(K:W.Frag)(cs:Cs):Sp:=λvs H Q E=>spKinds vs H Q E\/∃v,vs=[v]/\NoK K H v/\Ref E cs.NoKinds H
def KB(K:W.Frag)(cs:Cs):Sp:=λvs H Q E=>spLine K vs H Q E\/∃a v,vs=[a,v]/\NoK K H a/\Ref E cs.NoKinds H
def KC(K:W.Frag)(cs:Cs)(sp:Sp):Sp:=λvs H Q E=>sp vs H Q E\/∃a v,vs=[a,v]/\Gate K cs H E a v
def OX{cs:Cs}{k:Int}(e:1<=k)(h:k<=4)(n:NoL K k H v)(q:∀d,Same H d->Q (.bl false) d):KB K cs [.int k,v] H Q E:=by
 refine .inl ⟨k,v,rfl,e,h,?_⟩;rcases n with⟨a,rfl,ha,hr⟩|⟨ty,a,b,c⟩
 ·exact .inl ⟨a,rfl,ha,λd s=>by rw[hr];exact q d s⟩
 ·exact .inr ⟨ty,a,b,c,q H (Same.refl H)⟩
structure MeUE (P:Program) (w:World) (K:W.Frag) (mg:Str->Option Value) (base:Heap) (k:Nat) (C:Addr) (m:Str) (ps:List Str) (sp:Sp):Prop where
 ex:∃f fd,FnOk P w K mg base (CXE P w) k f fd ps sp/\Meth K C m f/\Binds K fd ps []
def Ky(C:Addr)(m:Str)(sp:Sp)(R:XR)(d:TE)(t:TA):TE:=λσ H Q=>d σ H λx b=>∃a e fs,x= .ref a/\b a=some (.ins C e fs)/\fs.lookup m=none/\t σ b λvs h=>sp (x::vs) h Q (xk R σ)
section
variable{k:Nat}{f:Addr}{ps:List Str}{m:Str}{p:Pos}{o:Expr}
def R7{s:Shared}{vs:List V}(F:FnOk X.prog X.w X.K X.mg X.base (CXE X.prog X.w) k f fd ps sp)(d:Room k X.A)(i:Binds X.K fd ps [])(j:∀e b,XF X R e b->X.xe e b)
 (I:Inv X pins σ H s) (r:Vals vs us) (h:sp vs H Q (xk R σ)):wpAny (model X.prog X.w) X.A (call (.ref f) us) (EP X pins σ Q) X.xe s:=by
 have l:us.length=ps.length:=by rw[<-r.length];exact F.len _ _ _ _ h
 refine wpAny_call (codeAny_mono (F.run X.A X.stack s H ⟨us,[]⟩ us vs Q (xk R σ) d I.env0 ?_ r h) λres b a=>?_)
 ·have z:=i s us I.kIn (by rw[List.append_nil];exact l);rw[List.append_nil]at z;exact z
 ·cases res with
  |error q=>exact j _ _ ⟨pins,σ,H,s,I,a⟩
  |ok fl=>
   cases fl with
   |ret u=>exact I.after a
   |next=>exact False.elim a
   |brk=>exact False.elim a
   |cont=>exact False.elim a
def KY(c:Cls X.K C)(U:MeUE X.prog X.w X.K X.mg X.base k C m ps sp)(z:Room k X.A)(B:∀e i,XF X R e i->X.xe e i)(G:PE X o ta)(J:PA X (e::es) t)
 (b:starEach (e::es) X.env=(false,eval e X.env)::starEach es X.env:=by rfl) (d:(backTo pos (starEach es X.env)).any (·.1)=false:=by rfl)
 (ht:eval (.Call (.Attribute o m apos) (e::es) [] pos) X.env=(do
   let ov<-eval o X.env
   standAt apos.atName
   let(f,first)<-holding [ov] (getMethod ov m pl)
   callWith pos f first (backTo pos (starEach (e::es) X.env)) (backToKw pos (keywordEach [] X.env))):=by rfl):
 PE X (.Call (.Attribute o m apos) (e::es) [] pos) (Ky C m sp R ta t):=by
 obtain⟨f,fd,F,j,L⟩:=U.ex;intro pins s σ H Q I h;refine W.methodCall_KW (pl:=pl) (thn (G pins s σ H _ I h) λu M ⟨x,P,v,S,a,Z,fs,ex,T,l,q⟩=>?_) ht;subst ex;obtain rfl:u=Value.ref a:=S;refine Ff v T c j l ?_;refine W.callWith_K (first:=[.ref a]) (h₀:=X.base) I.ok.mod.kin j.kp (thn (J pos pins M σ P _ v q) λus s2 ⟨vs,H2,y,r,Y⟩=>⟨y.kIn,?_⟩) b d;exact R7 (us:= .ref a::us) (vs:= .ref a::vs) F z L B y (.cons rfl r) Y
end
section
variable{m:Str}
def Rh(h:ta σ H λx b=>∃a d fs,x= .ref a/\b a=some (.ins C d fs)/\fs.lookup m=none/\t σ b λvs e=>sp (x::vs) e Q (xk R σ)):Ky C m sp R ta t σ H Q:=h
end
end L2
namespace PySem
open PySem.Sem (wp)
variable{S:Nat->Heap->Prop}{P:Nat->Value->Prop}{Q:Option Value->Shared->Prop}
structure ZAp (z TI TO i1 i2:Addr) (fp1 fp2:List Addr):Prop where
 TIz:TI≠z
 TOz:TO≠z
 TITO:TI≠TO
 TIi1:TI≠i1
 TIi2:TI≠i2
 z1:z∉fp1
 z2:z∉fp2
 o1:TO∉fp1
 o2:TO∉fp2
 a12:i1∉fp2
 a21:i2∉fp1
 m1:i1∈fp1
 m2:i2∈fp2
section
variable{s:Shared}
variable{z TI TO i1 i2:Addr}{fp1 fp2:List Addr}{n1 n2:Nat}{P1 P2:Nat->Value->Prop}{S1 S2:Nat->Heap->Prop}{a b:Value}
def ZAp.i1z(D:ZAp z TI TO i1 i2 fp1 fp2):i1≠z:=λe=>D.z1 (e▸D.m1)
def ZAp.i2z(D:ZAp z TI TO i1 i2 fp1 fp2):i2≠z:=λe=>D.z2 (e▸D.m2)
def ZAp.i1o(D:ZAp z TI TO i1 i2 fp1 fp2):i1≠TO:=λe=>D.o1 (e▸D.m1)
def ZAp.i2o(D:ZAp z TI TO i1 i2 fp1 fp2):i2≠TO:=λe=>D.o2 (e▸D.m2)
def Draws.but{it c:Addr}(D:Draws prog w A it fp n P S)(st:S i h)(k:Heap.ExtBut c h h')(d:c∉fp):S i h':=D.frame _ _ _ st λx j o e=>k x o (λq=>d (q▸j)) e
def Mz{Q:Value->Shared->Prop}(D:ZAp z TI TO i1 i2 fp1 fp2)(D1:Draws prog w A i1 fp1 n1 P1 S1)(D2:Draws prog w A i2 fp2 n2 P2 S2)
 (hz:IsZip s.heap z TI TO .none) (hTI:IsPair s.heap TI (.ref i1) (.ref i2)) (hTO:IsPair s.heap TO a b) (h1:S1 i s.heap) (h2:S2 i s.heap) (l1:i<n1) (l2:i<n2)
 (hQ:∀x y U tk,P1 i x->P2 i y->IsZip U z TI TO (rawInt s.heap.objs.size)->IsPair U TO x y->S1 (i+1) U->S2 (i+1) U->IsPair U s.heap.objs.size x y->U.objs.size=s.heap.objs.size+1->
   (∀c o,c≠z->c≠TO->c≠i1->c≠i2->s.heap.get? c=some o->U.get? c=some o)->Q (.ref s.heap.objs.size) {s with heap:=U,toks:=tk}):
 wpAny (model prog w) A (Builtin.«zip.__next__» ⟨[.ref z],[]⟩) (λfin s'=>∃v,fin= .done (.ret v)/\Q v s') E s:=by
 obtain⟨hp,g,d,tk₀,os⟩:=s;show wpAny _ _ (field (.ref z) 2>>=_) _ _ _;refine wpAny_bind (wpAny_field hz rfl (x:= .bool false) rfl ?_);show wpAny _ _ (field (.ref z) 3>>=_) _ _ _;refine wpAny_bind (wpAny_field hz rfl (x:= .ref TI) rfl ?_);refine wpAny_bind (wpAny_seqItems hTI rfl ?_);show wpAny _ _ (Builtin.SmallTypes.ownedTupleIsFree (.ref z)>>=_) _ _ _;refine wpAny_bind ?_;unfold Builtin.SmallTypes.ownedTupleIsFree;refine wpAny_bind (wpAny_field hz rfl (x:= .none) rfl (wpAny_pure ?_));simp only[if_true];refine wpAny_bind (wpAny_rule ?_);refine wpAny_bind (wpAny_field hz rfl (x:= .ref TO) rfl ?_);refine wpAny_bind (wpAny_setField_rec hz (by simp) λh₁ L h=>?_)
 replace L:IsZip h₁ z TI TO .ellipsis:=L
 replace h:Heap.SameBut z hp h₁:=h
 refine wpAny_bind ?_;simp only[List.zipIdx_cons,List.zipIdx_nil,List.forIn_cons,List.forIn_nil];refine wpAny_bind (wpAny_bind (wpAny_onRaise ?_));show wpAny _ _ (Builtin.SmallTypes.nextOf (.ref i1)>>=_) _ _ _;refine wpAny_bind (D1.item i _ _ _ l1 (D1.but h1 h.extBut D.z1) λx h₂ tk₂ hx Y j=>wpAny_pure ?_)
 replace j:Heap.SameBut i1 h₁ h₂:=j
 have P:IsPair h₂ TO a b:=j.extBut _ _ D.i1o.symm (h.extBut _ _ D.TOz hTO);refine wpAny_bind (wpAny_seqItems P rfl ?_);refine wpAny_bind (wpAny_updateSeq_pair P λh₃ I l=>?_)
 replace I:IsPair h₃ TO x b:=I
 replace l:Heap.SameBut TO h₂ h₃:=l
 refine wpAny_bind (wpAny_letGo (wpAny_pure ?_));refine wpAny_bind (wpAny_bind (wpAny_onRaise ?_));show wpAny _ _ (Builtin.SmallTypes.nextOf (.ref i2)>>=_) _ _ _;refine wpAny_bind (D2.item i _ _ _ l2 (D2.but (D2.but (D2.but h2 h.extBut D.z2) j.extBut D.a12) l.extBut D.o2) λy h₄ tk₄ hy Z p=>wpAny_pure ?_)
 replace p:Heap.SameBut i2 h₃ h₄:=p
 have R:IsPair h₄ TO x b:=p.extBut _ _ D.i2o.symm I;refine wpAny_bind (wpAny_seqItems R rfl ?_);refine wpAny_bind (wpAny_updateSeq_pair R λh₅ B r=>?_)
 replace B:IsPair h₅ TO x y:=B
 replace r:Heap.SameBut TO h₄ h₅:=r
 refine wpAny_bind (wpAny_letGo (wpAny_pure (wpAny_pure ?_)));refine wpAny_bind (wpAny_seqItems B rfl ?_);refine wpAny_bind (wpAny_newTuple ?_);have hsz:h₅.objs.size=hp.objs.size:=by rw[r.1,p.1,l.1,j.1,h.1]
 have S:IsZip h₅ z TI TO .ellipsis:=r.extBut _ _ D.TOz.symm (p.extBut _ _ D.i2z.symm (l.extBut _ _ D.TOz.symm (j.extBut _ _ D.i1z.symm L)));have hk₅:∀c o,c≠z->c≠TO->c≠i1->c≠i2->hp.get? c=some o->h₅.get? c=some o:=λc o c1 c2 c3 c4 e=>
  r.extBut _ _ c2 (p.extBut _ _ c4 (l.extBut _ _ c2 (j.extBut _ _ c3 (h.extBut _ _ c1 e))))
 have h1₅:S1 (i+1) h₅:=D1.but (D1.but (D1.but Y l.extBut D.o1) p.extBut D.a21) r.extBut D.o1;have h2₅:S2 (i+1) h₅:=D2.but Z r.extBut D.o2;have X:z<h₅.objs.size:=Heap.lt_size S;show wpAny _ _ (Builtin.SmallTypes.ownedTupleHandOut (.ref z) (.ref h₅.objs.size)>>=_) _ _ _;refine wpAny_bind ?_;unfold Builtin.SmallTypes.ownedTupleHandOut;have hz₆:IsZip (h₅.push {cls:= .type "tuple",data:= .seq #[x,y]}) z TI TO .ellipsis:=Heap.get?_push_of_some _ S;refine wpAny_bind (wpAny_setField_rec hz₆ (by simp) λh₇ M G=>?_)
 replace M:IsZip h₇ z TI TO (rawInt h₅.objs.size):=M
 replace G:Heap.SameBut z (h₅.push {cls:= .type "tuple",data:= .seq #[x,y]}) h₇:=G
 refine wpAny_setField_rec M (by simp) λh₈ J H=>?_
 replace J:IsZip h₈ z TI TO (rawInt h₅.objs.size):=J
 replace H:Heap.SameBut z h₇ h₈:=H
 have up:∀c o,c≠z->h₅.get? c=some o->h₈.get? c=some o:=λc o c1 e=>H.extBut _ _ c1 (G.extBut _ _ c1 (Heap.get?_push_of_some _ e));have T:IsPair h₈ h₅.objs.size x y:=H.extBut _ _ (Nat.ne_of_gt X) (G.extBut _ _ (Nat.ne_of_gt X) (Heap.get?_push_size _ rfl));have hz8:h₈.objs.size=h₅.objs.size+1:=by rw[H.1,G.1,Heap.size_push]
 rw[hsz]at J T hz8;refine wpAny_pure ⟨_,rfl,?_⟩;show Q (.ref h₅.objs.size) _;rw[hsz];exact hQ x y h₈ _ hx hy J (up _ _ D.TOz B) (D1.frame _ _ _ h1₅ λc hc o e=>up c o (λq=>D.z1 (q▸hc)) e) (D2.frame _ _ _ h2₅ λc hc o e=>up c o (λq=>D.z2 (q▸hc)) e) T hz8 λc o c1 c2 c3 c4 e=>up c o c1 (hk₅ c o c1 c2 c3 c4 e)
def NC{Q:Fin->Shared->Prop}(D:ZAp z TI TO i1 i2 fp1 fp2)(P:Draws prog w A i1 fp1 n1 P1 S1)(R:Draws prog w A i2 fp2 n2 P2 S2)
 (J:IsZip s.heap z TI TO .none) (T:IsPair s.heap TI (.ref i1) (.ref i2)) (U:IsPair s.heap TO a b) (h1:S1 i s.heap) (h2:S2 i s.heap) (L:i=n1\/(i<n1/\i=n2))
 (hE:∀X tk e,(∀c o,c≠z->c≠TO->c≠i1->c≠i2->s.heap.get? c=some o->X.get? c=some o)->(∃o,X.get? e=some o/\o.cls= .type "StopIteration")->E (.ref e) {s with heap:=X,toks:=tk}):
 wpAny (model prog w) A (Builtin.«zip.__next__» ⟨[.ref z],[]⟩) Q E s:=by
 obtain⟨hp,g,d,Y,os⟩:=s;show wpAny _ _ (field (.ref z) 2>>=_) _ _ _;refine wpAny_bind (wpAny_field J rfl (x:= .bool false) rfl ?_);show wpAny _ _ (field (.ref z) 3>>=_) _ _ _;refine wpAny_bind (wpAny_field J rfl (x:= .ref TI) rfl ?_);refine wpAny_bind (wpAny_seqItems T rfl ?_);show wpAny _ _ (Builtin.SmallTypes.ownedTupleIsFree (.ref z)>>=_) _ _ _;refine wpAny_bind ?_;unfold Builtin.SmallTypes.ownedTupleIsFree;refine wpAny_bind (wpAny_field J rfl (x:= .none) rfl (wpAny_pure ?_));simp only[if_true];refine wpAny_bind (wpAny_rule ?_);refine wpAny_bind (wpAny_field J rfl (x:= .ref TO) rfl ?_);refine wpAny_bind (wpAny_setField_rec J (by simp) λh₁ p l=>?_)
 replace p:IsZip h₁ z TI TO .ellipsis:=p
 replace l:Heap.SameBut z hp h₁:=l
 refine wpAny_bind ?_;simp only[List.zipIdx_cons,List.zipIdx_nil,List.forIn_cons,List.forIn_nil];refine wpAny_bind (wpAny_bind (wpAny_onRaise ?_));show wpAny _ _ (Builtin.SmallTypes.nextOf (.ref i1)>>=_) _ _ _;rcases L with rfl|⟨l1,rfl⟩
 ·refine wpAny_bind (P.done _ _ _ (P.but h1 l.extBut D.z1) λh₂ e h Z=>?_)
  replace h:Heap.ExtBut i1 h₁ h₂:=h
  obtain⟨oe,v,B⟩:=Z;have G:IsZip h₂ z TI TO .ellipsis:=h _ _ D.i1z.symm p;have I:e≠z:=λx=>by subst x;rw[G]at v;cases v;simp at B
  refine wpAny_setField_rec G (by simp) λh₃ _ j=>?_
  replace j:Heap.SameBut z h₂ h₃:=j
  exact hE h₃ _ e (λc o M _ c3 _ x=>j.extBut _ _ M (h _ _ c3 (l.extBut _ _ M x))) ⟨oe,j.extBut _ _ I v,B⟩
 ·refine wpAny_bind (P.item i _ _ _ l1 (P.but h1 l.extBut D.z1) λx h₂ tk₂ hx h1₂ h=>wpAny_pure ?_)
  replace h:Heap.SameBut i1 h₁ h₂:=h
  have y:IsPair h₂ TO a b:=h.extBut _ _ D.i1o.symm (l.extBut _ _ D.TOz U);refine wpAny_bind (wpAny_seqItems y rfl ?_);refine wpAny_bind (wpAny_updateSeq_pair y λh₃ S j=>?_)
  replace j:Heap.SameBut TO h₂ h₃:=j
  refine wpAny_bind (wpAny_letGo (wpAny_pure ?_));refine wpAny_bind (wpAny_bind (wpAny_onRaise ?_));show wpAny _ _ (Builtin.SmallTypes.nextOf (.ref i2)>>=_) _ _ _;refine wpAny_bind (R.done _ _ _ (R.but (R.but (R.but h2 l.extBut D.z2) h.extBut D.a12) j.extBut D.o2) λh₄ e q Z=>?_)
  replace q:Heap.ExtBut i2 h₃ h₄:=q
  obtain⟨oe,v,B⟩:=Z;have H:IsZip h₄ z TI TO .ellipsis:=q _ _ D.i2z.symm (j.extBut _ _ D.TOz.symm (h.extBut _ _ D.i1z.symm p));have I:e≠z:=λx=>by subst x;rw[H]at v;cases v;simp at B
  refine wpAny_setField_rec H (by simp) λh₅ _ r=>?_
  replace r:Heap.SameBut z h₄ h₅:=r
  exact hE h₅ _ e (λc o M c2 c3 c4 x=>r.extBut _ _ M (q _ _ c4 (j.extBut _ _ c2 (h.extBut _ _ c3 (l.extBut _ _ M x))))) ⟨oe,r.extBut _ _ I v,B⟩
def Nj(D:ZAp z TI TO i1 i2 fp1 fp2)(q:Draws prog w A.in1 i1 fp1 n1 P1 S1)(r:Draws prog w A.in1 i2 fp2 n2 P2 S2)
 (l:IsZip s.heap z TI TO .none) (e:IsPair s.heap TI (.ref i1) (.ref i2)) (h:IsPair s.heap TO a b) (v:S1 i s.heap) (B:S2 i s.heap) (G:i<n1) (H:i<n2)
 (I:∀x y d j,P1 i x->P2 i y->IsZip d z TI TO (rawInt s.heap.objs.size)->IsPair d TO x y->S1 (i+1) d->S2 (i+1) d->IsPair d s.heap.objs.size x y->d.objs.size=s.heap.objs.size+1->
   (∀c o,c≠z->c≠TO->c≠i1->c≠i2->s.heap.get? c=some o->d.get? c=some o)->Q (some (.ref s.heap.objs.size)) {s with heap:=d,toks:=j}):
 wpAny (model prog w) A (pyNext (.ref z)) Q E s:=by
 have p:s.TypeIs (.ref z) "zip":=⟨_,l,rfl⟩;unfold pyNext;exact wpAny_bind (wpAny_attempt (wpAny_callSpecial?_slot (name:=Str.ofString "__next__") p F.slot_zip_next
  (wpAny_call_entry F.slot_zip_next p F.entry_zip_next
    (Mz D q r l e h v B G H λx y d j J L M P R S T U X=>wpAny_pure (I x y d j J L M P R S T U X)) (F.args_zip_next_1 _))))
def Hc(D:ZAp z TI TO i1 i2 fp1 fp2)(v:Draws prog w A.in1 i1 fp1 n1 P1 S1)(x:Draws prog w A.in1 i2 fp2 n2 P2 S2)
 (p:IsZip s.heap z TI TO .none) (h:IsPair s.heap TI (.ref i1) (.ref i2)) (j:IsPair s.heap TO a b) (y:S1 i s.heap) (B:S2 i s.heap) (d:i=n1\/(i<n1/\i=n2))
 (G:∀l q,(∀c o,c≠z->c≠TO->c≠i1->c≠i2->s.heap.get? c=some o->l.get? c=some o)->Q none {s with heap:=l,toks:=q}):wpAny (model prog w) A (pyNext (.ref z)) Q E s:=by
 have r:s.TypeIs (.ref z) "zip":=⟨_,p,rfl⟩;unfold pyNext;refine wpAny_bind (wpAny_attempt (wpAny_callSpecial?_slot (name:=Str.ofString "__next__") r F.slot_zip_next
  (wpAny_call_entry F.slot_zip_next r F.entry_zip_next (NC D v x p h j y B d λl q e hk H=>?_) (F.args_zip_next_1 _))))
 obtain⟨o,I,J⟩:=H;refine wpAny_bind (wpAny_isInstance (T:="StopIteration") (b:=true) ⟨o,I,J⟩ isSubtype_stop ?_);exact wpAny_pure (G _ _ hk)
end
abbrev sit(x:Str)(t:Tok):Obj:={cls:= .type (strIterType x),data:= .fields #[.str x t, .int 0 0]}
abbrev zs2(h:Heap)(x y:Str)(t u:Tok):Heap:=(h.push (sit x t)).push (sit y u)
abbrev zs3(h:Heap)(x y:Str)(t u:Tok):Heap:=(zs2 h x y t u).push {cls:= .type "tuple",data:= .seq #[.ref h.objs.size, .ref (h.push (sit x t)).objs.size]}
abbrev zs4(h:Heap)(x y:Str)(t u:Tok):Heap:=(zs3 h x y t u).push {cls:= .type "tuple",data:= .seq #[.none, .none]}
abbrev zs5(h:Heap)(x y:Str)(t u:Tok):Heap:=(zs4 h x y t u).push {cls:= .type "zip",data:= .fields #[.none, .bool false, .bool false, .ref (zs2 h x y t u).objs.size, .ref (zs3 h x y t u).objs.size]}
def NA(x y:Str)(t u:Tok):
 Meets (Builtin.«zip.__new__» ⟨[.type "zip", .str x t, .str y u],[]⟩) (λ_ R s=>R (.ok (.ret (.ref (zs4 s.heap x y t u).objs.size))) {s with heap:=zs5 s.heap x y t u}):=
 .of_wp λprog w A R s h=>by
   obtain⟨b,g,d,e,os⟩:=s;have a:=sub_zip
   wp_walk using wpAny_pyIter_strU (x:=x) (t:=t),wpAny_pyIter_strU (x:=y) (t:=u)
   exact⟨_,rfl,h⟩
def QC{s:Shared}{y:Str}{t u:Tok}{Q:Value->Shared->Prop}
 (h:∀a,IsZip a (s.heap.objs.size+4) (s.heap.objs.size+2) (s.heap.objs.size+3) .none->IsPair a (s.heap.objs.size+2) (.ref s.heap.objs.size) (.ref (s.heap.objs.size+1))->
   IsPair a (s.heap.objs.size+3) .none .none->a.IsStrIter s.heap.objs.size (strIterType x) x t 0->a.IsStrIter (s.heap.objs.size+1) (strIterType y) y u 0->a.objs.size=s.heap.objs.size+5->
   (∀c o,s.heap.get? c=some o->a.get? c=some o)->Q (.ref (s.heap.objs.size+4)) {s with heap:=a}):
 wpAny (model prog w) A (call (.type "zip") [.str x t, .str y u]) Q E s:=by
 refine callType_new F.called_zip (by decide) (F.typeCall_zip_2 _ _) (F.newCall_zip_2 _ _) (λobj=>F.args_object_init_3 obj _ _) F.entry_zip_new
  (NA x y t u) ?_
 have z1:(s.heap.push (sit x t)).objs.size=s.heap.objs.size+1:=Heap.size_push ..;have z2:(zs2 s.heap x y t u).objs.size=s.heap.objs.size+2:=by rw[Heap.size_push,z1]
 have b:(zs3 s.heap x y t u).objs.size=s.heap.objs.size+3:=by rw[Heap.size_push,z2]
 have d:(zs4 s.heap x y t u).objs.size=s.heap.objs.size+4:=by rw[Heap.size_push,b]
 have p:(zs5 s.heap x y t u).objs.size=s.heap.objs.size+5:=by rw[Heap.size_push,d]
 have e:(zs5 s.heap x y t u).get? (zs4 s.heap x y t u).objs.size=some _:=Heap.get?_push_size _ rfl;have i:(zs5 s.heap x y t u).get? (zs3 s.heap x y t u).objs.size=some _:=Heap.get?_push_of_some _ (Heap.get?_push_size _ rfl);have j:(zs5 s.heap x y t u).get? (zs2 s.heap x y t u).objs.size=some _:=Heap.get?_push_of_some _ (Heap.get?_push_of_some _ (Heap.get?_push_size _ rfl));have l:(zs5 s.heap x y t u).get? (s.heap.push (sit x t)).objs.size=some _:=Heap.get?_push_of_some _ (Heap.get?_push_of_some _ (Heap.get?_push_of_some _ (Heap.get?_push_size _ rfl)));have q:(zs5 s.heap x y t u).get? s.heap.objs.size=some _:=Heap.get?_push_of_some _ (Heap.get?_push_of_some _ (Heap.get?_push_of_some _ (Heap.get?_push_of_some _ (Heap.get?_push_size _ rfl))));show _/\_;rw[z2,b,d]at e;rw[z1,z2]at j;rw[b]at i;rw[z1]at l;rw[d];exact⟨⟨_,e,rfl⟩,h _ e j i ⟨_,q,rfl,rfl⟩ ⟨_,l,rfl,rfl⟩ p λc o x=>
  Heap.get?_push_of_some _ (Heap.get?_push_of_some _ (Heap.get?_push_of_some _ (Heap.get?_push_of_some _ (Heap.get?_push_of_some _ x))))⟩
end PySem
namespace L2
variable{tn:Heap->Prop}
def IzS(x y:Str):W4:=⟨λi _=>i<x.cps.size/\i<y.cps.size,λi H v a=>∃T c d,H T=none/\x.cps[i]? =some c/\y.cps[i]? =some d/\v= .ref T/\a=upd H T (.tup [.str ⟨#[c]⟩, .str ⟨#[d]⟩]),λi _=>i=x.cps.size\/(i<x.cps.size/\i=y.cps.size)⟩
section
variable{k:Nat}
def JF{s:Shared}{z TI TO i1 i2:Addr}{fp1 fp2:List Addr}{n1 n2:Nat}{P1 P2:Nat->Value->Prop}{S1 S2:Nat->Heap->Prop}{a b:Value}{Qx Qy:Value->V->Prop}
 (D:ZAp z TI TO i1 i2 fp1 fp2) (Q:Draws X.prog X.w X.A.in1 i1 fp1 n1 P1 S1) (R:Draws X.prog X.w X.A.in1 i2 fp2 n2 P2 S2) (I:Inv X pins σ H s) (hf:∀b∈[z,TI,TO,i1,i2],BM X pins H b)
 (hz:IsZip s.heap z TI TO .none) (j:IsPair s.heap TI (.ref i1) (.ref i2)) (G:IsPair s.heap TO a b) (h1:S1 i s.heap) (h2:S2 i s.heap) (l1:i<n1) (l2:i<n2)
 (S:∀B x y,IsZip B z TI TO .none->IsPair B TI (.ref i1) (.ref i2)->IsPair B TO x y->S1 (i+1) B->S2 (i+1) B->tn B) (y1:∀v,P1 i v->∃q,RelV q v/\Qx v q) (y2:∀v,P2 i v->∃q,RelV q v/\Qy v q):
 wpAny (model X.prog X.w) X.A (pyNext (.ref z)) (λr s1=>∃u,r=some u/\wpAny (model X.prog X.w) X.A (letOwnedTupleGo (.Tuple elts k tpos) (.ref z) u) (λ_ s2=>∃x U,Inv X pins σ U s2/\RelV x u/\
  (∃T l p v1 v2,H T=none/\Qx v1 l/\Qy v2 p/\x= .ref T/\U=upd H T (.tup [l,p]))/\tn s2.heap/\∀b∈[z,TI,TO,i1,i2],U b=none) E s1) E s:=by
 refine Nj D Q R hz j G h1 h2 l1 l2 λx y J tk p1 p2 a1 a2 a3 a4 a5 a6 a7=>⟨_,rfl,wpAny_letOwnedTupleGo_zip a1 λh2' Y d=>?_⟩
 replace d:Heap.SameBut z J h2':=d
 obtain⟨l,r1,e1⟩:=y1 x p1;obtain⟨p,r2,e2⟩:=y2 y p2;have L:z<s.heap.objs.size:=Heap.lt_size hz;have Z:h2'.get? s.heap.objs.size=some {cls:= .type "tuple",data:= .seq #[x,y]}:=(d.2 _ (Nat.ne_of_gt L)).trans a5;have ob:ObjOk X.prog X.w (upd H s.heap.objs.size (.tup [l,p])) h2' s.heap.objs.size (.tup [l,p]):=⟨(by show 2<=sizeLine;decide),[x,y], .cons r1 (.cons r2 .nil),⟨_,Z,rfl,_,rfl⟩⟩;have I2:Inv X pins σ (upd H s.heap.objs.size (.tup [l,p])) {s with heap:=h2',toks:=tk}:=I.turnedLaid hf (λb u h q=>(d.2 b (λz=>h (by simp[z]))).trans (a7 b u (λz=>h (by simp[z])) (λz=>h (by simp[z])) (λz=>h (by simp[z])) (λz=>h (by simp[z])) q)) (Nat.le_refl _) ob;have up:∀c o,c≠z->J.get? c=some o->h2'.get? c=some o:=λc o M e=>(d.2 c M).trans e;refine⟨.ref s.heap.objs.size,_,I2,rfl,⟨s.heap.objs.size,l,p,x,y,I.hok.fresh (Nat.le_refl _),e1,e2,rfl,rfl⟩,S h2' x y Y (up _ _ D.TIz (a7 _ _ D.TIz D.TITO D.TIi1 D.TIi2 j)) (up _ _ D.TOz a2) (Q.frame _ _ _ a3 λc M o e=>up c o (λq=>D.z1 (q▸M)) e) (R.frame _ _ _ a4 λc M o e=>up c o (λq=>D.z2 (q▸M)) e),λb h=>?_⟩;have hlt:b<s.heap.objs.size:=by
  simp only[List.mem_cons,List.not_mem_nil,or_false]at h;rcases h with e|e|e|e|e
  ·rw[e];exact L
  ·rw[e];exact Heap.lt_size j
  ·rw[e];exact Heap.lt_size G
  ·rw[e];obtain⟨_,q⟩:=Q.live _ _ h1;exact Heap.lt_size q
  ·rw[e];obtain⟨_,q⟩:=R.live _ _ h2;exact Heap.lt_size q
 rw[AH (Nat.ne_of_lt hlt)];exact(hf b h).1
def Ov{y:Str}{t u:Tok}{T1 T2:String}{z TI TO i1 i2:Addr}(D:ZAp z TI TO i1 i2 [i1] [i2])
 (W1:∀A:Around,A.handled=none->Draws P w A i1 [i1] x.cps.size (λi v=>∃c u,x.cps[i]? =some c/\v= .str ⟨#[c]⟩ u) (λi h=>h.IsStrIter i1 T1 x t i))
 (W2:∀A:Around,A.handled=none->Draws P w A i2 [i2] y.cps.size (λi v=>∃c u,y.cps[i]? =some c/\v= .str ⟨#[c]⟩ u) (λi h=>h.IsStrIter i2 T2 y u i)):
 Turn P w K (.Tuple elts k tpos) (IzS x y) [z,TI,TO,i1,i2] z (λi h=>IsZip h z TI TO .none/\IsPair h TI (.ref i1) (.ref i2)/\(∃a b,IsPair h TO a b)/\h.IsStrIter i1 T1 x t i/\h.IsStrIter i2 T2 y u i) where
 mem:=by simp
 obj:=λi h st b p=>by
  obtain⟨B,j,⟨a,S,l⟩,⟨o1,G,_,T⟩,⟨o2,J,_,U⟩⟩:=st;simp only[List.mem_cons,List.not_mem_nil,or_false]at p;rcases p with e|e|e|e|e
  ·rw[e];exact⟨_,B,λv z=>by cases z⟩
  ·rw[e];exact⟨_,j,λv z=>by cases z⟩
  ·rw[e];exact⟨_,l,λv z=>by cases z⟩
  ·rw[e];exact⟨_,G,λv z=>by rw[T]at z;cases z⟩
  ·rw[e];exact⟨_,J,λv z=>by rw[U]at z;cases z⟩
 keep:=λi h h' st k=>by
  obtain⟨B,j,⟨a,S,l⟩,⟨o1,G,r1⟩,⟨o2,J,r2⟩⟩:=st;exact⟨k z (by simp) _ B,k TI (by simp) _ j,⟨a,S,k TO (by simp) _ l⟩,⟨o1,k i1 (by simp) _ G,r1⟩,⟨o2,k i2 (by simp) _ J,r2⟩⟩
 item:=by
  intro X Y Z hK M i pins s σ H E I hf st hg;subst Y Z hK;obtain⟨B,j,⟨a,S,l⟩,R,h2⟩:=st;refine thn (JF (elts:=elts) (k:=k) (tpos:=tpos) (Qx:=λv q=>∃c,x.cps[i]? =some c/\q= .str ⟨#[c]⟩) (Qy:=λv q=>∃c,y.cps[i]? =some c/\q= .str ⟨#[c]⟩)
   (tn:=λh=>IsZip h z TI TO .none/\IsPair h TI (.ref i1) (.ref i2)/\(∃a b,IsPair h TO a b)/\h.IsStrIter i1 T1 x t (i+1)/\h.IsStrIter i2 T2 y u (i+1)) D (W1 X.A.in1 (I.ok.hd M)) (W2 X.A.in1 (I.ok.hd M)) I hf B j l R h2 hg.1 hg.2
   (λh' _ _ a1 a2 a3 a4 a5=>⟨a1,a2,⟨_,_,a3⟩,a4,a5⟩) ?_ ?_) ?_
  ·rintro v ⟨c,u,L,rfl⟩;exact⟨.str ⟨#[c]⟩,⟨u,rfl⟩,c,L,rfl⟩
  ·rintro v ⟨c,u,L,rfl⟩;exact⟨.str ⟨#[c]⟩,⟨u,rfl⟩,c,L,rfl⟩
  ·rintro r s1 ⟨u,hr,R⟩;refine⟨u,hr,thn R ?_⟩;rintro _ s2 ⟨xv,H',I2,rx,⟨Ta,q1,q2,v1,v2,hT,⟨c,L,rfl⟩,⟨d,hy,rfl⟩,ex,eH⟩,tn2,fr⟩;exact⟨xv,H',I2,rx,⟨Ta,c,d,hT,L,hy,ex,eH⟩,tn2,fr⟩
 done:=by
  intro X Y Z hK M i pins s σ H E I hf st hg;subst Y Z hK;obtain⟨B,j,⟨a,S,l⟩,R,h2⟩:=st;exact Hc D (W1 X.A.in1 (I.ok.hd M)) (W2 X.A.in1 (I.ok.hd M)) B j l R h2 hg λh' tk L=>⟨rfl,I.turnedAll (t':=tk) hf λb o p q=>L b o (λz=>p (by simp[z])) (λz=>p (by simp[z])) (λz=>p (by simp[z])) (λz=>p (by simp[z])) q⟩
 self:=λA i s Q E st h=>wpAny_pyIter_zip st.1 h
end
def LR(a:Addr)(x:Str)(t:Tok):∀A:Around,A.handled=none->Draws P w A a [a] x.cps.size (λi v=>∃c u,x.cps[i]? =some c/\v= .str ⟨#[c]⟩ u) (λi h=>h.IsStrIter a (strIterType x) x t i):=λA b=>by
 cases d:x.cps.all (· <128)
 ·have e:strIterType x="str_iterator":=by simp[strIterType,d]
  rw[e];exact Draws.strWide b _ x t
 ·have e:strIterType x="str_ascii_iterator":=by simp[strIterType,d]
  rw[e];exact Draws.strAscii b _ x t
def MW(a:TA):TI:=λσ H R=>a σ H λvs b=>∃x y,vs=[.str x, .str y]/\R (IzS x y) b
section
variable{a b:Expr}{ta:TA}{p:Pos}{k:Nat}
def LK{s:Shared}(I:Inv X pins σ H s):∀b∈[s.heap.objs.size+4,s.heap.objs.size+2,s.heap.objs.size+3,s.heap.objs.size,s.heap.objs.size+1],BM X pins H b:=λb d=>by
 have:s.heap.objs.size<=b:=by
  simp only[List.mem_cons,List.not_mem_nil,or_false]at d;rcases d with e|e|e|e|e<;>lia
 exact I.fpOk this (I.hok.fresh this)
def MB(n:Nat):ZAp (n+4) (n+2) (n+3) n (n+1) [n] [n+1]:=by
 constructor<;>simp<;>lia
def KW(hg:Gl X "zip")(B:X.mg "zip"=none)(G:PA X [a,b] ta)(J:starEach [a,b] X.env=[(false,eval a X.env),(false,eval b X.env)]:=by rfl)(i:starEach [b] X.env=[(false,eval b X.env)]:=by rfl):PI X (.Tuple elts k tpos) (.Call (.Name "zip" p) [a,b] [] pos) (MW ta):=by
 intro pins s σ H R I h;refine Call_ (B0 I hg B boot_zip (PyProof.Rows.callWith_type1 (thn (G pos pins s σ H _ I h) λY d ⟨vs,L,v,M,P⟩=>?_) (by rw[J,i]) (by rw[i];rfl)));obtain⟨x,y,e,q⟩:=P;subst e
 cases M with
 |cons r j=>
  cases j with
  |cons Q j=>
   cases j
   obtain⟨t,rfl⟩:=r;obtain⟨u,rfl⟩:=Q;refine QC λZ z l o S T U hk=>wpAny_pyIter_zip z ?_;exact⟨d.heap.objs.size+4,[d.heap.objs.size+4,d.heap.objs.size+2,d.heap.objs.size+3,d.heap.objs.size,d.heap.objs.size+1],_,_,L,rfl,v.kept (t':=d.toks) hk,Ov (MB _) (LR _ x t) (LR _ y u),⟨z,l,⟨_,_,o⟩,S,T⟩,LK v,q⟩
end
end L2
namespace PySem
open PySem.Sem (wp)
abbrev lit(l:Addr):Obj:={cls:= .type "list_iterator",data:= .fields #[.ref l, .int 0 0]}
end PySem
namespace L2
section
variable{k:Nat}
def LY{z TI TO i1 i2 x l:Addr}(D:ZAp z TI TO i1 i2 [i1] [i2])(a:l≠z)(b:l≠TO)(d:l≠i1)(e:x≠z)(h:x≠TO)(i:x≠i2):ZAp z TI TO i1 i2 [i1,x] [i2,l]:=
 ⟨D.TIz,D.TOz,D.TITO,D.TIi1,D.TIi2,by have:=D.z1;simp at this⊢;exact⟨this,e.symm⟩,by have:=D.z2;simp at this⊢;exact⟨this,a.symm⟩,by have:=D.o1;simp at this⊢;exact⟨this,h.symm⟩,by have:=D.o2;simp at this⊢;exact⟨this,b.symm⟩,by have:=D.a12;simp at this⊢;exact⟨this,d.symm⟩,by have:=D.a21;simp at this⊢;exact⟨this,i.symm⟩,by simp,by simp⟩
end
end L2
namespace PySem
open PySem.Sem (wp)
variable{j:Addr}{items items2:Array Value}
section
variable{s:Shared}
def Uq{u:Addr}{zs}{y:Value}(b:s.heap.IsTupleIter j u n)(e:s.heap.IsTuple u zs)(h:zs[n]? =some y)
 (i:∀d,d.IsTupleIter j u (n+1)->Heap.SameBut j s.heap d->Q y {s with heap:=d}):wpAny (model prog w) A (Builtin.SmallTypes.nextOf (.ref j)) Q E s:=by
 obtain⟨o,a,l,hd⟩:=id b;obtain⟨q,p,_,m,r⟩:=e;unfold Builtin.SmallTypes.nextOf;refine wpAny_bind (wpAny_callSpecial?_slot (name:=Str.ofString "__next__") b.typeIs F.slot_tuple_iterator_next (wpAny_call_entry F.slot_tuple_iterator_next b.typeIs F.entry_tuple_iterator_next ?_ (F.args_tuple_iterator_next_1 _)));show wpAny _ _ (field (.ref j) 0>>=_) _ _ s;refine wpAny_bind (wpAny_field a hd (x:= .ref u) rfl ?_);show wpAny _ _ (if(Value.ref u==Value.none)=true then _ else _) _ _ s;rw[if_neg (show¬ ((Value.ref u==Value.none)=true)from Bool.false_ne_true)];show wpAny _ _ (field (.ref j) 1>>=_) _ _ s;refine wpAny_bind (wpAny_field a hd (x:= .int n 0) rfl ?_);show wpAny _ _ (seqItems? (.ref u)>>=_) _ _ s;refine wpAny_bind (wpAny_seqItems p r ?_);simp only[Int.toNat_natCast,h];refine wpAny_bind (wpAny_setField a hd (by simp) (wpAny_pure ⟨y,rfl,wpAny_pure (i _ ⟨_,Heap.get?_update_self _ a (Obj.isFreed_of_fields (Obj.data_mapFields hd _)),(Obj.cls_mapFields ..).trans l,?_⟩ (Heap.SameBut.update ..))⟩));rw[Obj.data_mapFields hd];simp[rawInt]
def OV{u:Addr}{zs}(i:A.handled=none)(b:s.heap.IsTupleIter j u n)(l:s.heap.IsTuple u zs)(p:zs[n]? =none)
 (r:∀d e,Heap.ExtBut j s.heap d->(∃o,d.get? e=some o/\o.cls= .type "StopIteration")->E (.ref e) {s with heap:=d}):wpAny (model prog w) A (Builtin.SmallTypes.nextOf (.ref j)) Q E s:=by
 obtain⟨o,h,z,hd⟩:=id b;obtain⟨q,v,_,m,y⟩:=l;unfold Builtin.SmallTypes.nextOf;refine wpAny_bind (wpAny_callSpecial?_slot (name:=Str.ofString "__next__") b.typeIs F.slot_tuple_iterator_next (wpAny_call_entry F.slot_tuple_iterator_next b.typeIs F.entry_tuple_iterator_next ?_ (F.args_tuple_iterator_next_1 _)));show wpAny _ _ (field (.ref j) 0>>=_) _ _ s;refine wpAny_bind (wpAny_field h hd (x:= .ref u) rfl ?_);show wpAny _ _ (if(Value.ref u==Value.none)=true then _ else _) _ _ s;rw[if_neg (show¬ ((Value.ref u==Value.none)=true)from Bool.false_ne_true)];show wpAny _ _ (field (.ref j) 1>>=_) _ _ s;refine wpAny_bind (wpAny_field h hd (x:= .int n 0) rfl ?_);show wpAny _ _ (seqItems? (.ref u)>>=_) _ _ s;refine wpAny_bind (wpAny_seqItems v y ?_);simp only[Int.toNat_natCast,p];refine wpAny_bind (wpAny_rule (wpAny_bind (wpAny_setField h hd (by simp) ?_)));show wpAny _ _ (newExc (.type "StopIteration") []>>=_) _ _ _;refine wpAny_bind ?_;simp only[newExc,newTuple];refine wpAny_bind (wpAny_newObj_type ?_ (by size_fits));refine wpAny_bind (m:=firstArgMember _ _) (wpAny_of_eq (a:=Value.none) (by first|rfl|(simp only[firstArgMember];rfl)) ?_);refine wpAny_newObj_type ?_ (by size_fits);simp only[raiseNew];refine wpAny_bind (wpAny_handled ?_)
 first|rw[show A.in1.handled=none from i]|rw[i]
 refine wpAny_bind (wpAny_pure (wpAny_throw ?_));exact r _ _ (((Heap.SameBut.update ..).extBut.push _).push _) ⟨_,Heap.get?_push_size _ rfl,rfl⟩
end
def Jr(x:A.handled=none)(j u:Addr)(l:u≠j)(d:Array Value):Draws prog w A j [j,u] d.size (λi v=>d[i]? =some v) (λi h=>h.IsTupleIter j u i/\h.IsTuple u d) where
 live:=λ_ _ st=>let⟨o,p,_⟩:=st.1;⟨o,p⟩
 frame:=λ_ _ _ st hk=>⟨st.1.at λo e=>hk j (by simp) o e,let⟨o,p,r⟩:=st.2;⟨o,hk u (by simp) o p,r⟩⟩
 item:=λi s Q E q st z=>Uq st.1 st.2 (y:=d[i]) (by simp[q]) λB a b=>z _ B s.toks (by simp[q]) ⟨a,st.2.extBut b.extBut l⟩ b
 done:=λs Q E st G=>OV x st.1 st.2 (by simp) G
abbrev uit(l:Addr):Obj:={cls:= .type "tuple_iterator",data:= .fields #[.ref l, .int 0 0]}
abbrev zu2(h:Heap)(x l:Addr):Heap:=(h.push (lit x)).push (uit l)
abbrev zu3(h:Heap)(x l:Addr):Heap:=(zu2 h x l).push {cls:= .type "tuple",data:= .seq #[.ref h.objs.size, .ref (h.push (lit x)).objs.size]}
abbrev zu4(h:Heap)(x l:Addr):Heap:=(zu3 h x l).push {cls:= .type "tuple",data:= .seq #[.none, .none]}
abbrev zu5(h:Heap)(x l:Addr):Heap:=(zu4 h x l).push {cls:= .type "zip",data:= .fields #[.none, .bool false, .bool false, .ref (zu2 h x l).objs.size, .ref (zu3 h x l).objs.size]}
def M9(x l:Addr)(p a:Obj)(b:p={cls:= .type "list",data:= .seq items n})(e:a.cls= .type "tuple")(i:∃n,a.data= .seq items2 n):
 Meets (Builtin.«zip.__new__» ⟨[.type "zip", .ref x, .ref l],[]⟩) (λ_ R s=>s.heap.get? x=some p/\s.heap.get? l=some a/\R (.ok (.ret (.ref (zu4 s.heap x l).objs.size))) {s with heap:=zu5 s.heap x l}):=
 .of_wp λprog w A R s h=>by
   obtain⟨q,g,d,z,os⟩:=s;obtain⟨v,y,h⟩:=h;subst b;have r:=sub_zip;have j:q.IsList x items:=⟨_,v,rfl,_,rfl⟩;have o:(q.push (lit x)).IsTuple l items2:=⟨_,Heap.get?_push_of_some _ y,e,i⟩
   wp_walk using wpAny_pyIter_list j,wpAny_pyIter_tuple o
   exact⟨_,rfl,h⟩
def QB{s:Shared}{x l:Addr}
 (y:s.heap.get? x=some {cls:= .type "list",data:= .seq items n}) (b:s.heap.IsTuple l items2) (h:∀a,IsZip a (s.heap.objs.size+4) (s.heap.objs.size+2) (s.heap.objs.size+3) .none->IsPair a (s.heap.objs.size+2) (.ref s.heap.objs.size) (.ref (s.heap.objs.size+1))->
   IsPair a (s.heap.objs.size+3) .none .none->a.IsListIter s.heap.objs.size x 0->a.IsTupleIter (s.heap.objs.size+1) l 0->a.objs.size=s.heap.objs.size+5->
   (∀c o,s.heap.get? c=some o->a.get? c=some o)->Q (.ref (s.heap.objs.size+4)) {s with heap:=a}):
 wpAny (model prog w) A (call (.type "zip") [.ref x, .ref l]) Q E s:=by
 obtain⟨z,b,d,e⟩:=b;refine callType_new F.called_zip (by decide) (F.typeCall_zip_2 _ _) (F.newCall_zip_2 _ _) (λobj=>F.args_object_init_3 obj _ _) F.entry_zip_new
  (M9 x l (items:=items) (n:=n) (items2:=items2) _ z rfl d e) ?_
 have z1:(s.heap.push (lit x)).objs.size=s.heap.objs.size+1:=Heap.size_push ..;have z2:(zu2 s.heap x l).objs.size=s.heap.objs.size+2:=by rw[Heap.size_push,z1]
 have i:(zu3 s.heap x l).objs.size=s.heap.objs.size+3:=by rw[Heap.size_push,z2]
 have j:(zu4 s.heap x l).objs.size=s.heap.objs.size+4:=by rw[Heap.size_push,i]
 have B:(zu5 s.heap x l).objs.size=s.heap.objs.size+5:=by rw[Heap.size_push,j]
 have p:(zu5 s.heap x l).get? (zu4 s.heap x l).objs.size=some _:=Heap.get?_push_size _ rfl;have q:(zu5 s.heap x l).get? (zu3 s.heap x l).objs.size=some _:=Heap.get?_push_of_some _ (Heap.get?_push_size _ rfl);have r:(zu5 s.heap x l).get? (zu2 s.heap x l).objs.size=some _:=Heap.get?_push_of_some _ (Heap.get?_push_of_some _ (Heap.get?_push_size _ rfl));have v:(zu5 s.heap x l).get? (s.heap.push (lit x)).objs.size=some _:=Heap.get?_push_of_some _ (Heap.get?_push_of_some _ (Heap.get?_push_of_some _ (Heap.get?_push_size _ rfl)));have G:(zu5 s.heap x l).get? s.heap.objs.size=some _:=Heap.get?_push_of_some _ (Heap.get?_push_of_some _ (Heap.get?_push_of_some _ (Heap.get?_push_of_some _ (Heap.get?_push_size _ rfl))));refine⟨y,b,?_⟩;show _/\_;rw[z2,i,j]at p;rw[z1,z2]at r;rw[i]at q;rw[z1]at v;rw[j];exact⟨⟨_,p,rfl⟩,h _ p r q ⟨_,G,rfl,rfl⟩ ⟨_,v,rfl,rfl⟩ B λc o x=>
  Heap.get?_push_of_some _ (Heap.get?_push_of_some _ (Heap.get?_push_of_some _ (Heap.get?_push_of_some _ (Heap.get?_push_of_some _ x))))⟩
end PySem
namespace L2
variable{ta:TA}{R:W4->Hp->Prop}
def FTu(K:W.Frag)(a:Addr)(xs:List V):Prop:=∃ (o:Obj) (b:Array Value) (n:Nat),K.lookup a=some o/\o.cls= .type "tuple"/\o.data= .seq b n/\b.size<=sizeLine/\Vals xs b.toList
def FTu.sq{a:Addr}(h:FTu K a xs):SqT K H a xs:= .inr h
def IzU(x:Addr)(xs:List V):W4:=⟨λi H=>(∃a,H x=some (.lst a)/\i<a.length)/\i<xs.length,λi H v b=>∃T a c d,H T=none/\H x=some (.lst a)/\a[i]? =some c/\xs[i]? =some d/\v= .ref T/\b=upd H T (.tup [c,d]),λi H=>∃a,H x=some (.lst a)/\(i=a.length\/(i<a.length/\i=xs.length))⟩
section
variable{k:Nat}
def Ou{x l:Addr}{z TI TO i1 i2:Addr}(hF:FTu K l xs)(D:ZAp z TI TO i1 i2 [i1] [i2])(p:∀b∈[z,TI,TO,i1,i2],l≠b):
 Turn P w K (.Tuple elts k tpos) (IzU x xs) [z,TI,TO,i1,i2] z (λi h=>IsZip h z TI TO .none/\IsPair h TI (.ref i1) (.ref i2)/\(∃a b,IsPair h TO a b)/\h.IsListIter i1 x i/\h.IsTupleIter i2 l i) where
 mem:=by simp
 obj:=λi h st b J=>by
  obtain⟨S,y,⟨a,b',B⟩,⟨o1,T,_,hd1⟩,⟨o2,U,_,hd2⟩⟩:=st;simp only[List.mem_cons,List.not_mem_nil,or_false]at J;rcases J with e|e|e|e|e
  ·rw[e];exact⟨_,S,λv z=>by cases z⟩
  ·rw[e];exact⟨_,y,λv z=>by cases z⟩
  ·rw[e];exact⟨_,B,λv z=>by cases z⟩
  ·rw[e];exact⟨_,T,λv z=>by rw[hd1]at z;cases z⟩
  ·rw[e];exact⟨_,U,λv z=>by rw[hd2]at z;cases z⟩
 keep:=λi h h' st k=>by
  obtain⟨S,y,⟨a,b',B⟩,⟨o1,T,r1⟩,⟨o2,U,r2⟩⟩:=st;exact⟨k z (by simp) _ S,k TI (by simp) _ y,⟨a,b',k TO (by simp) _ B⟩,⟨o1,k i1 (by simp) _ T,r1⟩,⟨o2,k i2 (by simp) _ U,r2⟩⟩
 item:=by
  intro X hP hw hK Z i pins s σ H E I hf st hg;subst hP hw hK;obtain⟨S,y,⟨a,b',B⟩,h1,h2⟩:=st;obtain⟨⟨Y,G,hg1⟩,hg2⟩:=hg;have nx:∀b∈[z,TI,TO,i1,i2],x≠b:=λb J e=>by have:=(hf b J).1;rw[<-e,G]at this;cases this
  obtain⟨M,rv,hL,hln⟩:=I.tuple (hF.sq (H:=H));obtain⟨zz',j,n',rv',hln',L⟩:=I.lstM G;have hX:s.heap.IsList x j.toArray:=⟨_,L,rfl,_,rfl⟩;have hlen:=rv.length;have D':=LY (x:=x) (l:=l) D (p z (by simp)) (p TO (by simp)) (p i1 (by simp)) (nx z (by simp)) (nx TO (by simp)) (nx i2 (by simp));refine thn (JF (elts:=elts) (k:=k) (tpos:=tpos) (Qx:=λv q=>∃d,Y[i]? =some d/\q=d) (Qy:=λv q=>∃d,xs[i]? =some d/\q=d)
   (tn:=λh=>IsZip h z TI TO .none/\IsPair h TI (.ref i1) (.ref i2)/\(∃a b,IsPair h TO a b)/\h.IsListIter i1 x (i+1)/\h.IsTupleIter i2 l (i+1)) D' (Draws.list (A:=X.A.in1) (I.ok.hd Z) i1 x (nx i1 (by simp)) j.toArray) (Jr (A:=X.A.in1) (I.ok.hd Z) i2 l (p i2 (by simp)) M.toArray) I hf S y B ⟨h1,hX⟩ ⟨h2,hL⟩ (by rw[List.size_toArray];lia) (by rw[List.size_toArray];lia)
   (λh' _ _ a1 a2 a3 a4 a5=>⟨a1,a2,⟨_,_,a3⟩,a4.1,a5.1⟩) ?_ ?_) ?_
  ·intro v R;obtain⟨u1,g1,ru⟩:=rv'.get (i:=i) (x:=Y[i]) (List.getElem?_eq_getElem hg1);have:u1=v:=by
    have R:j.toArray[i]? =some v:=R;rw[List.getElem?_toArray,g1]at R;exact Option.some.inj R
   subst this;exact⟨Y[i],ru,Y[i],List.getElem?_eq_getElem hg1,rfl⟩
  ·intro v R;obtain⟨u1,g1,ru⟩:=rv.get (i:=i) (x:=xs[i]) (List.getElem?_eq_getElem hg2);have:u1=v:=by
    have R:M.toArray[i]? =some v:=R;rw[List.getElem?_toArray,g1]at R;exact Option.some.inj R
   subst this;exact⟨xs[i],ru,xs[i],List.getElem?_eq_getElem hg2,rfl⟩
  ·rintro r s1 ⟨u,hr,h1⟩;refine⟨u,hr,thn h1 ?_⟩;rintro _ s2 ⟨xv,H',I2,rx,⟨Ta,q1,q2,v1,v2,hT,⟨c,hx,rfl⟩,⟨d,hy,rfl⟩,ex,eH⟩,tn2,fr⟩;exact⟨xv,H',I2,rx,⟨Ta,Y,q1,q2,hT,G,hx,hy,ex,eH⟩,tn2,fr⟩
 done:=by
  intro X hP hw hK Z i pins s σ H E I hf st hg;subst hP hw hK;obtain⟨S,y,⟨a,b',B⟩,h1,h2⟩:=st;obtain⟨Y,G,hg⟩:=hg;have nx:∀b∈[z,TI,TO,i1,i2],x≠b:=λb J e=>by have:=(hf b J).1;rw[<-e,G]at this;cases this
  obtain⟨M,rv,hL,hln⟩:=I.tuple (hF.sq (H:=H));obtain⟨zz',j,n',rv',hln',L⟩:=I.lstM G;have hX:s.heap.IsList x j.toArray:=⟨_,L,rfl,_,rfl⟩;have hlen:=rv.length;have D':=LY (x:=x) (l:=l) D (p z (by simp)) (p TO (by simp)) (p i1 (by simp)) (nx z (by simp)) (nx TO (by simp)) (nx i2 (by simp));exact Hc D' (Draws.list (A:=X.A.in1) (I.ok.hd Z) i1 x (nx i1 (by simp)) j.toArray) (Jr (A:=X.A.in1) (I.ok.hd Z) i2 l (p i2 (by simp)) M.toArray) S y B ⟨h1,hX⟩ ⟨h2,hL⟩ (hg.imp (λa=>by rw[List.size_toArray];lia) λ⟨a,b⟩=>⟨by rw[List.size_toArray];lia,by rw[List.size_toArray];lia⟩) λh' tk hx=>⟨rfl,I.turnedAll (t':=tk) hf λb o J q=>hx b o (λz=>J (by simp[z])) (λz=>J (by simp[z])) (λz=>J (by simp[z])) (λz=>J (by simp[z])) q⟩
 self:=λA i s Q E st h=>wpAny_pyIter_zip st.1 h
end
def MV(K:W.Frag)(d:TA):TI:=λσ H R=>d σ H λvs a=>∃x l e b,vs=[.ref x, .ref l]/\a x=some (.lst e)/\FTu K l b/\R (IzU x b) a
section
variable{a b:Expr}{p:Pos}{k:Nat}
def KU(K:W.Frag)(hg:Gl X "zip")(Y:X.mg "zip"=none)(Z:PA X [a,b] ta)(hs:starEach [a,b] X.env=[(false,eval a X.env),(false,eval b X.env)]:=by rfl)(j:starEach [b] X.env=[(false,eval b X.env)]:=by rfl)(hK:X.K=K:=by rfl):PI X (.Tuple elts k tpos) (.Call (.Name "zip" p) [a,b] [] pos) (MV K ta):=by
 subst hK;intro pins s σ H R I h;refine Call_ (B0 I hg Y boot_zip (PyProof.Rows.callWith_type1 (thn (Z pos pins s σ H _ I h) λus d ⟨vs,L,y,r1,q1⟩=>?_) (by rw[hs,j]) (by rw[j];rfl)));obtain⟨x,l,zs,xs,e,hx,M,q⟩:=q1;subst e
 cases r1 with
 |cons r z=>
  cases z with
  |cons r2 z=>
   cases z
   cases r
   cases r2
   obtain⟨its,rv,P,hln⟩:=y.tuple (M.sq (H:=L));obtain⟨zz',Q,n',rv',S,v⟩:=y.lstM hx;have B:∀b∈[d.heap.objs.size+4,d.heap.objs.size+2,d.heap.objs.size+3,d.heap.objs.size,d.heap.objs.size+1],l≠b:=λb T e=>by
    obtain⟨o,ho,_⟩:=P;have i:l<d.heap.objs.size:=Heap.lt_size ho;simp only[List.mem_cons,List.not_mem_nil,or_false]at T;rw[e]at i;rcases T with rfl|rfl|rfl|rfl|rfl
    ·exact Nat.not_lt.mpr (Nat.le_add_right _ 4) i
    ·exact Nat.not_lt.mpr (Nat.le_add_right _ 2) i
    ·exact Nat.not_lt.mpr (Nat.le_add_right _ 3) i
    ·exact Nat.lt_irrefl _ i
    ·exact Nat.not_lt.mpr (Nat.le_add_right _ 1) i
   refine QB v P λh' U G J h1 h2 hsz hk=>wpAny_pyIter_zip U ?_;exact⟨d.heap.objs.size+4,[d.heap.objs.size+4,d.heap.objs.size+2,d.heap.objs.size+3,d.heap.objs.size,d.heap.objs.size+1],_,_,L,rfl,y.kept (t':=d.toks) hk,Ou M (MB _) B,⟨U,G,⟨_,_,J⟩,h1,h2⟩,LK y,q⟩
end
def Ts(h:ta σ H λvs a=>∃x l d b,vs=[.ref x, .ref l]/\a x=some (.lst d)/\FTu K l b/\R (IzU x b) a):MV K ta σ H R:=h
end L2
namespace BrS
def pw(k c b:Nat):Int:=(plw (ones k) c).getD b 0
def ws(k:Nat):List Nat->List Nat->Int
 |[],[]=>1
 |[],_::_=>0
 |c::r,st=>sm k (λp=>pw k c (2*p)*ws k r (p::st))+(match st with|[]=>0|o::s'=>pw k c (2*o+1)*ws k r s')
variable{k:Nat}
abbrev En:=List Nat×List Nat
def exB(n a c:Nat)(e:En)(b:Nat):List En:=
 if c=63\/c=brs.getD b 0 then
  (if b%2=0 then(if e.2.length+a+1<n then [(e.1++[brs.getD b 0],b/2::e.2)]else [])
   else match e.2 with
    |[]=>[]
    |p::r=>if p=b/2 then [(e.1++[brs.getD b 0],r)]else [])
 else []
def exs(k n a c:Nat)(e:En):List En:=(List.range (2*k)).flatMap (exB n a c e)
def fls(k:Nat)(a:List Nat):Nat->List En
 |0=>[([],[])]
 |i+1=>(fls k a i).flatMap (exs k a.length i (a.getD i 0))
def res(k:Nat)(a:List Nat):List (List Nat):=((fls k a a.length).filter λe=>decide (e.2=[])).map (·.1)
end BrS
namespace L2
def Vx(i j:Int):Prop:=0<j/\j<2^200
def Qw:OpR X (binaryOp .FloorDiv) (rI Vx λi j=> .int (i/j)):=opI λi j _ _ _ _ _ a q=>by
 have e:(0:Int)<j:=a.1;have h:j<2^200:=a.2;refine floordiv_int (by lia) (by rw[Int.fdiv_eq_ediv_of_nonneg i (by lia)];exact q) (.inl (PyProof.noPylong_of_log2 ?_));have b:j.natAbs≠0:=by lia
 have d:j.natAbs<2^200:=by lia
 exact Nat.lt_trans ((Nat.log2_lt b).mpr d) (by decide)
def SqL.ty(h:SqL K H p xs):tyV K "list" (.ref p) H:= .inl ⟨rfl,_,h⟩
end L2
namespace BrS
variable{sts:List Stmt}{t:TS}{Q:VK}{E:XK}
def Po(H:Hp)(p:Addr):Prop:=∃a b c:Int,H p=some (.lst [.int a, .int b, .int c])
def Po.same(h:Po H p)(s:Same H H'):Po H' p:=let⟨a,b,c,e⟩:=h;⟨a,b,c,s _ _ e⟩
def Po.ne{q:Addr}(h:Po H p)(a:H q=none):q≠p:=let⟨_,_,_,e⟩:=h;(AM e a).symm
def Po.new{a b c:Int}:Po (upd H p (.lst [.int a, .int b, .int c])) p:=⟨a,b,c,AF⟩
inductive spPoolD (K:W.Frag) (vs:List V) (H:Hp) (Q:VK) (E:XK):Prop
 |mk (a:Addr) (ns:List Int) (k:Int) (_:vs=[.ref a, .int k]) (_:SqL K H a (ns.map V.int)) (_:0<=k) (_:k<=63) (_:∀p H',H p=none->Same H H'->Po H' p->Q (.ref p) H')
def PB{a:Addr}{k:Int}(d:SqL K H a (ns.map V.int))(h0:0<=k)(e:k<=63)(q:∀p b,H p=none->Same H b->Po b p->Q (.ref p) b):spPoolD K ([.ref a, .int k]++[]) H Q E:=
 ⟨a,ns,k,rfl,d,h0,e,q⟩
inductive spDraw (vs:List V) (H:Hp) (Q:VK) (E:XK):Prop
 |mk (p m:_) (_:vs=[.ref p, .int m]) (_:Po H p) (_:0<m) (_:m<2^200) (_:∀r H',0<=r->r<m->Po H' p->SameBut1 p H H'->Q (.int r) H')
def BI{m:Int}(b:Po H p)(h0:0<m)(d:m<2^200)(q:∀r a,0<=r->r<m->Po a p->SameBut1 p H a->Q (.int r) a):spDraw ([.ref p, .int m]++[]) H Q E:=⟨p,m,rfl,b,h0,d,q⟩
def RE(a:List Nat):(a.map λc=>[c]).flatten=a:=by
 induction a with
 |nil=>rfl
 |cons c r b=>rw[List.map_cons,List.flatten_cons,b];rfl
def Bn(h:j<n):ixN n (j:Int)=some j:=by
 unfold ixN;simp[h]
inductive spCheckFillE (cs:Cs) (vs:List V) (H:Hp) (Q:VK) (E:XK):Prop
 |mk (H0 s ad n T:_) (_:vs=[.ref s]) (_:Tb H0 H s ad n T) (_:((T 0 n≠0/\Q .non H)\/(T 0 n=0/\Ref E cs.NoFilling H)))
inductive PSsb (X:Cx) (sts:List Stmt) (t:TS):Prop
 |mk (h:PSs X sts t):PSsb X sts t
def PSsb.pss(h:PSsb X sts t):PSs X sts t:=h.casesOn λh=>h
def Cy{st:Stmt}{u:TS}(h:PSb X st t)(r:PSsb X rest u):PSsb X (st::rest) (Cc t u):=⟨AD h.ps r.pss⟩
def Fz{st:Stmt}(h:PSb X st t):PSsb X [st] t:=⟨AE h.ps⟩
end BrS
namespace L2
variable{td:TE}
def U1{k:Key}(h:(An P w).is k v=true):RelV (kV k) v:=by
 rcases CC h with⟨i,t,rfl,rfl⟩|⟨x,t,rfl,rfl⟩
 ·exact⟨t,rfl⟩
 ·exact⟨t,rfl⟩
section
variable{Q:VK}
def UM{ty:TE}(h:td σ H λx d=>ty σ d λy b=>∃a v,x= .ref a/\DGet b a y (some v)/\Q v b):G9 td ty σ H Q:=h
def Rw{ty tz:TE}(h:td σ H λx b=>∃a,x= .ref a/\IsD b a/\ty σ b λy e=>tz σ e λz d=>∃o,DGet d a y o/\Q (o.getD z) d):K0 td ty tz σ H Q:=h
def UJ{ty tv:TE}(h:tv σ H λv d=>td σ d λx e=>ty σ e λy i=>∃a b,x= .ref a/\DPut i a y v b/\D.nx σ b):Lm td ty tv D σ H:=h
end
end L2
namespace BrS
def Au{k:Nat}(r:Room k A):A.units+1<cLine:=by have:=r.un;lia
end BrS
namespace BrT
variable{I a:Addr}{es es':Array (Int×Value)}{G:Array GenState->Array GenState->Prop}{hs:Array Int}{o xs:Array Nat}{items:Array Value}{l:Bool}{gw:Bool->Sem Unit}{e:Int×Value}{d:Nat}{f:Nat->Value}{P:Nat->Value->Prop}{Q:Option Value->Shared->Prop}{t':SetTable}
def Rise(a:Array Nat):Prop:=a.toList.Pairwise (· < ·)
def Rise.lt{a:Array Nat}(r:Rise a){x y:Nat}(b:i<j)(h:a[i]? =some x)(l:a[j]? =some y):x<y:=by
 have d:a.toList[i]? =some x:=by simpa using h
 have e:a.toList[j]? =some y:=by simpa using l
 obtain⟨o,rfl⟩:=List.getElem?_eq_some_iff.mp d;obtain⟨p,rfl⟩:=List.getElem?_eq_some_iff.mp e;exact(List.pairwise_iff_getElem.mp r) i j o p b
theorem GE(xs:Array Nat)(r:Rise xs)(j:Nat):∀ (f a hi:Nat),hi-a<=f->a<=hi->hi<=xs.size->(∀i x,i<a->xs[i]? =some x->x<j)->(∀i x,hi<=i->xs[i]? =some x->j<=x)->
 SetTable.below.go xs j f a hi<=xs.size/\(∀i x,i<SetTable.below.go xs j f a hi->xs[i]? =some x->x<j)/\(∀i x,SetTable.below.go xs j f a hi<=i->xs[i]? =some x->j<=x)
 |0,a,hi,z,B,h,l,o=>by
  have:a=hi:=by lia
  subst this;unfold SetTable.below.go;exact⟨h,l,o⟩
 |f+1,a,hi,z,B,h,l,o=>by
  unfold SetTable.below.go
  by_cases e:a<hi
  ·rw[if_pos e]
   dsimp only
   have G:(a+hi)/2<hi:=by lia
   have H:a<=(a+hi)/2:=by lia
   have y:(a+hi)/2<xs.size:=by lia
   have b:xs[(a+hi)/2]? =some xs[(a+hi)/2]:=Array.getElem?_eq_getElem y;have I:xs.getD ((a+hi)/2) j=xs[(a+hi)/2]:=by simp[Array.getD,y]
   rw[I]
   by_cases p:xs[(a+hi)/2]<j
   ·rw[if_pos p];refine GE xs r j f _ _ (by lia) (by lia) h (λi x q d=>?_) o
    by_cases v:i=(a+hi)/2
    ·subst v;rw[b]at d;cases d;exact p
    ·exact Nat.lt_trans (r.lt (by lia) d b) p
   ·rw[if_neg p];refine GE xs r j f _ _ (by lia) (by lia) (by lia) l (λi x q d=>?_)
    by_cases v:i=(a+hi)/2
    ·subst v;rw[b]at d;cases d;lia
    ·have:=r.lt (show(a+hi)/2<i by lia) b d;lia
  ·rw[if_neg e];have:a=hi:=by lia
   subst this;exact⟨h,l,o⟩
def El(r:Rise xs)(j:Nat):SetTable.below xs j<=xs.size/\(∀i x,i<SetTable.below xs j->xs[i]? =some x->x<j)/\(∀i x,SetTable.below xs j<=i->xs[i]? =some x->j<=x):=
 GE xs r j xs.size 0 xs.size (by lia) (Nat.zero_le _) (Nat.le_refl _) (λi x h=>absurd h (Nat.not_lt_zero _)) λi x h a=>by
  have:=Array.getElem?_eq_none (xs:=xs) h;rw[this]at a;cases a
def Oq(r:Rise xs){x:Nat}(d:xs[i]? =some x):SetTable.below xs (x+1)=i+1:=by
 obtain⟨o,j,l⟩:=El r (x+1);have p:i<xs.size:=(Array.getElem?_eq_some_iff.mp d).1;rcases Nat.lt_trichotomy (SetTable.below xs (x+1)) (i+1)with h|h|h
 ·have:=l i x (by lia) d;lia
 ·exact h
 ·have e:i+1<xs.size:=by lia
  have hg:xs[i+1]? =some xs[i+1]:=Array.getElem?_eq_getElem e;have a:=j (i+1) _ h hg;have b:=r.lt (Nat.lt_succ_self i) d hg;lia
def On(r:Rise xs):SetTable.below xs 0=0:=by
 obtain⟨b,a,d⟩:=El r 0;rcases Nat.eq_zero_or_pos (SetTable.below xs 0)with h|h
 ·exact h
 ·have hg:xs[0]? =some (xs[0]'(by lia)):=Array.getElem?_eq_getElem _;have:=a 0 _ h hg;lia
def NL(xs:Array α)(p:Nat)(x:α):(SetTable.insertAt xs p x).toList=xs.toList.take p++x::xs.toList.drop p:=by
 unfold SetTable.insertAt;simp;rw[List.take_of_length_le (by simp)]
theorem Rise.insert(r:Rise xs)(B:∀i:Nat,xs[i]? ≠some j):Rise (SetTable.insertAt xs (SetTable.below xs j) j):=by
 obtain⟨H,G,v⟩:=El r j;generalize SetTable.below xs j=p at*
 unfold Rise;rw[NL];refine List.pairwise_append.mpr ⟨List.Pairwise.sublist (List.take_sublist _ _) r,List.pairwise_cons.mpr ⟨λy h=>?_,List.Pairwise.sublist (List.drop_sublist _ _) r⟩,λy h z hz=>?_⟩
 ·obtain⟨i,x,e⟩:=List.mem_iff_getElem.mp h;rw[List.getElem_drop]at e;have hg:xs[p+i]? =some y:=by rw[<-Array.getElem?_toList,<-e];exact List.getElem?_eq_getElem _
  have a:=v (p+i) y (by lia) hg;have b:=B (p+i);have c:y≠j:=λd=>b (d▸hg);lia
 ·obtain⟨i,x,e⟩:=List.mem_iff_getElem.mp h;have l:i<p:=by have:=x;rw[List.length_take]at this;lia
  rw[List.getElem_take]at e;have hg:xs[i]? =some y:=by rw[<-Array.getElem?_toList,<-e];exact List.getElem?_eq_getElem _
  have o:=G i y l hg;rcases List.mem_cons.mp hz with rfl|hz
  ·exact o
  ·obtain⟨k,hk,d⟩:=List.mem_iff_getElem.mp hz;rw[List.getElem_drop]at d;have q:xs[p+k]? =some z:=by rw[<-Array.getElem?_toList,<-d];exact List.getElem?_eq_getElem _
   have:=v (p+k) z (by lia) q;lia
def Ig(r:Rise t.place)(h:t.place[SetTable.below t.place d]? ≠some d):∀i:Nat,t.place[i]? ≠some d:=by
 obtain⟨p,l,o⟩:=El r d;intro i b;rcases Nat.lt_or_ge i (SetTable.below t.place d)with hl|hl
 ·have:=l i d hl b;lia
 ·have j:SetTable.below t.place d<t.place.size:=Nat.lt_of_le_of_lt hl (Array.getElem?_eq_some_iff.mp b).1;have hg:t.place[SetTable.below t.place d]? =some _:=Array.getElem?_eq_getElem j;have a:=o _ _ (Nat.le_refl _) hg;rcases Nat.eq_or_lt_of_le hl with e|e
  ·rw[<-e]at b;exact h b
  ·have:=r.lt e hg b;lia
def JS(h:t.slot d= .empty\/t.slot d= .dummy):t.place[SetTable.below t.place d]? ≠some d:=by
 intro e;unfold SetTable.slot at h;simp[e]at h
theorem F2(t:SetTable)(f:Nat->Int)(h:Int):∀ (n:Nat) (p:SetTable.Probe) (j:Nat) (d:Option Nat),(∀x,p.dummy=some x->t.slot x= .dummy)->SetTable.probe.go t f h n p=some (.empty j d)->(t.slot j= .empty)/\∀x,d=some x->t.slot x= .dummy
 |0,p,j,d,l,e=>by unfold SetTable.probe.go at e;cases e
 |n+1,p,j,d,l,e=>by
  unfold SetTable.probe.go at e
  cases a:t.slot p.j with
  |empty=>rw[a]at e;simp at e;obtain⟨rfl,rfl⟩:=e;exact⟨a,l⟩
  |dummy=>
   rw[a]at e;refine F2 t f h n _ j d (λx b=>?_) e;have:(t.advance {p with dummy:=some p.j}).dummy=some p.j:=by unfold SetTable.advance;dsimp only;split<;>rfl
   rw[this]at b;cases b;exact a
  |live i=>
   rw[a]at e
   dsimp only at e
   split at e
   ·cases e
   ·refine F2 t f h n _ j d (λx b=>?_) e;have:(t.advance p).dummy=p.dummy:=by unfold SetTable.advance;dsimp only;split<;>rfl
    rw[this]at b;exact l x b
def RB(r:Rise t.place){h:Int}{b:Bool}(e:t.freeSlot h=some (j,b)):∀i:Nat,t.place[i]? ≠some j:=by
 unfold SetTable.freeSlot at e
 split at e
 ·rename_i o d p
  obtain⟨q,v⟩:=F2 t _ _ _ _ o d (λx l=>by unfold SetTable.probeStart at l;cases l) p;simp at e;obtain⟨a,y⟩:=e
  cases d with
  |none=>simp at a;subst a;exact Ig r (JS (.inl q))
  |some x=>simp at a;subst a;exact Ig r (JS (.inr (v x rfl)))
 ·cases e
def OJ(n:Nat):Rise (Array.range n):=by
 unfold Rise;rw[Array.toList_range];exact List.pairwise_lt_range
def Tb(l:Bool)(t:SetTable):Prop:=Rise t.place/\t.led=l
theorem Tb.standIn(h:Tb l t)(n:Nat):Tb l (t.standIn n):=⟨OJ n,h.2⟩
def Ph(h:Tb l t)(j:Array (Int×Value))(a:Int)(x:Value):Tb l (layNew t j a x).2.1:=by
 unfold layNew
 cases e:t.freeSlot a with
 |none=>exact h.standIn _
 |some o=>
  obtain⟨d,b⟩:=o;have r:=h.1.insert (RB h.1 e);have i:Tb l (t.put d).1:=⟨r,h.2⟩;show Tb l (SetTable.orStandIn (t.put d).1 _);unfold SetTable.orStandIn
  split
  ·exact i
  ·exact i.standIn _
def Si{m f mv:Nat}{p:Bool}(e:SetTable.laid m f mv l p hs=some (t,o)):Tb l t:=by
 unfold SetTable.laid at e
 cases j:SetTable.layClean m hs with
 |none=>rw[j]at e;cases e
 |some v=>
  rw[j]at e;simp at e;obtain⟨r,x⟩:=e;subst r;refine⟨?_,rfl⟩;unfold Rise;simp only[];refine List.Pairwise.map _ (λa b h=>h) (R:=fun(a b:Nat×Nat)=>a.1<b.1) ?_;refine List.Pairwise.filterMap _ (R:=fun(a b:Nat)=>a<b) (λa b i c q d hd=>?_) List.pairwise_lt_range;simp at q hd;obtain⟨_,_,rfl⟩:=q;obtain⟨_,_,rfl⟩:=hd;exact i
def Ni(h:Tb l t)(a:Array (Int×Value))(b:Nat):Tb l (relayAll t a b).2.1:=by
 unfold relayAll
 cases e:t.relaid (a.map (·.1)) b with
 |none=>exact h.standIn _
 |some p=>
  obtain⟨d,o⟩:=p
  dsimp only
  unfold SetTable.relaid at e;have:=Si e
  split
  ·exact⟨this.1,this.2.trans h.2⟩
  ·exact h.standIn _
def keyOf(e:Int×Value):Int:=match e.2 with| .int k _=>k|_=>0
section
variable{s:Shared}
def int_of{k:Int}(h:(intKind prog w).is k v=true):∃t,v= .int k t:=Value.isInt_shape h
def key_of{k:Int}(h:(intKind prog w).is k e.2=true):keyOf e=k:=by
 obtain⟨t,ht⟩:=int_of h;unfold keyOf;rw[ht]
def Jq{es:List (Int×Value)}(h:ElemsOf (intKind prog w) es)(a:e∈es):(intKind prog w).is (keyOf e) e.2=true:=by
 obtain⟨⟨k,hk,_⟩,_⟩:=h e a;rw[key_of hk];exact hk
theorem Ki:∀ {a:List (Int×Value)},ElemsOf (intKind prog w) a->IntsAre (a.map (·.2)) (a.map keyOf)
 |[],_=> .nil
 |e::r,h=>by
  obtain⟨t,ht⟩:=int_of (Jq h (.head _));rw[List.map_cons,List.map_cons,ht];exact .cons _ _ (Ki h.tail)
def SO(prog:Program)(w:World)(l:Bool)(a:Array (Int×Value))(t:SetTable)(b:List Int):Prop:=
 ElemsOf (intKind prog w) a.toList/\(a.toList.map keyOf).Nodup/\(∀k,k∈a.toList.map keyOf↔k∈b)/\a.size<=b.length/\t.fits a.size=true/\Tb l t
def SI(prog:Program)(w:World)(l:Bool)(h:Heap)(a:Addr)(d:List Int):Prop:=
 ∃o b e t,h.get? a=some o/\o.ExactSet/\o.data= .set b e t/\SO prog w l b t d
def SI.at(i:SI prog w l h a ms)(k:∀o,h.get? a=some o->h'.get? a=some o):SI prog w l h' a ms:=
 let⟨o,b,d,t,e,r⟩:=i;⟨o,b,d,t,k o e,r⟩
theorem SO.perm(i:SO prog w l es t ms)(p:List.Perm es'.toList es.toList)(f:t'.fits es'.size=true)(b:Tb l t'):SO prog w l es' t' ms:=by
 obtain⟨a,d,e,h,j,o⟩:=i;have q:es'.size=es.size:=by rw[<-Array.length_toList,p.length_eq,Array.length_toList]
 exact⟨a.perm p,(p.map keyOf).nodup_iff.mpr d,λk=>((p.map keyOf).mem_iff).trans (e k),by lia,f,b⟩
def stored{o:Obj}(d:h.get? a=some o)(b:o.ExactSet)(hd:o.data= .set es ep t)(i:SO prog w l es' t' ms):
 (h.update a (Obj.putSet es' t')).get? a=some {o with data:= .set es' (ep+1) t'}/\SI prog w l (h.update a (Obj.putSet es' t')) a ms:=by
 have g:=Heap.get?_update_self (Obj.putSet es' t') d (by rw[putSet_of es' t' hd];rfl);rw[putSet_of es' t' hd]at g;exact⟨g,_,es',ep+1,t',g,b,rfl,i⟩
def J0(hg:∀ (b:Bool) (d:Shared) (r:Unit->Shared->Prop),r () d->wpAny (model prog w) A (gw b) r E d){o:Obj}{es1:Array (Int×Value)}{t2:SetTable}(v:s.heap.get? a=some o)(e:o.ExactSet)(hd:o.data= .set es ep t)
 (i:SO prog w l es1 t2 ms) (x:ms.length<scanBound) {dm:Bool} {R:Option Bool->Shared->Prop} (q:∀h,Heap.SameBut a s.heap h->SI prog w l h a ms->R (some true) {s with heap:=h}):
 wpAny (model prog w) A (do
  storeSet a es1 t2
  if(!dm&&t2.tooFull)=true then do
   gw (relayAll t2 es1 (SetTable.grown es1.size)).2.2
   storeSet a (relayAll t2 es1 (SetTable.grown es1.size)).1 (relayAll t2 es1 (SetTable.grown es1.size)).2.1
   pure (some true)
  else pure (some true)) R E s:=by
 have j:es1.size<=sizeLine:=fits_of_scanBound (Nat.lt_of_le_of_lt i.2.2.2.1 x);refine wpAny_bind (wpAny_storeSet_of v hd ?_ j);obtain⟨y,G⟩:=stored v e hd i;have z:=Heap.SameBut.update s.heap a (Obj.putSet es1 t2)
 split
 ·have p:=relayAll_perm t2 es1 (SetTable.grown es1.size);have f:=relayAll_fits t2 es1 (SetTable.grown es1.size);have b:=Ni i.2.2.2.2.2 es1 (SetTable.grown es1.size);generalize relayAll t2 es1 (SetTable.grown es1.size)=Rl at p f b⊢;obtain⟨H,I,J⟩:=Rl
  dsimp only at p f b⊢
  have B:=i.perm p f b;refine wpAny_bind (hg _ _ _ (wpAny_bind (wpAny_storeSet_of y rfl ?_ (fits_of_scanBound (Nat.lt_of_le_of_lt B.2.2.2.1 x)))));exact wpAny_pure (q _ (z.trans (Heap.SameBut.update _ a _)) (stored y e rfl B).2)
 ·exact wpAny_pure (q _ z G)
def OH{k:Int}{tk:Tok}{Q:Bool->Shared->Prop}(i:SI prog w l s.heap a ms)(hb:ms.length+1<scanBound)
 (q:∀b G,Heap.SameBut a s.heap G->SI prog w l G a (ms++[k])->Q b {s with heap:=G}):wpAny (model prog w) A (setAddHashed a (.int k tk) (hashInt k)) Q E s:=by
 obtain⟨o,d,ep,t,J,H,hd,h,L,r,hsz,S,M⟩:=i;have v:(intKind prog w).is k (.int k tk)=true:=intKind_is _ _ _ _;have T:d.size<scanBound:=by lia
 unfold setAddHashed setAddHashedIn;refine wpAny_holding (wpAny_bind (wpAny_setState_of J hd S ?_))
 dsimp only
 rw[byScan_of (knd:=intKind prog w) rfl T h];simp only[↓reduceIte];unfold setAddByScan;refine wpAny_bind (wpAny_bind (wpAny_rule (wpAny_bind (wpAny_setScan_of (knd:=intKind prog w) v J hd S h ?_))))
 cases hr:List.findIdx? (λe=>(intKind prog w).is k e.2) d.toList with
 |some j=>
  dsimp only
  obtain⟨hj,U,_⟩:=List.findIdx?_eq_some_iff_getElem.mp hr;have hk:k∈ms:=(r k).mp (by rw[<-key_of U];exact List.mem_map_of_mem (List.getElem_mem hj));refine wpAny_pure (wpAny_pure ?_);have X:s={s with heap:=s.heap}:=by cases s;rfl
  rw[X];refine q _ s.heap (Heap.SameBut.refl a s.heap) ⟨o,d,ep,t,J,H,hd,h,L,λY=>(r Y).trans ⟨λz=>List.mem_append_left _ z,λz=>?_⟩,by rw[List.length_append];lia,S,M⟩;rcases List.mem_append.mp z with z|z
  ·exact z
  ·rw[List.mem_singleton.mp z];exact hk
 |none=>
  dsimp only
  have hk:k∉d.toList.map keyOf:=λz=>by
   obtain⟨e,he,Z⟩:=List.mem_map.mp z;have z1:=List.findIdx?_eq_none_iff.mp hr e he;rw[<-Z,Jq h he]at z1
   cases z1
  have p:=layNew_perm t d (hashInt k) (.int k tk);have f:=layNew_fits t d (hashInt k) (.int k tk);have b:=Ph M d (hashInt k) (.int k tk);show wpAny _ _ (match layNew t d (hashInt k) (.int k tk)with|(d,t,wasDummy,gave)=>_) _ _ _;generalize layNew t d (hashInt k) (.int k tk)=Ln at p f b⊢;obtain⟨I,t1,dm,gv⟩:=Ln
  dsimp only at p f b⊢
  rw[Array.toList_push]at p;have hz:I.size=d.size+1:=by rw[<-Array.length_toList,p.length_eq,List.length_append,Array.length_toList];rfl
  have kk:keyOf (hashInt k, .int k tk)=k:=rfl;have i1:SO prog w l I t1 (ms++[k]):=by
   refine⟨(h.push v rfl).perm p,(p.map keyOf).nodup_iff.mpr ?_,λY=>((p.map keyOf).mem_iff).trans ?_,by rw[hz,List.length_append];simp;lia,f,b⟩
   ·rw[List.map_append,List.map_cons,List.map_nil,kk];exact List.nodup_append.mpr ⟨L,by simp,λx hx y hy=>by rw[List.mem_singleton.mp hy];exact λe=>hk (e▸hx)⟩
   ·rw[List.map_append,List.map_cons,List.map_nil,kk,List.mem_append,List.mem_append,r Y]
  have gwh:∀ (b:Bool) {s₁:Shared} {P:Unit->Shared->Prop},P () s₁->wpAny (model prog w) A (match b with|true=>rule "set.scan.the-table-gave-way"|false=>pure ()) P E s₁:=
   λb s₁ P B=>by cases b<;>first|exact wpAny_pure B|exact wpAny_rule B
  refine wpAny_bind (gwh _ ?_);have R:(ms++[k]).length<scanBound:=by rw[List.length_append];simpa using hb
  split
  ·refine wpAny_bind ?_;rw[hashByValue_scannable 8 (x:= .int k tk) rfl];refine wpAny_pure ?_;refine J0 ?_ J H hd (t2:=if plainKind (.int k tk)=true then t1 else{t1 with plain:=false}) (show SO prog w l I _ (ms++[k])from i1) R ?_
   ·intro b s₁ P B;cases b<;>first|exact wpAny_pure B|exact wpAny_rule B
   ·intro G sb z;dsimp only;exact wpAny_pure (q _ G sb z)
  ·refine wpAny_bind (wpAny_pure ?_);simp only[↓reduceIte];refine J0 ?_ J H hd i1 R ?_
   ·intro b s₁ P B;cases b<;>first|exact wpAny_pure B|exact wpAny_rule B
   ·intro G sb z;dsimp only;exact wpAny_pure (q _ G sb z)
theorem R8{wr:List Addr}{W3:Nat->Shared->Prop}(ns:List Int)(W:WalksS prog w A.in1 I fp wr G ns.length P W3)(S:Addr)(M:S∉fp)
 (T:∀i v,i<ns.length->P i v->∃t,v= .int (ns.getD i 0) t) (hb:ns.length+1<scanBound):∀ (k i:Nat) (s:Shared),ns.length-i=k->i<=ns.length->W3 i s->SI prog w l s.heap S (ns.take i)->
   (∀a,Moved (S::wr) G s a->SI prog w l a.heap S ns->R (.ok (.ret .none)) a)->codeAny (model prog w) A (.builtin "set.update.loop" ⟨[.ref S, .ref I],[]⟩) R s:=by
 have d:S∉wr:=λz=>M (W.sub _ z);have up:∀b∈wr,b∈S::wr:=λb z=> .tail _ z;intro k
 induction k with
 |zero=>
  intro i s hk U st p q;have e:i=ns.length:=by lia
  subst e;refine codeAny_builtin F.entry_set_update_loop ?_;rw[Around.under_plainId F.plain_set_update_loop _];show wpAny _ A.in1 (pyNext (.ref I)>>=_) _ _ s;refine wpAny_bind (W.done s _ _ st λa h=>?_);show wpAny _ A.in1 (ret Value.none) _ _ a;refine wpAny_pure (q a (h.mono up) ?_);rw[List.take_length]at p;exact p.at λo r=>h.heap S o d r
 |succ k X=>
  intro i s hk U st p q;have lt:i<ns.length:=by lia
  refine codeAny_builtin F.entry_set_update_loop ?_;rw[Around.under_plainId F.plain_set_update_loop _];show wpAny _ A.in1 (pyNext (.ref I)>>=_) _ _ s;refine wpAny_bind (W.item i s _ _ lt st λv a Y x h=>?_);obtain⟨t,rfl⟩:=T i v lt Y;have y:=p.at (h':=a.heap) λo r=>h.heap S o d r;have B:(ns.take i).length+1<scanBound:=by rw[List.length_take];lia
  have Z:ns.take i++[ns.getD i 0]=ns.take (i+1):=by
   rw[List.take_add_one,List.getElem?_eq_getElem lt,List.getD_eq_getElem?_getD,List.getElem?_eq_getElem lt];rfl
  show wpAny _ A.in1 (holding [Value.int (ns.getD i 0) t] (setAdd S (.int (ns.getD i 0) t))>>=_) _ _ a;refine wpAny_bind (wpAny_holding ?_);unfold setAdd;refine wpAny_holding (wpAny_bind ((intKind prog w).pyHash (k:=ns.getD i 0) (intKind_is _ _ _ _) ?_));refine OH (s:={a with toks:=a.toks+1}) y B λb h' Q j=>?_;rw[Z]at j;refine wpAny_pure ⟨plainId_quiet F.plain_set_update_loop _,X (i+1) _ (by lia) lt (W.frame _ a _ _ x (Nat.le_succ _) λc H o e=>?_) j λs2 J L=>?_⟩
  ·rw[Q.2 c (λz:c=S=>M (z▸H))];exact e
  ·refine q s2 (Moved.trans W.gtrans ((h.mono up).then_heap (Nat.le_succ _) λc o H e=>?_) J) L;rw[Q.2 c (λz:c=S=>H (z▸List.mem_cons_self))];exact e
def byT(w:World):Bool:=w.params.followText "set-order"
def Sg(a:Value){Q:Value->Shared->Prop}(q:Q (.ref s.heap.objs.size) {s with heap:=s.heap.push {cls:= .type "set",dict:=none,data:= .set #[] 0 (.fresh 0 0 (!byT w))}}):
 codeAny (model prog w) A (.call (.builtin "set.__new__") ⟨[.type "set",a],[]⟩) (wants Q E) s:=by
 refine codeAny_of_tree ?_;show wpAny _ A.in1 (do checkBuiltinCall "set.__new__" ⟨[.type "set",a],[]⟩;again (.builtin "set.__new__" ⟨[.type "set",a],[]⟩)) _ _ s;refine wpAny_bind (wpAny_of_eq (F.newCall_set_1 a) (wpAny_pure ⟨plainId_quiet F.plain_set_new _,codeAny_builtin F.entry_set_new ?_⟩));rw[Around.under_plainId F.plain_set_new _];unfold Builtin.«set.__new__» Builtin.Frozenset.newClass;have b:=sub_set_self;obtain⟨e,g,d,h,os⟩:=s
 dsimp only
 wp_walk
 refine wpAny_askSetting (wpAny_pure ?_)
 dsimp only
 simp only[newObj];refine wpAny_bind (wpAny_alloc (wpAny_pure ?_));exact wpAny_pure q
def VB{o:Obj}(e:h.get? a=some o)(b:o={cls:= .type "set",dict:=none,data:= .set #[] 0 (.fresh 0 0 l)}):SI prog w l h a []:=by
 subst b;exact⟨_,#[],0, .fresh 0 0 l,e,⟨rfl,rfl,rfl⟩,rfl,λe d=>by simp at d,by simp,by simp,Nat.le_refl _,rfl,List.Pairwise.nil,rfl⟩
def call_set{l:Addr}{Q:Value->Shared->Prop}(hh:A.handled=none)(hl:s.heap.IsList l items)(hi:IntsAre items.toList ns)(hb:ns.length+1<scanBound)
 (q:∀ (d:Heap) (Y:Nat),SI prog w (!byT w) d s.heap.objs.size ns->(∀b o,b<s.heap.objs.size->s.heap.get? b=some o->d.get? b=some o)->s.heap.objs.size<d.objs.size->Q (.ref s.heap.objs.size) {s with heap:=d,toks:=Y}):
 wpAny (model prog w) A (call (.type "set") [.ref l]) Q E s:=by
 obtain⟨c,tl,hmro⟩:=F.called_set.mro;have hmade:=F.called_set.made;have hsub:=F.called_set.sub;have H:items.size=ns.length:=by rw[<-Array.length_toList,IntsAre.length hi]
 refine wpAny_call (codeAny_of_tree ?_);show wpAny _ _ (callAny (.type "set") _) _ _ _;refine wpAny_pure ⟨Code.quiet_builtin _ (by decide +kernel),codeAny_builtin F.entry_type_call ?_⟩;rw[Around.under_plain (weight_type_call_type "set" [.ref l] []) rfl];have h1:=F.called_set.notType;have h2:=F.called_set.canCreate;have hct:=F.typeCall_set_1 (.ref l)
 repeat(any_goals(first|assumption|wp_step))
 refine codeAny_mono (Sg (.ref l) (E:=E) (Q:=λobj p=>obj= .ref s.heap.objs.size/\p={s with heap:=s.heap.push {cls:= .type "set",dict:=none,data:= .set #[] 0 (.fresh 0 0 (!byT w))}}) ⟨rfl,rfl⟩) λr p hr=>?_
 cases r with
 |error e=>exact hr
 |ok fl=>
  cases fl with
  |ret obj=>
   obtain⟨rfl,rfl⟩:=hr;have hS:(s.heap.push ({cls:= .type "set",dict:=none,data:= .set #[] 0 (.fresh 0 0 (!byT w))}:Obj)).get? s.heap.objs.size=some ({cls:= .type "set",dict:=none,data:= .set #[] 0 (.fresh 0 0 (!byT w))}:Obj):=Heap.get?_push_size _ rfl;have hT:Shared.TypeIs {s with heap:=s.heap.push ({cls:= .type "set",dict:=none,data:= .set #[] 0 (.fresh 0 0 (!byT w))}:Obj)} (.ref s.heap.objs.size) "set":=⟨_,hS,rfl⟩;have hli:=F.called_set.init.lookup;have hbi:=F.called_set.init.bind (.ref s.heap.objs.size)
   repeat(any_goals(first|assumption|wp_step))
   refine codeAny_mono (codeAny_call_builtin (R:=wants (λr x=>r= .none/\∃d Y,x={s with heap:=d,toks:=Y}/\SI prog w (!byT w) d s.heap.objs.size ns/\(∀b o,b<s.heap.objs.size->s.heap.get? b=some o->d.get? b=some o)) E) F.called_set.init.plain F.entry_set_init (check_set_init_1 hT ?_)) λI x a=>?_
   ·obtain⟨ol,J,L,nl,M⟩:=hl;obtain⟨ocls,y,odata,h⟩:=ol;simp only at L M;subst L;subst M;have P:(s.heap.push ({cls:= .type "set",dict:=none,data:= .set #[] 0 (.fresh 0 0 (!byT w))}:Obj)).get? l=some {cls:= .type "list",dict:=y,data:= .seq items nl,slots:=h}:=Heap.get?_push_of_some _ J;have hsls:=F.sub_list_set;have hslf:=F.sub_list_frozenset;have hne:(Value.type "list"==Value.type "dict")=false:=by decide
    have S:(s.heap.push ({cls:= .type "set",dict:=none,data:= .set #[] 0 (.fresh 0 0 (!byT w))}:Obj)).IsList l items:=⟨_,P,rfl,nl,rfl⟩;unfold Builtin.«set.__init__» noKeywords Builtin.Frozenset.updateFrom;generalize hPI:pyIter=PI
    wp_walk
    subst hPI;refine wpAny_pyIter_list S ?_;refine wpAny_bind (wpAny_runValue ?_);have T:l<s.heap.objs.size:=Heap.lt_size J;have B:(s.heap.push ({cls:= .type "set",dict:=none,data:= .set #[] 0 (.fresh 0 0 (!byT w))}:Obj)).objs.size=s.heap.objs.size+1:=Heap.size_push ..;have hh3:A.in1.in1.in1.handled=none:=by simp[hh]
    have U:l≠(s.heap.push ({cls:= .type "set",dict:=none,data:= .set #[] 0 (.fresh 0 0 (!byT w))}:Obj)).objs.size:=by rw[B];exact Nat.ne_of_lt (Nat.lt_succ_of_lt T)
    have hSf:s.heap.objs.size∉[(s.heap.push ({cls:= .type "set",dict:=none,data:= .set #[] 0 (.fresh 0 0 (!byT w))}:Obj)).objs.size,l]:=by
     rw[B];simp only[List.mem_cons,List.not_mem_nil,or_false,not_or];exact⟨Nat.ne_of_lt (Nat.lt_succ_self _),Nat.ne_of_gt T⟩
    have W:=(Walks.list (prog:=prog) (w:=w) hh3 _ l U items).toS;rw[H]at W;refine R8 (l:= !byT w) ns W s.heap.objs.size hSf (λi v _ z=>IntsAre.int_at hi i v (by rw[Array.getElem?_toList];exact z)) hb (ns.length-0) 0 _ rfl (Nat.zero_le _) ⟨⟨_,Heap.get?_push_size _ rfl,rfl,rfl⟩,(S.push _)⟩ (VB (o:=({cls:= .type "set",dict:=none,data:= .set #[] 0 (.fresh 0 0 (!byT w))}:Obj)) (Heap.get?_push_of_some _ hS) rfl) ?_;intro s' Z j;obtain⟨d,g',d',tk',os'⟩:=s';have eg:g'=s.gens:=Z.gens;have ed:d'=s.drawn:=Z.drawn;have eo:os'=s.os:=Z.os;subst eg;subst ed;subst eo;show wpAny _ _ _ _ _ _;refine wpAny_pure ?_;show wpAny _ _ (ret Value.none) _ _ _;refine wpAny_pure ⟨rfl,d,tk',rfl,j,λb o X e=>?_⟩;refine Z.heap b o ?_ (Heap.get?_push_of_some _ (Heap.get?_push_of_some _ e));rw[B];simp only[List.mem_cons,List.not_mem_nil,or_false,not_or];exact⟨Nat.ne_of_lt X,Nat.ne_of_lt (Nat.lt_succ_of_lt X)⟩
   ·cases I with
    |error e=>exact a
    |ok G=>
     cases G with
     |ret r=>
      obtain⟨rfl,d,Y,rfl,j,hk'⟩:=a
      repeat(any_goals(first|assumption|wp_step))
      refine q _ _ j hk' ?_;obtain⟨o,es,ep,t,ho,_⟩:=j;exact Heap.lt_size ho
     |_=>exact a.elim
  |_=>exact hr.elim
end
def Uh:Manifest.owners.lookup (String.ofList ['r','o','t','a','r','e','t','i','_','t','e','s'].reverse)=some Manifest.sig_set_iterator:=by kernel_rfl
def si_next:Slot "set_iterator" "__next__" "set_iterator.__next__":= .of (owner:="set_iterator") (n:="__next__") (by rw[typeLookup_type,builtinLookup_eq_fast];kernel_rfl) (by decide +kernel) (by decide +kernel) (by decide +kernel) (by first|exact .inl (by decide +kernel)|exact .inr (by decide +kernel)) (by rw[isSubtype_type];kernel_rfl)
def JT:entryFor table "set_iterator.__next__"=some Builtin.«set_iterator.__next__»:=entryFor_of_tree (by kernel_rfl)
def KG(a:Value):argsOk "set_iterator.__next__" ⟨[a],[]⟩:=by unfold argsOk;rw[signature?_of (id:="set_iterator.__next__") (n:=['_','_','t','x','e','n','_','_']) (o:=['r','o','t','a','r','e','t','i','_','t','e','s']) (by kernel_rfl) Uh];kernel_rfl
def M0:entryFor table "set.__iter__"=some Builtin.«frozenset.__iter__»:=entryFor_alias (id':="frozenset.__iter__") (by kernel_rfl) rfl (by decide +kernel) (by kernel_rfl)
section
variable{s:Shared}
structure W4 (h:Heap) (I:Addr) (f:Value) (i:Nat) (S:Addr) (n ep:Nat):Prop where
 at_:∃o,h.get? I=some o/\o.cls= .type "set_iterator"/\o.data= .fields #[f, .int i 0, .ref S, .int n 0, .int ep 0]
def W4.ty{f:Value}(x:W4 s.heap I f i S n ep):s.TypeIs (.ref I) "set_iterator":=let⟨o,a,b,_⟩:=x.at_;⟨o,a,b⟩
def W4.keep{f:Value}(x:W4 h I f i S n ep)(k:∀o,h.get? I=some o->h'.get? I=some o):W4 h' I f i S n ep:=let⟨o,a,r⟩:=x.at_;⟨o,k o a,r⟩
def Seto(h:Heap)(S:Addr)(a:Array (Int×Value))(ep:Nat)(t:SetTable):Prop:=∃o,h.get? S=some o/\o.ExactSet/\o.data= .set a ep t/\t.fits a.size=true
def Seto.keep(x:Seto h S es ep t)(k:∀o,h.get? S=some o->h'.get? S=some o):Seto h' S es ep t:=let⟨o,a,r⟩:=x;⟨o,k o a,r⟩
def VA{src:Source}{Q:Nat->Shared->Prop}(a:n≠0)(q:∀i d,i<n->Q i {s with drawn:=d}):wpAny M A (choose src n) Q E s:=λΓ p b=>by
 show Sem.wp M Γ (.choose src n .pure) _ _ p s;rw[Sem.wp_choose];exact⟨a,q _ _ (Nat.mod_lt _ (Nat.pos_of_ne_zero a))⟩
theorem Fg:∀ (l:List α) (i:Nat) (b:i<l.length),(l[i]::l.eraseIdx i).Perm l
 |x::l,0,_=> .refl _
 |x::l,i+1,b=>by
  have a:i<l.length:=by simpa using b
  have d:=Fg l i a;show List.Perm (l[i]::x::l.eraseIdx i) (x::l);exact(List.Perm.swap _ _ _).trans (List.Perm.cons x d)
theorem Hy:∀ (n:Nat) (a:List α) (s:Shared) (Q:List α->Shared->Prop),a.length=n->(∀h d,h.Perm a->Q h {s with drawn:=d})->wpAny M A (drawOrder n a) Q E s
 |0,a,s,Q,b,q=>by
  have e:a=[]:=List.eq_nil_of_length_eq_zero b;subst e;unfold drawOrder;exact wpAny_pure (q [] s.drawn .nil)
 |n+1,[],s,Q,b,q=>by cases b
 |n+1,x::a,s,Q,b,q=>by
  unfold drawOrder;refine wpAny_bind (VA (by simp) λi d j=>?_);rw[List.getElem?_eq_getElem j]
  dsimp only
  refine wpAny_bind (Hy n _ _ _ (by rw[List.length_eraseIdx_of_lt j];simp only[List.length_cons]at b⊢;lia) λh l o=>wpAny_pure (q _ l ?_));exact(List.Perm.cons _ o).trans (Fg _ _ j)
theorem KS(next:Nat->Nat):∀ (n k:Nat) (l:List α) (out:Array α),l.length=n->(pickOrder.go next n k l out).toList.Perm (out.toList++l)
 |0,k,l,out,b=>by
  have e:l=[]:=List.eq_nil_of_length_eq_zero b;subst e;unfold pickOrder.go;simp
 |n+1,k,l,out,b=>by
  unfold pickOrder.go;have a:next k%l.length<l.length:=Nat.mod_lt _ (by lia);rw[List.getElem?_eq_getElem a]
  dsimp only
  refine(KS next n (k+1) _ _ (by rw[List.length_eraseIdx_of_lt a];lia)).trans ?_;rw[Array.toList_push,List.append_assoc];exact List.Perm.append_left _ (Fg _ _ a)
def PD(next:Nat->Nat)(xs:Array α):(pickOrder next xs).toList.Perm xs.toList:=by
 have:=KS next xs.size 0 xs.toList #[] (by simp);simpa[pickOrder]using this
def CZ(t:SetTable)(i:Nat):Nat:=if i=0 then 0 else t.place.getD (i-1) 0+1
def N8(r:Rise t.place)(a:i<=t.place.size):SetTable.below t.place (CZ t i)=i:=by
 unfold CZ
 cases i with
 |zero=>exact On r
 |succ j=>
  rw[if_neg (by lia)];have e:t.place[j]? =some (t.place.getD j 0):=by simp[Array.getD,show j<t.place.size by lia]
  exact Oq r e
def P0(hf:t.fits n=true):t.place.size=n:=by
 simp only[SetTable.fits,Bool.and_eq_true,beq_iff_eq]at hf;exact hf.1
def Hv{Q:Option (Value×Nat)->Shared->Prop}(l:byT w=false)(o:t.plain=true\/es.size<=1)(p:t.led=true)(r:Rise t.place)(v:Seto s.heap S es ep t)(B:i<=es.size)
 (q:Q ((es[i]?).map λe=>(e.2,CZ t (i+1))) s):wpAny (model prog w) A (setNext S (CZ t i) i ep) Q E s:=by
 obtain⟨os,b,x,d,a⟩:=v;have y:=P0 a;unfold setNext;refine wpAny_bind (wpAny_setState_of b d a ?_)
 dsimp only
 unfold setsByText;refine wpAny_bind (wpAny_bind (wpAny_askSetting (wpAny_pure ?_)));rw[if_neg (by show¬ (byT w=true);rw[l];decide)]
 split
 ·rename_i z
  have j:(!t.plain&&decide (es.size>1))=true:=z;rcases o with h|h
  ·rw[h]at j;cases j
  ·simp at j;lia
 ·refine wpAny_bind ?_;show wpAny _ _ (if(!t.led&& !es.isEmpty)=true then _ else pure ()) _ _ _;rw[if_neg (by rw[p];simp)];refine wpAny_pure ?_;rw[N8 r (by lia)]
  by_cases h:i<es.size
  ·rw[Array.getElem?_eq_getElem h,Array.getElem?_eq_getElem (show i<t.place.size by lia)]at*
   refine wpAny_pure ?_;have e:CZ t (i+1)=t.place[i]'(by lia)+1:=by unfold CZ;simp[Array.getD,show i<t.place.size by lia]
   rw[e]at q;exact q
  ·rw[Array.getElem?_eq_none (by lia)]at*
   exact wpAny_pure q
def Ih{k:Nat}{Q:Option (Value×Nat)->Shared->Prop}(h:byT w=true)(j:Seto s.heap S es ep t)
 (q:Q (((pickOrder (w.params.setOrder S ep) es)[i]?).map λe=>(e.2,k)) s):wpAny (model prog w) A (setNext S k i ep) Q E s:=by
 obtain⟨os,a,l,b,d⟩:=j;unfold setNext setWalk;refine wpAny_bind (wpAny_setState_of a b d ?_)
 dsimp only
 unfold setsByText;refine wpAny_bind (wpAny_bind (wpAny_askSetting (wpAny_pure ?_)));rw[if_pos (by show byT w=true;exact h),if_neg (by simp)];refine wpAny_bind (wpAny_bind (wpAny_setState_of a b d ?_))
 dsimp only
 refine wpAny_bind (wpAny_bind (wpAny_askSetting (wpAny_pure ?_)));rw[if_pos (by show byT w=true;exact h)];exact wpAny_bind (wpAny_askSetting (wpAny_pure (wpAny_pure q)))
inductive Way (w:World) (S:Addr) (h:Heap) (es:Array (Int×Value)) (ep:Nat) (t:SetTable):(Nat->Value)->List Value->Prop
 |places (hb:byT w=false) (hp:t.plain=true\/es.size<=1) (hl:t.led=true) (r:Rise t.place):Way w S h es ep t (λi=>rawInt (CZ t i:Nat)) (es.toList.map (·.2))
 |text (hb:byT w=true):Way w S h es ep t (λ_=>rawInt (0:Nat)) ((pickOrder (w.params.setOrder S ep) es).toList.map (·.2))
 |draws (T:Addr) (ps:List Nat) (o:Obj) (hT:h.get? T=some o) (hd:∃n,o.data= .seq (ps.map fun(i:Nat)=>rawInt i).toArray n) (hp:ps.Perm (List.range es.size)):Way w S h es ep t (λ_=> .ref T) (ps.map λi=>(es.getD i (0, .none)).2)
def Way.perm(x:Way w S h es ep t f ys):ys.Perm (es.toList.map (·.2)):=by
 cases x with
 |places=>exact .refl _
 |text=>exact(PD _ _).map _
 |draws T ps o e hd b=>
  refine(b.map _).trans (List.Perm.of_eq ?_);refine List.ext_getElem? λi=>?_;have d:es.toList[i]? =es[i]? :=by simp
  rw[List.getElem?_map,List.getElem?_map,d]
  by_cases a:i<es.size
  ·rw[List.getElem?_range a,Array.getElem?_eq_getElem a];simp[Array.getD,a]
  ·rw[Array.getElem?_eq_none (by lia),List.getElem?_eq_none (by simp;lia)];rfl
def PX{y:Value}(x:Way w S s.heap es ep t f ys)(so:Seto s.heap S es ep t)(L:W4 s.heap I (f i) i S es.size ep)(a:ys[i]? =some y)(hf:t.fits es.size=true)
 (q:∀M,W4 M I (f (i+1)) (i+1) S es.size ep->Heap.SameBut I s.heap M->Q (some y) {s with heap:=M}):wpAny (model prog w) A (pyNext (.ref I)) Q E s:=by
 obtain⟨o,G,Y,hd⟩:=id L.at_;obtain⟨os,b,H,d,l⟩:=so;unfold pyNext;refine wpAny_bind (wpAny_attempt (wpAny_callSpecial?_slot (name:=Str.ofString "__next__") L.ty si_next (wpAny_call_entry si_next L.ty JT ?_ (KG _))));unfold Builtin.«set_iterator.__next__»;refine wpAny_bind (wpAny_pure ?_);refine wpAny_bind (wpAny_fieldsOf G hd ?_)
 dsimp only
 refine wpAny_bind (wpAny_setEntries_of b d l ?_);rw[if_neg (by simp)];have two:∀ (k:Nat),f (i+1)=rawInt k->wpAny (model prog w) A.in1 (do setField (Value.ref I) 0 (rawInt k);setField (Value.ref I) 1 (rawInt (i+1));ret y)
  (λfin P=>∃v,fin=Fin.done (Flow.ret v)/\wpAny (model prog w) A (pure (some v)) Q E P) (λe P=>wpAny (model prog w) A (do let c<-isInstance e (Value.type "StopIteration");if c=true then pure none else throw e) Q E P) s:=by
  intro k hk;refine wpAny_bind (wpAny_setField G hd (by simp) ?_);have p:(Obj.mapFields (·.setIfInBounds 0 (rawInt k)) o).data= .fields #[rawInt k, .int i 0, .ref S, .int es.size 0, .int ep 0]:=by rw[Obj.data_mapFields hd];simp
  have J:=Heap.get?_update_self (Obj.mapFields (·.setIfInBounds 0 (rawInt k))) G (Obj.isFreed_of_fields p);refine wpAny_bind (wpAny_setField J p (by simp) (wpAny_pure ⟨y,rfl,wpAny_pure (q _ ⟨_,Heap.get?_update_self _ J (Obj.isFreed_of_fields (Obj.data_mapFields p _)),?_,?_⟩ ((Heap.SameBut.update ..).trans (Heap.SameBut.update ..)))⟩))
  ·rw[Obj.cls_mapFields,Obj.cls_mapFields];exact Y
  ·rw[Obj.data_mapFields p,hk];simp[rawInt]
 cases x with
 |places R U hl r=>
  have X:i<es.size:=by
   rcases Nat.lt_or_ge i es.size with h|h
   ·exact h
   ·rw[List.getElem?_eq_none (by simpa using h)]at a;cases a
  show wpAny _ _ (setNext S (CZ t i:Int).toNat (i:Int).toNat (ep:Int).toNat>>=_) _ _ _;refine wpAny_bind (Hv R U hl r ⟨os,b,H,d,l⟩ (Nat.le_of_lt X) ?_);rw[List.getElem?_map,Array.getElem?_toList,Array.getElem?_eq_getElem X]at a;rw[Array.getElem?_eq_getElem X];injection a with a
  subst a;exact two _ rfl
 |text R=>
  show wpAny _ _ (setNext S 0 i ep>>=_) _ _ _;refine wpAny_bind (Ih R ⟨os,b,H,d,l⟩ ?_);rw[List.getElem?_map,Array.getElem?_toList]at a
  cases z:(pickOrder (w.params.setOrder S ep) es)[i]? with
  |none=>rw[z]at a;cases a
  |some e=>
   rw[z]at a;injection a with a
   subst a;exact two _ rfl
 |draws T ps oT hT B U=>
  obtain⟨nT,B⟩:=B;show wpAny _ _ (seqItems? (.ref T)>>=_) _ _ _;refine wpAny_bind (wpAny_seqItems hT B ?_);rw[List.getElem?_map]at a
  cases z:ps[i]? with
  |none=>rw[z]at a;cases a
  |some j=>
   rw[z]at a;injection a with a
   have Z:j<es.size:=by
    have:j∈List.range es.size:=U.mem_iff.mp (List.mem_of_getElem? z);simpa using this
   have e1:((ps.map fun(i:Nat)=>rawInt i).toArray)[(i:Int).toNat]? =some (.int (j:Int) 0):=by
    simp[z,rawInt]
   dsimp only
   rw[e1]
   dsimp only
   refine wpAny_bind ?_;unfold setNextDrawn;refine wpAny_bind (wpAny_setState_of b d l ?_)
   dsimp only
   rw[if_neg (by simp)];have e2:es[(j:Int).toNat]? =some es[j]:=by rw[Int.toNat_natCast];exact Array.getElem?_eq_getElem Z
   rw[e2];refine wpAny_pure (wpAny_bind (wpAny_setField G hd (by simp) (wpAny_pure ⟨_,rfl,wpAny_pure ?_⟩)));have e3:es[j].2=y:=by rw[<-a];simp[Array.getD,Z]
   rw[<-e3]at q;exact q _ ⟨_,Heap.get?_update_self _ G (Obj.isFreed_of_fields (Obj.data_mapFields hd _)),(Obj.cls_mapFields ..).trans Y,by rw[Obj.data_mapFields hd];simp[rawInt]⟩ (Heap.SameBut.update ..)
def HA{P:α->Shared->Prop}(h:A.handled=none){h0:Heap}(k0:∀b o,b≠I->h0.get? b=some o->s.heap.get? b=some o)(q:∀d,(∀b o,b≠I->h0.get? b=some o->d.get? b=some o)->Q none {s with heap:=d}):
 wpAny (model prog w) A.in1 (do let x<-newExc (Value.type "StopIteration") [];raiseNew x:Sem α) P (λe i=>wpAny (model prog w) A (do let c<-isInstance e (Value.type "StopIteration");if c=true then pure none else throw e) Q E i) s:=by
 refine wpAny_bind ?_;simp only[newExc,newTuple];refine wpAny_bind (wpAny_newObj_type ?_ (show(0:Nat)<=sizeLine from Nat.zero_le _));refine wpAny_bind (m:=firstArgMember _ _) (wpAny_of_eq (a:=Value.none) (by simp only[firstArgMember];rfl) (wpAny_newObj_type ?_ (by size_fits)));refine wpAny_raiseNew_none (show A.in1.handled=none from h) ?_;refine wpAny_bind (wpAny_isInstance (b:=true) (T:="StopIteration") ⟨_,Heap.get?_push_size _ rfl,rfl⟩ isSubtype_stop ?_);exact wpAny_pure (q _ λb o j e=>Heap.get?_push_of_some _ (Heap.get?_push_of_some _ (k0 b o j e)))
def PZ(B:A.handled=none)(x:Way w S s.heap es ep t f ys)(M:Seto s.heap S es ep t)(G:W4 s.heap I (f es.size) es.size S es.size ep)
 (q:∀L,(∀b o,b≠I->s.heap.get? b=some o->L.get? b=some o)->Q none {s with heap:=L}):wpAny (model prog w) A (pyNext (.ref I)) Q E s:=by
 obtain⟨o,p,X,hd⟩:=id G.at_;obtain⟨os,d,v,h,j⟩:=M;have y:=x.perm.length_eq;unfold pyNext;refine wpAny_bind (wpAny_attempt (wpAny_callSpecial?_slot (name:=Str.ofString "__next__") G.ty si_next (wpAny_call_entry si_next G.ty JT ?_ (KG _))));unfold Builtin.«set_iterator.__next__»;refine wpAny_bind (wpAny_pure ?_);refine wpAny_bind (wpAny_fieldsOf p hd ?_)
 dsimp only
 refine wpAny_bind (wpAny_setEntries_of d h j ?_);rw[if_neg (by simp)];have up:∀ (g:Obj->Obj) (b:Addr) (o:Obj),b≠I->s.heap.get? b=some o->(s.heap.update I g).get? b=some o:=λg b o a e=>(Heap.get?_update_other _ _ (Ne.symm a)).trans e
 cases x with
 |places a H P r=>
  show wpAny _ _ (setNext S (CZ t es.size) es.size ep>>=_) _ _ _;refine wpAny_bind (Hv a H P r ⟨os,d,v,h,j⟩ (Nat.le_refl _) ?_);rw[Array.getElem?_eq_none (Nat.le_refl _)];refine wpAny_bind (wpAny_setField p hd (by simp) ?_);exact HA B (up _) q
 |text a=>
  show wpAny _ _ (setNext S 0 es.size ep>>=_) _ _ _;refine wpAny_bind (Ih a ⟨os,d,v,h,j⟩ ?_);rw[Array.getElem?_eq_none (by simp at y;lia)];refine wpAny_bind (wpAny_setField p hd (by simp) ?_);exact HA B (up _) q
 |draws T ps Y R l H=>
  obtain⟨Z,l⟩:=l;show wpAny _ _ (seqItems? (.ref T)>>=_) _ _ _;refine wpAny_bind (wpAny_seqItems R l ?_);have U:((ps.map fun(i:Nat)=>rawInt i).toArray)[(es.size:Int).toNat]? =none:=by
   have:=H.length_eq;simp at this;simp;lia
  dsimp only
  rw[U]
  dsimp only
  refine wpAny_bind (wpAny_setField p hd (by simp) ?_);have z:(Obj.mapFields (·.setIfInBounds 0 (rawInt 0)) o).data= .fields #[rawInt 0, .int es.size 0, .ref S, .int es.size 0, .int ep 0]:=by rw[Obj.data_mapFields hd];simp
  have J:=Heap.get?_update_self (Obj.mapFields (·.setIfInBounds 0 (rawInt 0))) p (Obj.isFreed_of_fields z);refine wpAny_bind (wpAny_setField J z (by simp) ?_);exact HA B (λb o a e=>(Heap.get?_update_other _ _ (Ne.symm a)).trans (up _ b o a e)) q
def Way.at(x:Way w S h es ep t f ys)(k:∀T,f 0= .ref T->∀o,h.get? T=some o->h'.get? T=some o):Way w S h' es ep t f ys:=by
 cases x with
 |places a b d r=>exact .places a b d r
 |text a=>exact .text a
 |draws T ps o e hd b=>exact .draws T ps o (k T rfl o e) hd b
def Q7{Q:Value->Shared->Prop}(H:Seto s.heap S es ep t)(tb:Tb (!byT w) t)(J:es.size<=sizeLine)
 (q:∀ (I:Addr) (r:Heap) d f L,Way w S r es ep t f L->W4 r I (f 0) 0 S es.size ep->s.heap.objs.size<=I->(∀T,f 0= .ref T->T≠I/\s.heap.objs.size<=T)->(∀b o,s.heap.get? b=some o->r.get? b=some o)->Q (.ref I) {s with heap:=r,drawn:=d}):
 wpAny (model prog w) A (pyIter (.ref S)) Q E s:=by
 obtain⟨os,a,x,h,j⟩:=id H;have B:s.TypeIs (.ref S) "set":=⟨os,a,x.1⟩;refine wpAny_pyIter_slot B F.slot_set_iter (wpAny_call_entry F.slot_set_iter B M0 ?_ (F.args_set_iter_1 _));unfold Builtin.«frozenset.__iter__» Builtin.Frozenset.slot0 slotArgs;simp only[List.isEmpty_nil,Bool.not_true,Bool.false_eq_true,↓reduceIte,bind_assoc,List.length_nil,bne_self_eq_false];unfold Builtin.Frozenset.addrOf Builtin.Frozenset.sizeOf setDrawn setsByText;refine wpAny_bind (wpAny_pure ?_)
 try dsimp only
 refine wpAny_bind (wpAny_pure ?_);refine wpAny_bind (wpAny_bind (wpAny_setEntries_of a h j (wpAny_pure ?_)));refine wpAny_bind (wpAny_bind (wpAny_setState_of a h j ?_))
 dsimp only
 refine wpAny_bind (wpAny_bind (wpAny_askSetting (wpAny_pure (wpAny_pure ?_))))
 split
 ·refine wpAny_bind (Hy es.size (List.range es.size) s _ (by simp) λps d v=>?_);have y:ps.length=es.size:=by rw[v.length_eq];simp
  refine wpAny_bind (wpAny_newTuple ?_ (by rw[List.length_map,y];exact J));have l:=Heap.get?_push_of_some ({cls:= .type "tuple",data:= .seq (ps.map fun(i:Nat)=>rawInt i).toArray}:Obj) a;refine wpAny_bind (wpAny_setEpoch_of l h j ?_);refine wpAny_bind (wpAny_newObj_type (wpAny_pure ⟨_,rfl,"set_iterator",_,⟨_,Heap.get?_push_size _ rfl,rfl⟩,si_next.lookup,?_⟩));refine q _ _ d (λ_=> .ref s.heap.objs.size) _ (.draws s.heap.objs.size ps _ (Heap.get?_push_of_some _ (Heap.get?_push_size _ rfl)) ⟨_,rfl⟩ v) ⟨_,Heap.get?_push_size _ rfl,rfl,rfl⟩ ?_ ?_ λb o e=>Heap.get?_push_of_some _ (Heap.get?_push_of_some _ e)
  ·show s.heap.objs.size<=(s.heap.push _).objs.size;rw[Heap.size_push];exact Nat.le_succ _
  ·intro T e;injection e with e
   subst e;refine⟨?_,Nat.le_refl _⟩;show s.heap.objs.size≠(s.heap.push _).objs.size;rw[Heap.size_push];exact Nat.ne_of_lt (Nat.lt_succ_self _)
 ·rename_i nd
  refine wpAny_bind (wpAny_pure ?_);refine wpAny_bind (wpAny_setEpoch_of a h j ?_);refine wpAny_bind (wpAny_newObj_type (wpAny_pure ⟨_,rfl,"set_iterator",_,⟨_,Heap.get?_push_size _ rfl,rfl⟩,si_next.lookup,?_⟩));have G:∀ (k:Nat) T,rawInt (k:Int)=Value.ref T->T≠s.heap.objs.size/\s.heap.objs.size<=T:=λk T e=>by cases e
  cases z:byT w with
  |true=>exact q _ _ s.drawn _ _ (.text z) ⟨_,Heap.get?_push_size _ rfl,rfl,rfl⟩ (Nat.le_refl _) (G 0) λb o e=>Heap.get?_push_of_some _ e
  |false=>
   have p:¬ ((!byT w&&(!t.plain&&decide (es.size>1)))=true):=nd;rw[z]at p tb;exact q _ _ s.drawn _ _ (.places z (by cases v:t.plain<;>simp[v]at p⊢;lia) tb.2 tb.1) ⟨_,Heap.get?_push_size _ rfl,rfl,rfl⟩ (Nat.le_refl _) (G 0) λb o e=>Heap.get?_push_of_some _ e
theorem Oe{L:Addr}(hh:A.handled=none)(j:L≠I)(G:L≠S)(H:S≠I)(Z:∀T,f 0= .ref T->T≠I/\T≠L)(hz:es.size<=sizeLine)(res:Value):
 ∀ (k i:Nat) (s:Shared) (a:Array Value) (c:Nat),es.size-i=k->i<=es.size->Way w S s.heap es ep t f ys->Seto s.heap S es ep t->W4 s.heap I (f i) i S es.size ep->s.heap.get? L=some {cls:= .type "list",dict:=none,data:= .seq a c,slots:= #[]}->a.toList=ys.take i->
 (∀l d J,(∀b o,b≠I->b≠L->s.heap.get? b=some o->l.get? b=some o)->l.get? L=some {cls:= .type "list",dict:=none,data:= .seq d J,slots:= #[]}->d.toList=ys->R (.ok (.ret res)) {s with heap:=l})->
 codeAny (model prog w) A (.builtin "list.extend.loop" ⟨[.ref L, .ref I,res],[]⟩) R s:=by
 intro k
 induction k with
 |zero=>
  intro i s a c hk hi x p M P y q;have e:i=es.size:=by lia
  subst e;have h:ys.length=es.size:=by rw[x.perm.length_eq];simp
  refine codeAny_builtin F.entry_extend_loop ?_;rw[Around.under_plainId F.plain_extend_loop _];show wpAny _ A.in1 (pyNext (.ref I)>>=_) _ _ s;refine wpAny_bind (PZ (show A.in1.handled=none from hh) x p M λl kp=>wpAny_pure (q l a c (λb o B _ e=>kp b o B e) (kp L _ j P) ?_));rw[y,<-h,List.take_length]
 |succ k ih=>
  intro i s a c hk hi x p M P y q;have lt:i<es.size:=by lia
  have h:ys.length=es.size:=by rw[x.perm.length_eq];simp
  have hy:ys[i]? =some (ys[i]'(by lia)):=List.getElem?_eq_getElem _;refine codeAny_builtin F.entry_extend_loop ?_;rw[Around.under_plainId F.plain_extend_loop _];show wpAny _ A.in1 (pyNext (.ref I)>>=_) _ _ s;refine wpAny_bind (PX x p M hy (let⟨_,_,_,_,z⟩:=p;z) λh1 Q sb=>?_);have kp:∀b o,b≠I->s.heap.get? b=some o->h1.get? b=some o:=λb o hb e=>by rw[sb.2 b hb];exact e
  have r:=kp L _ j P;have v:a.size=i:=by rw[<-Array.length_toList,y,List.length_take];lia
  show wpAny _ A.in1 (updateSeq L (·.push (ys[i]'(by lia)))>>=_) _ _ _;refine wpAny_bind (wpAny_updateSeq r rfl (wpAny_pure ⟨plainId_quiet F.plain_extend_loop _,ih (i+1) _ (a.push (ys[i]'(by lia))) _ (by lia) lt (x.at λT e o eo=>?_) (p.keep λo e=>?_) (Q.keep λo e=>?_) (Heap.get?_update_self _ r rfl) ?_ λh2 d J U X Y=>?_⟩) (by rw[v];lia) (by show(a.push _).size<=sizeLine+1;rw[Array.size_push,v];lia))
  ·exact(Heap.get?_update_other _ _ (Ne.symm (Z T e).2)).trans (kp T o (Z T e).1 eo)
  ·exact(Heap.get?_update_other _ _ G).trans (kp S o H e)
  ·exact(Heap.get?_update_other _ _ j).trans e
  ·rw[Array.toList_push,y,List.take_add_one,hy];rfl
  ·exact q h2 d J (λb o B b2 e=>U b o B b2 ((Heap.get?_update_other _ _ (Ne.symm b2)).trans (kp b o B e))) X Y
end
section
variable{s:Shared}
open Builtin.List in
def Q8{Q:Bool->Shared->Prop}(d:s.TypeIs (.ref S) "set")(q:Q false s):wpAny (model prog w) A (listLengthHint (.ref S)) Q E s:=by
 unfold listLengthHint;refine wpAny_bind (wpAny_specialOf d F.slot_set_len.lookup ?_);generalize a:("set.__len__":String)=e
 wp_delta
 rw[show splitId e=some ("set","__len__")from by subst a;decide +kernel];subst a;refine wpAny_bind (wpAny_isInstance (b:=true) d sub_set_self ?_);rw[if_neg (by decide)];show wpAny _ _ (if _=true then _ else _) _ _ _;rw[if_pos (by decide +kernel)];refine wpAny_bind (wpAny_typeOf d ?_);exact wpAny_pure q
def N7{Q:List Value->Shared->Prop}(hh:A.handled=none)(Y:Seto s.heap S es ep t)(tb:Tb (!byT w) t)(Z:es.size<sizeLine)
 (q:∀L d G,G.Perm (es.toList.map (·.2))->(∀b o,s.heap.get? b=some o->L.get? b=some o)->s.heap.objs.size<=L.objs.size->Q G {s with heap:=L,drawn:=d}):wpAny (model prog w) A (collect (.ref S)) Q E s:=by
 have M:S<s.heap.objs.size:=let⟨o,ho,_⟩:=Y;Heap.lt_size ho;unfold collect;refine wpAny_bind (wpAny_runValue (codeAny_builtin F.entry_proto_collect ?_));rw[Around.under_plainId F.plain_proto_collect _];show wpAny _ A.in1 (newList []>>=λl=>again (.builtin "list.__iadd__" ⟨[l, .ref S],[]⟩)) _ _ s;refine wpAny_bind (wpAny_newObj_type (wpAny_pure ⟨plainId_quiet F.plain_list_iadd _,codeAny_builtin F.entry_list_iadd ?_⟩));rw[Around.under_plainId F.plain_list_iadd _];generalize j:({cls:= .type "list",data:= .seq ([]:List Value).toArray}:Obj)=lo;have gL:(s.heap.push lo).get? s.heap.objs.size=some lo:=Heap.get?_push_size _ (by subst j;rfl);have a:Seto (s.heap.push lo) S es ep t:=Y.keep λo e=>Heap.get?_push_of_some _ e;obtain⟨os,p,r,hds,hfs⟩:=id a;have hT:Shared.TypeIs {s with heap:=s.heap.push lo} (.ref S) "set":=⟨os,p,r.1⟩;show wpAny _ A.in1 (Builtin.List.listExtendWith (.ref s.heap.objs.size) (.ref S) (.ref s.heap.objs.size)) _ _ _;unfold Builtin.List.listExtendWith;refine wpAny_bind (wpAny_typeOf hT ?_);have H:Builtin.List.listSameRef (.ref s.heap.objs.size) (.ref S)=false:=by
  have:¬s.heap.objs.size=S:=Nat.ne_of_gt M;simp[Builtin.List.listSameRef,this]
 rw[if_neg (by rw[H];decide)];refine wpAny_bind (Q7 a tb (Nat.le_of_lt Z) λI H d f G x it J h kp=>?_);have v:=kp _ _ gL;refine wpAny_bind (wpAny_holding (Q8 ⟨os,kp _ _ p,r.1⟩ ?_));rw[if_pos (by decide +kernel)];refine wpAny_bind (wpAny_rule ?_);refine wpAny_bind ?_;show wpAny _ A.in1 (updateSeq s.heap.objs.size (·.push .none)>>=λ_=>updateSeq s.heap.objs.size (·.pop)) _ _ _;subst j;refine wpAny_bind (wpAny_updateSeq v rfl ?_);have y:=Heap.get?_update_self (Obj.mapSeq (·.push Value.none)) v rfl;refine wpAny_updateSeq y rfl ?_;have P:=Heap.get?_update_self (Obj.mapSeq (·.pop)) y rfl;have R:(s.heap.push ({cls:= .type "list",data:= .seq ([]:List Value).toArray}:Obj)).objs.size=s.heap.objs.size+1:=Heap.size_push ..;rw[R]at J h;have oth:∀b o,b≠s.heap.objs.size->H.get? b=some o->((H.update s.heap.objs.size (Obj.mapSeq (·.push Value.none))).update s.heap.objs.size (Obj.mapSeq (·.pop))).get? b=some o:=
  λb o i e=>(Heap.get?_update_other _ _ (Ne.symm i)).trans ((Heap.get?_update_other _ _ (Ne.symm i)).trans e)
 have z:s.heap.objs.size≠I:=Nat.ne_of_lt J;have nS:S≠s.heap.objs.size:=Nat.ne_of_lt M;have U:S≠I:=Nat.ne_of_lt (Nat.lt_trans M J);have nT:∀T,f 0= .ref T->T≠I/\T≠s.heap.objs.size:=λT e=>⟨(h T e).1,Nat.ne_of_gt (h T e).2⟩;refine wpAny_pure ⟨plainId_quiet F.plain_extend_loop _,Oe (show A.handled=none from hh) z (Ne.symm nS) U nT (Nat.le_of_lt Z) _ es.size 0 _ _ _ rfl (Nat.zero_le _) (x.at λT e o eo=>oth T o (nT T e).2 eo) ((a.keep λo e=>kp S o e).keep λo e=>oth S o nS e) (it.keep λo e=>oth I o (Ne.symm z) e) P rfl λh2 acc' c' X B ha=>?_⟩;show wpAny _ A (load s.heap.objs.size>>=_) _ _ _;refine wpAny_bind (wpAny_load B ?_);refine wpAny_pure ?_;rw[ha];refine q h2 d G x.perm (λb o e=>?_) (Nat.le_of_lt (Heap.lt_size B));have i:b<s.heap.objs.size:=Heap.lt_size e;exact X b o (Nat.ne_of_lt (Nat.lt_trans i J)) (Nat.ne_of_lt i) (oth b o (Nat.ne_of_lt i) (kp b o (Heap.get?_push_of_some _ e)))
def IntsAre.of_perm{vs:List Value}(p:vs.Perm us):∀ {ns:List Int},IntsAre us ns->∃a,IntsAre vs a/\a.Perm ns:=by
 induction p with
 |nil=>intro ns h;exact⟨ns,h, .refl _⟩
 |cons x _ j=>intro ns h;cases h with|cons n t h=>obtain⟨a,b,d⟩:=j h;exact⟨n::a, .cons n t b,d.cons n⟩
 |swap x y l=>intro ns h;cases h with|cons n t h=>cases h with|cons m u h=>exact⟨m::n::_, .cons m u (.cons n t h), .swap _ _ _⟩
 |trans _ _ e i=>intro ns h;obtain⟨a,b,d⟩:=i h;obtain⟨o,q,r⟩:=e b;exact⟨o,q,r.trans d⟩
end
end BrT
open BrT
namespace L2
section
variable{np cpos sp:Pos}
def Inv.drawn{s:Shared}(I:Inv X pins σ H s)(d:Drawn):Inv X pins σ H {s with drawn:=d}:=⟨I.ok,I.os,I.bare,I.base,I.loc,I.cell,I.free,I.freeC,I.pin,I.hok,I.len⟩
end
end L2
namespace BrT
section
variable{s:Shared}
def sorted_setB(Y:A.handled=none)(i:SI prog w (!byT w) s.heap S ms)(r:∀x∈ms,(0:Int)<=x/\x<63)
 (q:∀ (L:Addr) (v:Heap) d (vs:List Value) (ns:List Int) (e:Nat),s.heap.objs.size<=L->v.get? L=some (seqObj "list" vs.toArray e)->(∀b o,s.heap.get? b=some o->v.get? b=some o)->IntsAre vs ns->ns.Pairwise (· < ·)->(∀k,k∈ns↔k∈ms)->ns.length<=63->Q (.ref L) {s with heap:=v,drawn:=d}):
 wpAny (model prog w) A (call (.builtin "sorted") [.ref S]) Q E s:=by
 obtain⟨o,R,ep,t,Z,y,hd,z,p,j,hsz,hf,B⟩:=i;have G:R.size<=63:=by
  have l:=List.Nodup.length_le_of_subset p (l₂:=(List.range 63).map λn:Nat=>(n:Int)) λx hx=>by
   obtain⟨l,h2⟩:=r x ((j x).mp hx);exact List.mem_map.mpr ⟨x.toNat,by simp;lia,by lia⟩
  simpa using l
 refine Calls.call_function_entry kind_sorted plain_sorted entry_sorted (args_sorted1 _) ?_;unfold Builtin.«sorted»;refine wpAny_bind (m:=checkCount "sorted" 1 1 _) (wpAny_pure ?_);refine wpAny_bind (N7 (show A.in1.handled=none from Y) ⟨o,Z,y,hd,hf⟩ B (by rw[sizeLine_eq];lia) λl d H T kp I=>?_);obtain⟨ks,hI,J⟩:=IntsAre.of_perm T (Ki z);have M:H.length<64:=by rw[T.length_eq];simp;lia
 refine wpAny_bind (wpAny_newList ?_ (by rw[sizeLine_eq];lia));have P:(l.push (seqObj "list" H.toArray 0)).get? l.objs.size=some (seqObj "list" H.toArray 0):=Heap.get?_push_size _ rfl;refine wpAny_bind (wpAny_holding (wpAny_call_entry slot_list_sort ⟨_,P,rfl⟩ entry_list_sort (list_sort_tree P hI M λout ns a1 a2 a3=>⟨_,rfl,?_⟩) (args_list_sort _)));refine wpAny_pure ⟨_,rfl,?_⟩;obtain⟨e,he⟩:=sortedHeap_at (out:=out) P;have a:ns.Perm (R.toList.map keyOf):=a2.trans J;refine q l.objs.size _ d out.toList ns e I (by rw[Array.toArray_toList];exact he) (λb o U=>?_) a1 ?_ (λk=>(a.mem_iff).trans (j k)) (by rw[a.length_eq];simp;exact G)
 ·have X:=Heap.lt_size (kp b o U);rw[sortedHeap_old (Nat.ne_of_lt X) (by rw[size_push'];exact Nat.lt_succ_of_lt X)];exact Heap.get?_push_of_some _ (kp b o U)
 ·have hn:ns.Nodup:=a.nodup_iff.mpr p;exact List.Pairwise.imp (λh=>by lia) (List.Pairwise.and a3 hn)
end
end BrT
namespace L2
variable{D:Addr}{elt iter1 target tg1:Expr}{ifs1:List Expr}{i0 i1:Nat}{ts:TE}{wi wi1:TI}{tt1:TT}{Q:VK}{acc it:Value}{Qo:Value->Shared->Prop}
section
variable{np cpos sp:Pos}
def MF(K:W.Frag)(te:TE):TE:=λσ H Q=>te σ H λv b=>∃ (l:Addr) (a:List Int),v= .ref l/\SqL K b l (a.map V.int)/\a.length<=4000/\(∀x∈a,(0:Int)<=x/\x<63)/\
 ∀ (p:Addr) (ns:List Int),b p=none->ns.Pairwise (· < ·)->(∀k:Int,k∈ns↔k∈a)->ns.length<=63->Q (.ref p) (upd b p (.lst (ns.map V.int)))
def Qn(K:W.Frag)(j:X.mg "set"=none)(p:X.mg "sorted"=none){k:Nat}(hr:Room k X.A)(M:X.calm=true)(Y:PE X e te)(Z:X.K=K:=by rfl)(r:Gl X "set":=by rfl)(x:Gl X "sorted":=by rfl)
 (P:starEach [e] X.env=[(false,eval e X.env)]:=by rfl) (y:starEach [.Call (.Name "set" np) [e] [] cpos] X.env=[(false,eval (.Call (.Name "set" np) [e] [] cpos) X.env)]:=by rfl):
 PE X (.Call (.Name "sorted" sp) [.Call (.Name "set" np) [e] [] cpos] [] pos) (MF K te):=by
 subst Z;intro pins s σ H Q I h;refine wpAny_Call_Name_kw (B0 I x p PyProof.Rows.boot_sorted ?_);refine PyProof.Rows.callWith_builtin1 ?_ y rfl;rw[y];show wpAny _ _ (spliced [(false,eval (.Call (.Name "set" np) [e] [] cpos) X.env)]) _ _ _;refine Calls.spliced_cons ?_;refine wpAny_Call_Name_kw (B0 I r j PyProof.Rows.boot_set ?_);refine PyProof.Rows.callWith_type1 ?_ P rfl;rw[P];show wpAny _ _ (spliced [(false,eval e X.env)]) _ _ _;refine Calls.spliced_cons (thn (Y pins s σ H _ I h) λu R ⟨v,H1,i,r1,q1⟩=>Calls.spliced_nil ?_);obtain⟨l,ms,rfl,hq,hz,a,q⟩:=q1
 cases r1
 obtain⟨its,rr,ht,_⟩:=i.list hq;have hi:=IL rr;refine BrT.call_set (i.ok.hd M) ht.isList hi (by unfold scanBound;lia) λS B hS kp hlt=>Calls.spliced_nil ?_;have T:Inv X pins σ H1 {R with heap:=S,toks:=B}:=i.kept λb o z=>kp b o (Heap.lt_size z) z;refine BrT.sorted_setB (s:={R with heap:=S,toks:=B}) (i.ok.hd M) hS a λL y d vs ns ep U gL G hI hp hm J=>?_;refine⟨.ref L,_,(T.laid (t':=B) (o:= .lst (ns.map V.int)) G U ⟨?_,vs,ep,Fj hI,gL⟩).drawn d,rfl,q L ns (T.hok.fresh U) hp hm J⟩;rw[List.length_map,sizeLine_eq];lia
def Re(h:te σ H λv b=>∃ (l:Addr) (a:List Int),v= .ref l/\SqL K b l (a.map V.int)/\a.length<=4000/\(∀x∈a,(0:Int)<=x/\x<63)/\∀ (p:Addr) (ns:List Int),b p=none->ns.Pairwise (· < ·)->(∀k:Int,k∈ns↔k∈a)->ns.length<=63->Q (.ref p) (upd b p (.lst (ns.map V.int)))):MF K te σ H Q:=h
end
section
variable{s:Shared}
theorem OB(e target iter b a:Expr)(ifs d:List Expr)(scope:Scope)(pos:Pos)(i h:Value)(env:Env):
 compTurn (.ListComp e [⟨target,iter,ifs,0⟩,⟨b,a,d,0⟩] scope pos) 0 i h env=(do
  standAt iter.pos
  match<-pyNext i with
  |none=>pure (.done .next)
  |some v=>
   letOwnedTupleGo target i v
   assign target env v
   let mut ok:=true
   for c in ifs do
    if ok then ok<-isTrue c env (eval c env)
   if ok then
    let x<-eval a env
    standAt a.pos
    let x<-foldedSetIterable a env x
    let _<-runOwn (.compStart (.ListComp e [⟨target,iter,ifs,0⟩,⟨b,a,d,0⟩] scope pos) 1 (<-holding [x] (pyIter x)) h env) env
   again (.compLoop (.ListComp e [⟨target,iter,ifs,0⟩,⟨b,a,d,0⟩] scope pos) 0 i h env)):=by rfl
theorem OC(e target iter a b:Expr)(ifs d:List Expr)(scope:Scope)(pos:Pos)(i h:Value)(env:Env):
 compTurn (.ListComp e [⟨target,iter,ifs,0⟩,⟨a,b,d,0⟩] scope pos) 1 i h env=(do
  standAt b.pos
  match<-pyNext i with
  |none=>pure (.done .next)
  |some v=>
   letOwnedTupleGo a i v
   assign a env v
   let mut ok:=true
   for c in d do
    if ok then ok<-isTrue c env (eval c env)
   if ok then
    (do let _<-call (.builtin "list.append") [h,<-eval e env])
   again (.compLoop (.ListComp e [⟨target,iter,ifs,0⟩,⟨a,b,d,0⟩] scope pos) 1 i h env)):=by rfl
theorem Nm{target1:Expr}(B:∀x,foldedSetIterable iter1 env x=pure x)(I:Nat->Shared->Prop)
 (turn:∀n s,I n s->wpAny (model prog w) A (pyNext it) (λr b=>match r with
   |none=>R (.ok .next) b
   |some v=>wpAny (model prog w) A (letOwnedTupleGo target it v) (λ_ e=>wpAny (model prog w) A (assign target env v) (λ_ i=>
     wpAny (model prog w) A (forIn ifs true λc r=>if r=true then do let ok<-isTrue c env (eval c env);pure (ForInStep.yield ok)else pure (ForInStep.yield r)) (λok d=>
      if ok=true then wpAny (model prog w) A (eval iter1 env) (λx j=>wpAny (model prog w) A (pyIter x) (λa l=>
       codeAny (model prog w) A (.compStart (.ListComp elt [⟨target,iter,ifs,0⟩,⟨target1,iter1,ifs1,0⟩] scope pos) 1 a acc env) (λr o=>r= .ok .next/\∃m,m<n/\I m o) l) (λ_ _=>False) j) (λ_ _=>False) d
      else∃m,m<n/\I m d) (λ_ _=>False) i) (λ_ _=>False) e) (λ_ _=>False) b) (λ_ _=>False) s)
 (n:Nat) (h:I n s):
 codeAny (model prog w) A (.compLoop (.ListComp elt [⟨target,iter,ifs,0⟩,⟨target1,iter1,ifs1,0⟩] scope pos) 0 it acc env) R s:=by
 refine codeAny_loop rfl I (λn s G=>?_) n h;show wpAny _ A ((compTurn (.ListComp elt [⟨target,iter,ifs,0⟩,⟨target1,iter1,ifs1,0⟩] scope pos) 0 it acc env).onRaise (λx=>do noteFrame x env;theTreesLotGoes x)) _ _ s;refine wpAny_noted ?_;rw[OB];refine wpAny_bind (wpAny_standAt (wpAny_bind (wpAny_mono (turn n s G) (λr b p=>?_) λ_ _ z=>z.elim)))
 cases r with
 |none=>exact wpAny_pure p
 |some v=>
  refine wpAny_bind (wpAny_mono p (λ_ e h0=>wpAny_bind (wpAny_mono h0 (λ_ i H=>wpAny_bind (wpAny_mono H (λok d y=>?_) λ_ _ z=>z.elim)) λ_ _ z=>z.elim)) λ_ _ z=>z.elim)
  cases ok with
  |false=>exact wpAny_pure ⟨rfl,y⟩
  |true=>
   refine wpAny_bind (wpAny_mono y (λx j J=>wpAny_bind (wpAny_standAt ?_)) λ_ _ z=>z.elim);rw[B x];refine wpAny_bind (wpAny_pure (wpAny_bind (wpAny_holding (wpAny_mono J (λa l L=>wpAny_bind (wpAny_runOwn (codeAny_mono L λr o ⟨M,q⟩=>?_))) λ_ _ z=>z.elim))));subst M;exact wpAny_pure ⟨rfl,q⟩
theorem N2{target1:Expr}(I:Nat->Shared->Prop)
 (turn:∀n s,I n s->wpAny (model prog w) A (pyNext it) (λr a=>match r with
   |none=>R (.ok .next) a
   |some v=>wpAny (model prog w) A (letOwnedTupleGo target1 it v) (λ_ d=>wpAny (model prog w) A (assign target1 env v) (λ_ e=>
     wpAny (model prog w) A (forIn ifs1 true λc r=>if r=true then do let ok<-isTrue c env (eval c env);pure (ForInStep.yield ok)else pure (ForInStep.yield r)) (λok b=>
      if ok=true then wpAny (model prog w) A (eval elt env) (λx i=>wpAny (model prog w) A (call (.builtin "list.append") [acc,x]) (λ_ j=>∃m,m<n/\I m j) (λ_ _=>False) i) (λ_ _=>False) b
      else∃m,m<n/\I m b) (λ_ _=>False) e) (λ_ _=>False) d) (λ_ _=>False) a) (λ_ _=>False) s)
 (n:Nat) (h:I n s):
 codeAny (model prog w) A (.compLoop (.ListComp elt [⟨target,iter,ifs,0⟩,⟨target1,iter1,ifs1,0⟩] scope pos) 1 it acc env) R s:=by
 refine codeAny_loop rfl I (λn s p=>?_) n h;show wpAny _ A ((compTurn (.ListComp elt [⟨target,iter,ifs,0⟩,⟨target1,iter1,ifs1,0⟩] scope pos) 1 it acc env).onRaise (λx=>do noteFrame x env;theTreesLotGoes x)) _ _ s;refine wpAny_noted ?_;rw[OC];refine wpAny_bind (wpAny_standAt (wpAny_bind (wpAny_mono (turn n s p) (λr a l=>?_) λ_ _ z=>z.elim)))
 cases r with
 |none=>exact wpAny_pure l
 |some v=>
  refine wpAny_bind (wpAny_mono l (λ_ d h0=>wpAny_bind (wpAny_mono h0 (λ_ e q=>wpAny_bind (wpAny_mono q (λok b o=>?_) λ_ _ z=>z.elim)) λ_ _ z=>z.elim)) λ_ _ z=>z.elim)
  cases ok with
  |false=>exact wpAny_pure ⟨rfl,o⟩
  |true=>
   exact wpAny_bind (wpAny_bind (wpAny_mono o (λx i y=>wpAny_bind (wpAny_mono y (λ_ j B=>wpAny_pure (wpAny_pure ⟨rfl,B⟩)) λ_ _ z=>z.elim)) λ_ _ z=>z.elim))
def N3{target1:Expr}
 (h0:codeAny (model prog w) A (.compLoop (.ListComp elt [⟨target,iter,ifs,0⟩,⟨target1,iter1,ifs1,0⟩] scope pos) 1 it acc env) R s)
 (h:wpAny (model prog w) A (pyIter it) (λa b=>codeAny (model prog w) A (.compLoop (.ListComp elt [⟨target,iter,ifs,0⟩,⟨target1,iter1,ifs1,0⟩] scope pos) 1 a acc env) R b) (notedBy (model prog w) A env λx b=>R (.error x) b) s):
 codeAny (model prog w) A (.compStart (.ListComp elt [⟨target,iter,ifs,0⟩,⟨target1,iter1,ifs1,0⟩] scope pos) 1 it acc env) R s:=by
 refine codeAny_of_tree ?_;show wpAny _ _ ((compStart (.ListComp elt [⟨target,iter,ifs,0⟩,⟨target1,iter1,ifs1,0⟩] scope pos) 1 it acc env).onRaise (λx=>do noteFrame x env;standAt theWindowsPlace)) _ _ s;refine wpAny_notedAt ?_;unfold compStart;show wpAny _ _ (ask>>=_) _ _ s;refine wpAny_bind (wpAny_askSetting (wpAny_ite ?_))
 split
 ·first
   |exact wpAny_bind (wpAny_pure (wpAny_pure ⟨rfl,h0⟩))
   |exact wpAny_pure ⟨rfl,h0⟩
 ·first
   |exact wpAny_bind (wpAny_rule (wpAny_bind (wpAny_standAt (wpAny_bind (wpAny_mono h (λa b d=>wpAny_pure ⟨rfl,d⟩) λ_ _ x=>x)))))
   |(refine wpAny_bind (wpAny_rule ?_);show wpAny _ _ (standAt iter1.pos>>=_) _ _ s;exact wpAny_bind (wpAny_standAt (wpAny_bind (wpAny_mono h (λa b d=>wpAny_pure ⟨rfl,d⟩) λ_ _ x=>x))))
end
def D8(D:Addr)(e:TI)(l:Nat)(h:TT)(te:TE)(σ:W3)(H:Hp)(N:Hp->Prop):Prop:=e σ H λJ r=>∃W:Nat->Nat->Hp->Prop,(∃m,W 0 m r)/\∀i m a,W i m a->
 (J.stop i a/\N a)\/(J.go i a/\∀x o,J.yld i a x o->h (σ.set l (some x)) o λb p=>
   if b=true then te (σ.set l (some x)) p λv q=>∃j,q D=some (.lst j)/\j.length<sizeLine/\∃d,d<m/\W (i+1) d (upd q D (.lst (j++[v])))
   else∃d,d<m/\W (i+1) d p)
def Gd(own:List Str)(sel:List Nat)(q:TI)(j:Nat)(r:TT)(e:TI)(v:Nat)(h:TT)(te:TE):TE:=λσ H Q=>q σ H λJ l=>∀D,l D=none->
 ∃W:Nat->Nat->Hp->Prop,(∃m,W 0 m (upd l D (.lst [])))/\∀i m a,W i m a->
  (J.stop i a/\Q (.ref D) a)\/(J.go i a/\∀x o,J.yld i a x o->r ((AV own sel σ).set j (some x)) o λb p=>
    if b=true then D8 D e v h te ((AV own sel σ).set j (some x)) p λy=>∃d,d<m/\W (i+1) d y
    else∃d,d<m/\W (i+1) d p)
section
variable{Y:Cx}
def Oc(I:Y.xe=λ_ _=>False)(hc:Y.calm=true)(hi1:PI Y tg1 iter1 wi1)(hg1:PG Y tg1 (Aw i1))(ht1:PIf Y ifs1 tt1)(he:PE Y elt te)
 {pins:List (Addr×Obj)} {s:Shared} {σ:W3} {H:Hp} {N:Hp->Prop} (I0:Inv Y pins σ H s) (hσ:σ[i1]? =some none) (h:D8 D wi1 i1 tt1 te σ H N) {R:Result->Shared->Prop} (fin:∀H' L,Inv Y pins σ H' L->N H'->R (.ok .next) L):
 wpAny (model Y.prog Y.w) Y.A (eval iter1 Y.env) (λx Z=>wpAny (model Y.prog Y.w) Y.A (pyIter x) (λit1 s5=>codeAny (model Y.prog Y.w) Y.A (.compStart (.ListComp elt [⟨tg,iter,ifs,0⟩,⟨tg1,iter1,ifs1,0⟩] scope pos) 1 it1 (.ref D) Y.env) R s5) (λ_ _=>False) Z) (λ_ _=>False) s:=by
 have hi:=hi1 pins s σ H _ I0 h;rw[I]at hi;refine thn hi λv s1 h1=>thn h1 λitv s2 h2=>?_;obtain⟨it,M,tn,J,H2,e,I2,T,P,f2,W,⟨m0,w0⟩,turn⟩:=h2;subst e;have a:∀ {H':Hp},(∀b∈M,H' b=none)->∀b∈M,BM Y pins H' b:=λhn b y=>⟨hn b y,(f2 b y).2⟩;have loop:codeAny (model Y.prog Y.w) Y.A (.compLoop (.ListComp elt [⟨tg,iter,ifs,0⟩,⟨tg1,iter1,ifs1,0⟩] scope pos) 1 (.ref it) (.ref D) Y.env) R s2:=by
  refine N2 (λn L=>∃i H',Inv Y pins σ H' L/\tn i L.heap/\(∀b∈M,H' b=none)/\W i n H') ?_ m0 ⟨0,H2,I2,P,λb y=>(f2 b y).1,w0⟩;rintro n Z ⟨i,H4,I4,Q,S,w4⟩;rcases turn i n H4 w4 with⟨stop,q⟩|⟨go,step⟩
  ·refine thn (T.done Y rfl rfl rfl hc i pins Z σ H4 (λ_ _=>False) I4 (a S) Q stop) λr s5 l=>?_;obtain⟨hr,I5⟩:=l;subst hr;exact fin _ _ I5 q
  ·refine thn (T.item Y rfl rfl rfl hc i pins Z σ H4 (λ_ _=>False) I4 (a S) Q go) λr s5 l=>?_;obtain⟨u,hr,h5⟩:=l;subst hr;refine thn h5 λ_ s6 l=>?_;obtain⟨x,H6,I6,r6,y6,z,fr6⟩:=l;have I6':=I6.pinned (a fr6) (T.obj _ _ z);have back:∀ {B:Hp} {G:Shared},Inv Y (pins++DC M s6.heap) (σ.set i1 (some x)) B G->(∃p,p<n/\W (i+1) p B)->∃p,p<n/\∃i H',Inv Y pins σ H' G/\tn i G.heap/\(∀b∈M,H' b=none)/\W i p H':=fun{B G} U w7=>by
    obtain⟨p,hm,w7⟩:=w7;refine⟨p,hm,i+1,B,U.unpinned.weak (by simp) λj v e=>?_,T.keep _ _ _ z λb y o e=>(U.pin (b,o) (List.mem_append_right _ (List.mem_append_right _ (Cf y e)))).1,λb y=>?_,w7⟩
    ·by_cases hj:i1=j
     ·subst hj;rw[hσ]at e;cases e
     ·rw[List.getElem?_set_ne hj];exact e
    ·obtain⟨o,e,d⟩:=T.obj _ _ z b y;exact(U.pin (b,o) (List.mem_append_right _ (List.mem_append_right _ (Cf y e)))).2.1
   have ga:=hg1 _ s6 _ H6 x u _ I6' r6 (show Aw i1 x σ H6 (λσ' H'=>σ'=σ.set i1 (some x)/\H'=H6)from⟨rfl,rfl⟩);rw[I]at ga;refine thn ga λ_ G l=>?_;obtain⟨σ7,B,U,e7,e7'⟩:=l;subst e7;subst e7';have ta:=ht1 _ G _ _ _ U (step x B y6);rw[I]at ta;refine thn ta λb s8 l=>?_;obtain⟨H8,I8,q8⟩:=l
   cases b with
   |false=>
    rw[if_neg Bool.false_ne_true]at q8⊢;exact back I8 q8
   |true=>
    rw[if_pos rfl]at q8⊢;have ea:=he _ s8 _ H8 _ I8 q8;rw[I]at ea;refine thn ea λv s9 l=>?_;obtain⟨x9,H9,I9,r9,ys,hD9,hz9,q9⟩:=l;have aa:=CD (X:=Y) _ s9 _ H9 (.ref D) [x9] (.ref D) [v] (λ_ H'=>∃p,p<n/\W (i+1) p H') I9 rfl (.cons r9 .nil) ⟨D,ys,x9,rfl,rfl,hD9,hz9,q9⟩;rw[I]at aa;exact thn aa λ_ s10 ⟨_,H10,I10,_,q10⟩=>back I10 q10
 exact N3 loop (T.self Y.A 0 _ _ _ P loop)
end
def Oi{use:Option (Value->Sem Unit)}
 (S:CompOk X.env.scope X.N own sel scope) (hc:X.calm=true) (hi:PI X tg iter wi)
 (h01:i0≠i1/\i0<own.length/\i1<own.length) (hg:∀cl C B L G,PG (Bd X own sel scope cl C B L G) tg (Aw i0))
 (ht:∀cl C B L G,PIf (Bd X own sel scope cl C B L G) ifs tt) (hi1:∀cl C B L G,PI (Bd X own sel scope cl C B L G) tg1 iter1 wi1) (hg1:∀cl C B L G,PG (Bd X own sel scope cl C B L G) tg1 (Aw i1)) (ht1:∀cl C B L G,PIf (Bd X own sel scope cl C B L G) ifs1 tt1) (he:∀cl C B L G,PE (Bd X own sel scope cl C B L G) elt te)
 (hs:∀x,foldedSetIterable iter X.env x=pure x) (hs1:∀cl C B L G x,foldedSetIterable iter1 (Bd X own sel scope cl C B L G).env x=pure x) {pins:List (Addr×Obj)} {s:Shared} {σ:W3} {H:Hp} {Q:VK} {ps:Pos} (I0:Inv X pins σ H s) (h:Gd own sel wi i0 tt wi1 i1 tt1 te σ H Q)
 (fin:∀ (D C:Addr) (H':Hp) (s':Shared) (m:Str->Option Value),Inv X pins σ H' s'->s'.heap.Ns C m->Far X pins H' C->Q (.ref D) H'->compPost (model X.prog X.w) X.A X.xe use Qo (.ref D) C (.ok .next) s'):
 wpAny (model X.prog X.w) X.A (comprehension (.ListComp elt [⟨tg,iter,ifs,0⟩,⟨tg1,iter1,ifs1,0⟩] scope pos) scope X.env ps (newList []) false (eval iter X.env) use) Qo X.xe s:=by
 obtain⟨cl,hclos,U,hfree⟩:=Kq (scope:=scope) (env:=X.env) λy hy e=>I0.ok.has y.1 (S.free y hy e);refine wpAny_comprehension_free (use:=use) rfl hs hclos S.kind S.names (thn (hi pins s σ H _ I0 h) λv s1 h1=>thn h1 λitv B h2=>?_);obtain⟨it,G,tn,J,L,e,I,T,st2,f2,h3⟩:=h2;subst e;clear h h1 I0;refine wpAny_newObj_type (wpAny_newFunctionEnv S.cell (by intro y hy;simp at hy) (λh1 Z P=>?_) S.kind)
 dsimp only at Z P⊢
 generalize hP:B.heap.push {cls:= .type "list",dict:=none,data:= .seq ([]:List Value).toArray}=P1 at Z P⊢;generalize hD:B.heap.objs.size=D at Z P⊢;generalize hC:P1.objs.size=C at Z P⊢;have hCD:C=D+1:=by rw[<-hC,<-hP,Heap.size_push,hD]
 have hlt:D<C:=by rw[hCD];exact Nat.lt_succ_self D
 have hDC:D≠C:=Nat.ne_of_lt hlt;have neC:∀b:Addr,b<D->b≠C:=λb l=>Nat.ne_of_lt (Nat.lt_trans l hlt);have neD:∀b:Addr,b<D->b≠D:=λb l=>Nat.ne_of_lt l;have hsD:B.heap.objs.size<=D:=Nat.le_of_eq hD;have hsC:B.heap.objs.size<=C:=Nat.le_trans hsD (Nat.le_of_lt hlt);have fresh:∀a,D<=a->L a=none:=λa ha=>I.hok.fresh (by rw[hD];exact ha);have hnD:L D=none:=fresh D (Nat.le_refl _);have hnC:L C=none:=fresh C (Nat.le_of_lt hlt);have below:∀b o,B.heap.get? b=some o->b<D:=λb o e=>by rw[<-hD];exact Heap.lt_size e
 have M:∀b o,B.heap.get? b=some o->h1.get? b=some o:=λb o e=>
  P.extBut b o (neC b (below b o e)) (Heap.get?_push_of_some _ (hP▸Heap.get?_push_of_some _ e))
 have gD:h1.get? D=some {cls:= .type "list",dict:=none,data:= .seq ([]:List Value).toArray}:=by
  refine P.extBut _ _ hDC (Heap.get?_push_of_some _ ?_);rw[<-hP,<-hD];exact Heap.get?_push_size _ rfl
 obtain⟨W,⟨m0,w0⟩,turn⟩:=h3 D hnD;have fpb:∀b∈G,b<D:=λb l=>by obtain⟨o,e,_⟩:=T.obj _ _ st2 b l;exact below b o e
 generalize hY:Bd X own sel scope cl C B L G=Y;have hg:=hg cl C B L G;have ht:=ht cl C B L G;have he:=he cl C B L G;have hi1:=hi1 cl C B L G;have hg1:=hg1 cl C B L G;have ht1:=ht1 cl C B L G;have hs1:=hs1 cl C B L G;rw[hY]at hg ht he hi1 hg1 ht1 hs1;have okY:Y.Ok:=by
  subst hY;refine⟨I.ok.mod,S.kind,I.ok.glob,I.ok.blt,?_,λx y c a b=>I.ok.inj x y c (U _ _ a) (U _ _ b),λx hx=>?_,(λ_ _ z=>nomatch z),λz=>I.ok.hd z,I.ok.frames, .inl rfl,λb l=>⟨?_,λx c e=>(f2 b l).2.2.2.2.1 x c (U _ _ e)⟩,I.bs,
   Nat.le_trans I.ok.bsz I.sz,λb o e l=>?_,λb l z=>?_,I.stack,I.stkFree⟩
  ·exact hsC
  ·have hx':(relabel scope X.env).names.lookup x=some .cell\/(relabel scope X.env).names.lookup x=some .free:=hx;have hf:scope.names.lookup x=some .free:=by
    rcases hx' with z|z
    ·rcases Dm z with q|q
     ·exact absurd rfl (S.cell _ (PySem.mem_of_lookup q))
     ·exact q
    ·rcases Dm z with q|q<;>exact q
   exact hfree _ (PySem.mem_of_lookup hf) rfl
  ·exact neC b (fpb b l)
  ·rcases(f2 b l).2.2.2.1 with z|z
   ·exact I.ok.noex b o e z
   ·exact absurd (Nat.lt_of_lt_of_le (Heap.lt_size e) (Nat.le_trans I.ok.bsz z)) (Nat.lt_irrefl _)
  ·rcases List.mem_cons.mp (I.stkSub b z)with q|q
   ·exact(f2 b l).2.1 q
   ·exact(f2 b l).2.2.1 q
 have eo:ObjOk X.prog X.w (upd L D (.lst [])) h1 D (.lst []):=⟨by decide,[],_, .nil,gD⟩;have I1:Inv Y [] (AV own sel σ) (upd L D (.lst [])) {B with heap:=h1,toks:=B.toks+([]:List (Str×Value)).length}:=by
  subst hY;refine⟨okY,rfl,I.bare,Un.laid M hsD hnD,⟨_,Z,λi x v e1 e2 e3=>?_⟩,λx c e=>?_,?_,λx c e=>?_,λp hp=>absurd (show p∈([]:List (Addr×Obj))from hp) (by simp),I.hok.laid M hsD eo,?_⟩
  ·obtain⟨k,j,ei,ej,es⟩:=Jk e2;subst ei;have e1':(own++sel.map λj=>X.N.getD j Str.empty)[own.length+k]? =some x:=e1;rw[List.getElem?_append_right (by lia),List.getElem?_map,show own.length+k-own.length=k by lia,ej]at e1';simp only[Option.map_some,Option.some.injEq]at e1';obtain⟨hj,hfx,hkd⟩:=S.seln j (List.mem_of_getElem? ej);have hN:X.N[j]? =some x:=by rw[<-e1',List.getD_eq_getElem?_getD,List.getElem?_eq_getElem hj];rfl
   rw[e1']at hkd hfx;obtain⟨m,_,hl⟩:=I.loc;obtain⟨u,r,lk⟩:=hl j x v hN es (.inr hkd);refine⟨u,r, .inr ⟨FY I.ok.kind hfx,?_⟩⟩;rcases lk with⟨z1,_⟩|⟨_,c,hc1,hc2⟩
   ·have z1':X.env.scope.names.lookup x=some .local:=z1;rcases hkd with q|q<;>(rw[z1']at q;cases q)
   ·obtain⟨c',q⟩:=hfree _ (PySem.mem_of_lookup hfx) rfl;have q2:=U _ _ q;rw[hc1]at q2
    cases q2
    exact⟨c,q,hc2.keeps M⟩
  ·obtain⟨u,z⟩:=I.cell x c (U _ _ e);exact⟨u,z.keeps M⟩
  ·show upd L D (.lst []) C=none;rw[AH (Ne.symm hDC)];exact hnC
  ·have q:=I.freeC x c (U _ _ e);obtain⟨u,o,z,_⟩:=I.cell x c (U _ _ e);rw[AH (neD c (below c o z))];exact q
  ·show(AV own sel σ).length=(own++sel.map λj=>X.N.getD j Str.empty).length;rw[Jl];simp
 have fin:∀ (σ':W3) (H':Hp) (s':Shared),Inv Y [] σ' H' s'->Q (.ref D) H'->compPost (model X.prog X.w) X.A X.xe use Qo (.ref D) C (.ok .next) s':=by
  intro σ' H' s' I' q;subst hY;obtain⟨m,hn,_⟩:=I'.loc;have J':Inv X pins σ H' s':=I.call' I'.os I'.base I'.hok I'.bare λb l=>⟨(f2 b l).2.2.2.1,(f2 b l).2.1,(f2 b l).2.2.2.2.1,(f2 b l).2.2.2.2.2⟩;refine fin D C H' s' m J' hn ⟨I'.free,Ne.symm (neC _ (by rw[<-hD];exact I.lt)),Nat.le_trans I.sz hsC,λx c e=>?_,λp hp=>?_⟩ q
  ·obtain⟨u,o,z,_⟩:=I.cell x c e;exact neC c (below c o z)
  ·exact neC p.1 (below p.1 p.2 (I.pin p hp).1)
 have stat:∀ {H':Hp},(∀b∈G,H' b=none)->∀b∈G,BM Y [] H' b:=fun{H'} hn b l=>by
  subst hY;refine⟨hn b l,neC b (fpb b l),λz=>?_, .inl l,λx c e=>(f2 b l).2.2.2.2.1 x c (U _ _ e),λp hp=>absurd (show p∈([]:List (Addr×Obj))from hp) (by simp)⟩;rcases List.mem_cons.mp (I.stkSub b z)with q|q
  ·exact(f2 b l).2.1 q
  ·exact(f2 b l).2.2.1 q
 have loop:∀s3:Shared,s3={B with heap:=h1,toks:=B.toks+([]:List (Str×Value)).length}->
  codeAny (model X.prog X.w) X.A (.compLoop (.ListComp elt [⟨tg,iter,ifs,0⟩,⟨tg1,iter1,ifs1,0⟩] scope pos) 0 (.ref it) (.ref D) (compEnvC scope cl C X.env)) (compPost (model X.prog X.w) X.A X.xe use Qo (.ref D) C) s3:=by
  rintro s3 rfl;have eP:Y.prog=X.prog:=by subst hY;rfl
  have eW:Y.w=X.w:=by subst hY;rfl
  have eA:Y.A=X.A:=by subst hY;rfl
  have eK:Y.K=X.K:=by subst hY;rfl
  have eE:Y.env=compEnvC scope cl C X.env:=by subst hY;rfl
  have eX:Y.xe=λ_ _=>False:=by subst hY;rfl
  have eC:Y.calm=true:=by subst hY;exact hc
  refine Nm (by rw[<-eE];exact hs1) (λn s'=>∃i H',Inv Y [] (AV own sel σ) H' s'/\tn i s'.heap/\(∀b∈G,H' b=none)/\W i n H') ?_ m0
   ⟨0,_,I1,T.keep _ _ _ st2 λb _ o e=>M b o e,λb l=>by rw[AH (neD b (fpb b l))];exact(f2 b l).1,w0⟩
  rintro n s4 ⟨i,H4,I4,st4,fr4,w4⟩;rcases turn i n H4 w4 with⟨stop,q⟩|⟨go,step⟩
  ·have dn:=T.done Y eP eW eK eC i [] s4 _ H4 (λ_ _=>False) I4 (stat fr4) st4 stop;rw[eA]at dn;refine thn dn λr s5 z_=>?_;obtain⟨hr,I5⟩:=z_;subst hr;exact fin _ _ _ I5 q
  ·have im:=T.item Y eP eW eK eC i [] s4 _ H4 (λ_ _=>False) I4 (stat fr4) st4 go;rw[eA]at im;refine thn im λr s5 z_=>?_;obtain⟨u,hr,h5⟩:=z_;subst hr;refine thn h5 λ_ s6 z_=>?_;obtain⟨x,H6,I6,r6,y6,st6,fr6⟩:=z_;have I6':=I6.pinned (stat fr6) (T.obj _ _ st6);have back:∀ {σ7:W3} {H7:Hp} {s7:Shared} {k:Nat},Inv Y ([]++DC G s6.heap) σ7 H7 s7->σ7.length=(AV own sel σ).length->(∀j,own.length<=j->σ7[j]? =(AV own sel σ)[j]?)->(∃m',m'<n/\W (i+1) m' H7)->
    ∃m',m'<n/\∃i H',Inv Y [] (AV own sel σ) H' s7/\tn i s7.heap/\(∀b∈G,H' b=none)/\W i m' H':=fun{σ7 H7 s7 k} I7 l7 k7 w7=>by
    obtain⟨m',hm,w7⟩:=w7;refine⟨m',hm,i+1,H7,I7.unpinned.weak l7.symm λj v e=>?_,T.keep _ _ _ st6 λb l o e=>(I7.pin (b,o) (List.mem_append_right _ (List.mem_append_right _ (Cf l e)))).1,λb l=>?_,w7⟩
    ·by_cases hj:j<own.length
     ·rw[Ei hj]at e;cases e
     ·rw[k7 j (Nat.le_of_not_lt hj)];exact e
    ·obtain⟨o,e,d⟩:=T.obj _ _ st6 b l;exact(I7.pin (b,o) (List.mem_append_right _ (List.mem_append_right _ (Cf l e)))).2.1
   have ga:=hg _ s6 _ H6 x u _ I6' r6 (show Aw i0 x (AV own sel σ) H6 (λσ' H'=>σ'=(AV own sel σ).set i0 (some x)/\H'=H6)from⟨rfl,rfl⟩);rw[eP,eW,eA,eE,eX]at ga;refine thn ga λ_ s7 z_=>?_;obtain⟨σ7,H7,I7,e7,e7'⟩:=z_;subst e7;subst e7';have l7:((AV own sel σ).set i0 (some x)).length=(AV own sel σ).length:=by simp
   have k7:∀j,own.length<=j->((AV own sel σ).set i0 (some x))[j]? =(AV own sel σ)[j]? :=λj hj=>List.getElem?_set_ne (by lia);have ta:=ht _ s7 _ _ _ I7 (step x H7 y6);rw[eP,eW,eA,eE,eX]at ta;refine thn ta λb s8 z_=>?_;obtain⟨H8,I8,q8⟩:=z_
   cases b with
   |false=>
    rw[if_neg Bool.false_ne_true]at q8⊢;exact back (k:=0) I8 l7 k7 q8
   |true=>
    rw[if_pos rfl]at q8⊢;have hn1:((AV own sel σ).set i0 (some x))[i1]? =some none:=by
     rw[List.getElem?_set_ne h01.1];exact Ei h01.2.2
    have ic:=Oc (Y:=Y) (tg:=tg) (iter:=iter) (ifs:=ifs) (scope:=scope) (pos:=pos) eX eC hi1 hg1 ht1 he I8 hn1 q8 (R:=λr s6=>r= .ok .next/\∃m',m'<n/\∃i H',Inv Y [] (AV own sel σ) H' s6/\tn i s6.heap/\(∀b∈G,H' b=none)/\W i m' H') λH9 s9 I9 q9=>⟨rfl,back (k:=0) I9 l7 k7 q9⟩;rw[eP,eW,eA,eE]at ic;exact ic
 exact codeAny_compStart_list (loop _ rfl) (T.self X.A 0 _ _ _ (T.keep _ _ _ st2 λb _ o e=>M b o e) (loop _ rfl))
def Nk{spos:Pos}
 (L:X.N.Nodup) (l:X.N[i]? =some x) (M:Loc X.env.scope x)
 (S:CompOk X.env.scope X.N own sel scope) (P:X.calm=true) (Q:PI X tg iter wi) (o:i0≠i1/\i0<own.length/\i1<own.length) (hg:∀cl C b d j,PG (Bd X own sel scope cl C b d j) tg (Aw i0))
 (ht:∀cl C b d j,PIf (Bd X own sel scope cl C b d j) ifs tt) (p:∀cl C b d j,PI (Bd X own sel scope cl C b d j) tg1 iter1 wi1) (r:∀cl C b d j,PG (Bd X own sel scope cl C b d j) tg1 (Aw i1)) (y:∀cl C b d j,PIf (Bd X own sel scope cl C b d j) ifs1 tt1) (R:∀cl C b d j,PE (Bd X own sel scope cl C b d j) elt te)
 (T:∀x,foldedSetIterable iter X.env x=pure x:=by intro _;rfl) (z:∀cl C b d j x,foldedSetIterable iter1 (Bd X own sel scope cl C b d j).env x=pure x:=by intro _ _ _ _ _ _;rfl)
 (B:swapsWith (.ListComp elt [⟨tg,iter,ifs,0⟩,⟨tg1,iter1,ifs1,0⟩] scope pos) (some (.Name x pos')) spos.line X.env=pure true:=by rfl)
 (hf:X.fn x=true\/X.env.scope.names.lookup x=some .local:=by first|exact .inl rfl|exact .inr rfl|assumption):
 PS X (.Assign [.Name x pos'] (.ListComp elt [⟨tg,iter,ifs,0⟩,⟨tg1,iter1,ifs1,0⟩] scope pos) spos) (Bb (Gd own sel wi i0 tt wi1 i1 tt1 te) (Aw i)):=by
 intro pins s σ H U I h;rw[exec_Assign_Name_used _ _ _ _ B];refine wpAny_bind (wpAny_standAt (wpAny_bind ?_));show wpAny _ X.A (do let _<-comprehension (.ListComp elt [⟨tg,iter,ifs,0⟩,⟨tg1,iter1,ifs1,0⟩] scope pos) scope X.env _ (newList []) false (eval iter X.env) (some (assign (.Name x pos') X.env))) _ _ s;refine wpAny_bind (wpAny_mono (Oi (use:=some (assign (.Name x pos') X.env)) (Qo:=λ_ G=>SP X pins U .next G) S P Q o hg ht p r y R T z I h λD C Y G m Z hn f q=>?_) (λ_ G hq=>wpAny_pure (wpAny_pure hq)) λ_ _ e=>e);show wpAny _ X.A (assign (.Name x pos') X.env (.ref D)) _ _ _;refine wpAny_assign_Name (Fl (v:=V.ref D) Z L l M rfl (λb I2 ⟨a,k,ha⟩=>?_) hf);have J:C≠a:=by
  rcases ha with rfl|ha
  ·exact f.nl
  ·exact Ne.symm (f.nc x a ha)
 exact⟨m,hn.sameBut k J,λh' k'=>⟨_,Y,I2.far f k',q⟩⟩
def WE(K:W.Frag):List V->Hp->VK->Prop:=λb H Q=>∃ (a:Addr) (ns:List Int),b=[.ref a]/\SqL K H a (ns.map V.int)/\Q (.bl (ns.any λn=>n !=0)) H
def QI(K:W.Frag)(M:X.calm=true)(P:X.K=K:=by rfl):CallR X (.builtin "any") (WE K):=by
 subst P;intro pins s σ H xs us Q I r ⟨a,ns,e,hq,q⟩;subst e;obtain⟨u,rfl,R⟩:=vals1 r
 cases R
 obtain⟨l,J,B,hz⟩:=I.list hq;obtain⟨ol,G,_⟩:=id B.isList;have S:a<s.heap.objs.size:=Heap.lt_size G;have d:=J.length;rw[List.length_map]at d;refine call_any_walk (wpAny_pyIter_list B.isList ⟨s.heap.objs.size,_,_,_,_,_,λi=>ns.getD i 0 !=0,rfl,Walks.list (A:=X.A.in1) (I.ok.hd M) s.heap.objs.size a (Nat.ne_of_lt S) l.toArray,⟨⟨_,Heap.get?_push_size _ rfl,rfl,rfl⟩,B.isList.at λo e=>Heap.get?_push_of_some _ e⟩,?_,λh' tk T=>?_⟩)
 ·intro i v s' Q' E' U p;have y:l[i]? =some v:=by simpa using U
  have j:i<ns.length:=by rw[d];exact(List.getElem?_eq_some_iff.mp y).1
  obtain⟨w',L,Y⟩:=J.get (i:=i) (x:=V.int ns[i]) (by simp[j]);rw[y]at L
  cases L
  obtain⟨t,rfl⟩:=Y;have Z:ns.getD i 0=ns[i]:=by simp[List.getD_eq_getElem?_getD,j]
  simp only[Z]at p;exact truthy_int p
 ·have e:(List.range l.toArray.size).any (λi=>ns.getD i 0 !=0)=ns.any λn=>n !=0:=by
   rw[List.size_toArray,<-d,Bool.eq_iff_iff];simp only[List.any_eq_true,List.mem_range]
   constructor
   ·rintro⟨i,j,h⟩;exact⟨ns[i],List.getElem_mem j,by simpa[List.getD_eq_getElem?_getD,j]using h⟩
   ·rintro⟨n,hn,h⟩;obtain⟨i,j,rfl⟩:=List.mem_iff_getElem.mp hn;exact⟨i,j,by simpa[List.getD_eq_getElem?_getD,j]using h⟩
  rw[e];refine⟨.bl _,H,I.kept λb o z=>T b o ?_ (Heap.get?_push_of_some _ z),rfl,q⟩;have:=Heap.lt_size z;intro zz;have hb:b=s.heap.objs.size:=by simpa using zz
  rw[hb]at this;exact absurd this (Nat.lt_irrefl _)
def A6{α:Type}:List α->List α
 |[]=>[]
 |[x]=>[x]
 |x::_::r=>x::A6 r
theorem IP:∀ (n:Nat) (a pre:List α),a.length<=n->((List.range ((a.length+1)/2)).map λk=>pre.length+2*k).filterMap (λj=>(pre++a)[j]?)=A6 a
 |_,[],pre,_=>by simp[A6]
 |_,[x],pre,_=>by simp[A6]
 |0,x::y::r,pre,h=>by simp at h
 |n+1,x::y::r,pre,h=>by
  have b:=IP n r (pre++[x,y]) (by simp at h;lia);have e:((x::y::r).length+1)/2=(r.length+1)/2+1:=by simp;lia
  rw[e,List.range_succ_eq_map,List.map_cons,List.filterMap_cons];have d:(pre++x::y::r)[pre.length+2*0]? =some x:=by simp
  rw[d];simp only[List.map_map,A6];congr 1;rw[<-b];have i:((λk=>pre.length+2*k)∘Nat.succ)=λk=>(pre++[x,y]).length+2*k:=by
   funext k;simp;lia
  rw[i,List.append_assoc]
  rfl
def RW(n:Nat):sliceRange 0 (n:Int) 2=(List.range ((n+1)/2)).map λk=>0+2*k:=by
 unfold sliceRange;have e:(if(2:Int)>0 then(if(0:Int)<(n:Int)then((n:Int)-0+2-1)/2 else 0)else(if(0:Int)>(n:Int)then(0-(n:Int)-2-1)/(-2)else 0)).toNat=(n+1)/2:=by
  rw[if_pos (by decide)]
  split<;>lia
 simp only[e];refine List.map_congr_left λk hk=>?_;lia
theorem IA:∀ (n:Nat) {a:List V} {b:List Value},a.length<=n->Vals a b->Vals (A6 a) (A6 b)
 |_,_,_,_, .nil=> .nil
 |_,_,_,_, .cons r .nil=> .cons r .nil
 |0,_,_,h, .cons r (.cons e d)=>by simp at h
 |n+1,_,_,h, .cons r (.cons e d)=> .cons r (IA n (by simp at h;lia) d)
def MC(K:W.Frag)(te d:TE):TE:=λσ H Q=>te σ H λx e=>d σ e λy a=>y= .int 2/\∃p b,x= .ref p/\SqL K a p b/\∀r,a r=none->Q (.ref r) (upd a r (.lst (A6 b)))
theorem Iu:∀ (n:Nat) (a:List α),a.length<=n->(A6 a).length<=a.length
 |_,[],_=>Nat.le_refl _
 |_,[x],_=>Nat.le_refl _
 |0,x::y::r,h=>by simp at h
 |n+1,x::y::r,h=>by have:=Iu n r (by simp at h;lia);simp[A6];lia
def Ud(K:W.Frag){st:Expr}{p2:Pos}(G:PE X e te)(J:PE X st ts)(L:X.K=K:=by rfl):PE X (.Subscript e (.Slice none none (some st) p2) pos) (MC K te ts):=by
 subst L;intro pins s σ H Q I h;refine Subscript_ (thn (G pins s σ H _ I h) λv M j=>?_);obtain⟨x,P,R,S,T⟩:=j;refine wpAny_Slice ?_;rw[evalPart_none];refine wpAny_pure (wpAny_pure ?_);rw[evalPart_some];refine thn (J pins M σ P _ R T) λu d j=>?_;obtain⟨y,U,Y,Z,q2⟩:=j;obtain⟨rfl,q⟩:=q2;obtain⟨l,rfl⟩:=Z;have z:Inv X pins σ U {d with heap:=d.heap.push {cls:= .type "slice",data:= .fields #[.none, .none, .int 2 l]}}:=Y.kept (t':=d.toks) λb ob q=>Heap.get?_push_of_some _ q;show wpAny (model X.prog X.w) X.A (subscriptTail e (.Slice none none (some st) p2) v (.ref d.heap.objs.size)) (EP X pins σ Q) X.xe {d with heap:=d.heap.push {cls:= .type "slice",data:= .fields #[.none, .none, .int 2 l]}};obtain⟨p,i,rfl,hx,q⟩:=q
 cases S
 obtain⟨a,r,ht,hz⟩:=z.list hx;have B:=r.length;refine tail_any (ops:=[.ref p, .ref d.heap.objs.size]) ht.isList.typeIs slot_list_getitem.lookup ?_ (by with_unfolding_all rfl);refine wpAny_getItem_list_slice ht.isList (Heap.IsSliceOf.new ..) .none .none (.int 2 l) (by simp) ?_ (by rw[List.size_toArray]<;>lia);have ep:slicePick a.toArray none none (some 2)=(A6 a).toArray:=by
  unfold slicePick;have e:sliceBounds none none (some 2) a.toArray.size=(0,(a.length:Int),2):=by rw[List.size_toArray];rfl
  rw[e];show((sliceRange 0 (a.length:Int) 2).filterMap _).toArray=_;rw[RW];simp only[List.getElem?_toArray];congr 1;exact IP a.length a [] (Nat.le_refl _)
 rw[ep];refine⟨.ref _,_,z.laid (o:= .lst (A6 i)) (λb ob q=>Heap.get?_push_of_some _ q) (Nat.le_refl _) ?_,rfl,q _ (z.hok.fresh (Nat.le_refl _))⟩;exact⟨Nat.le_trans (Iu i.length i (Nat.le_refl _)) hz,_,0,IA i.length (Nat.le_refl _) r,Heap.get?_push_size _ rfl⟩
def VH(h:te σ H λx d=>ts σ d λy a=>y= .int 2/\∃p b,x= .ref p/\SqL K a p b/\∀r,a r=none->Q (.ref r) (upd a r (.lst (A6 b)))):MC K te ts σ H Q:=h
def LX(J:W4)(own:List Str)(sel:List Nat)(σ:W3)(j:Nat)(q:TT)(e:TI)(r:Nat)(h:TT)(te:TE)(Q:VK)(l:Hp):Prop:=∀D,l D=none->
 ∃W:Nat->Nat->Hp->Prop,(∃m,W 0 m (upd l D (.lst [])))/\∀i m a,W i m a->
  (J.stop i a/\Q (.ref D) a)\/(J.go i a/\∀x o,J.yld i a x o->q ((AV own sel σ).set j (some x)) o λb p=>
    if b=true then D8 D e r h te ((AV own sel σ).set j (some x)) p λv=>∃d,d<m/\W (i+1) d v
    else∃d,d<m/\W (i+1) d p)
def Rx(h:wi σ H λJ a=>LX J own sel σ i0 tt wi1 i1 tt1 te Q a):Gd own sel wi i0 tt wi1 i1 tt1 te σ H Q:=h
def P8(f:Nat->List V)
 (j:∀D a,H D=none->Same H a->a D=some (.lst ((List.range n).flatMap f))->Q (.ref D) a)
 (r:∀ (D:Addr) (i:Nat) (a:Hp) (N:Hp->Prop),H D=none->i<n->Same H a->a D=some (.lst ((List.range i).flatMap f))->(∀h,Same H h->h D=some (.lst ((List.range i).flatMap f++f i))->N h)->
   tt ((AV own sel σ).set i0 (some (.int (lo+i)))) a λb o=>if b=true then D8 D wi1 i1 tt1 te ((AV own sel σ).set i0 (some (.int (lo+i)))) o N else N o):LX (Itr lo n) own sel σ i0 tt wi1 i1 tt1 te Q H:=by
 intro D l;refine⟨λi m a=>m=n-i/\i<=n/\a D=some (.lst ((List.range i).flatMap f))/\Same H a,⟨_,rfl,Nat.zero_le _,by rw[AF];rfl,AK l _⟩,?_⟩;rintro i m v ⟨rfl,I,p,q⟩
 by_cases d:i<n
 ·refine .inr ⟨d,λx z y=>?_⟩;obtain⟨rfl,rfl⟩:=y;refine r D i z _ l d q p λh B G=>⟨n-(i+1),by lia,rfl,d,?_,B⟩;rw[G,List.range_succ,List.flatMap_append];simp
 ·have e:i=n:=by lia
  subst e;exact .inl ⟨Nat.le_refl _,j D v l q p⟩
def Pq{a:Addr}{ys:List V}{N:Hp->Prop}(f:V->V)(J:H a=some (.lst xs))(B:a≠D)(L:H D=some (.lst ys))(S:ys.length+xs.length<=sizeLine)
 (M:∀ (i:Nat) (x:V) (h:Hp) (R:V->Hp->Prop),xs[i]? =some x->SameBut1 D H h->R (f x) h->te (σ.set i1 (some x)) h R)
 (fin:∀j,SameBut1 D H j->j D=some (.lst (ys++xs.map f))->N j):
 ∃W:Nat->Nat->Hp->Prop,(∃m,W 0 m H)/\∀i m d,W i m d->
  ((Itl K a).stop i d/\N d)\/((Itl K a).go i d/\∀x r,(Itl K a).yld i d x r->tYes (σ.set i1 (some x)) r λb I=>
    if b=true then te (σ.set i1 (some x)) I λv j=>∃ys,j D=some (.lst ys)/\ys.length<sizeLine/\∃l,l<m/\W (i+1) l (upd j D (.lst (ys++[v])))
    else∃l,l<m/\W (i+1) l I):=by
 refine⟨λi m h=>m=xs.length-i/\i<=xs.length/\h D=some (.lst (ys++(xs.take i).map f))/\SameBut1 D H h,⟨_,rfl,Nat.zero_le _,by rw[L];simp,SameBut1.refl _ _⟩,?_⟩;rintro i m d ⟨rfl,T,G,z⟩;have q:SqL K d a xs:=SqL.of (z _ _ J B)
 by_cases o:i<xs.length
 ·refine .inr ⟨⟨xs,xs[i],q,List.getElem?_eq_getElem o⟩,λx r y=>?_⟩;obtain⟨rfl,P⟩:=y;have p:=P _ q;refine Lh ?_;rw[if_pos rfl];refine M i x r _ p z ⟨_,G,by simp;lia,xs.length-(i+1),by lia,rfl,o,?_,z.trans SameBut1.upd⟩;rw[AF,List.take_add_one,p];simp
 ·have e:i=xs.length:=by lia
  subst e;rw[List.take_length]at G;exact .inl ⟨⟨_,q,Nat.le_refl _⟩,fin d z G⟩
end L2
namespace BrS
variable{r:Addr}{L:List (List Int)}
inductive spMayOpen (K:W.Frag) (vs:List V) (H:Hp) (Q:VK) (E:XK):Prop
 |mk (p:Addr) (l:List Int) (_:vs=[.ref p]) (_:H p=some (iL l)) (_:∀H',Same H H'->Q (.bl ((A6 l).any λn=>n !=0)) H')
theorem Ir{β:Type}(f:α->β):∀ (n:Nat) (l:List α),l.length<=n->A6 (l.map f)=(A6 l).map f
 |_,[],_=>rfl
 |_,[x],_=>rfl
 |0,x::y::r,h=>by simp at h
 |n+1,x::y::r,h=>by simp only[List.map_cons,A6];rw[Ir f n r (by simp at h;lia)]
def Jo(f:Nat->List Int)(n:Nat):(List.range n).flatMap (λi=>(f i).map V.int)=((List.range n).flatMap f).map V.int:=by rw[List.map_flatMap]
structure PlA (H H':Hp) (r:Addr) (ad:Nat->Addr) (L:List (List Int)):Prop where
 fr:H r=none
 fa:∀i,i<L.length->H (ad i)=none
 top:H' r=some (.lst ((List.range L.length).map λi=>V.ref (ad i)))
 row:∀i,i<L.length->H' (ad i)=some (iL (L.getD i []))
 sm:Same H H'
def PlA.pls(h:PlA H H' r ad L):Pls H' r L:=⟨ad,h.top,h.row⟩
def PlA.push{H2:Hp}(h:PlA H H' r ad L)(s:Same H' H2)(j:H' p=none)(gp:H2 p=some (iL ns)):
 PlA H (upd H2 r (.lst (((List.range L.length).map λi=>V.ref (ad i))++[V.ref p]))) r (λi=>if i<L.length then ad i else p) (L++[ns]):=by
 have q:p≠r:=λz=>by rw[z,h.top]at j;cases j
 have v:∀i,i<L.length->ad i≠r:=λi d z=>by
  have a:=h.row i d;rw[z,h.top]at a;injection a with a
  injection a with a
  have x:=congrArg List.length a;simp only[List.length_map,List.length_range]at x;have l:((List.range L.length).map λi=>V.ref (ad i))[0]? =((L.getD i []).map V.int)[0]? :=by rw[a]
  rw[List.getElem?_map,List.getElem?_map,List.getElem?_range (by lia),List.getElem?_eq_getElem (by lia)]at l;simp at l
 refine⟨h.fr,λi d=>?_,?_,λi d=>?_,λb o z=>?_⟩
 ·by_cases c:i<L.length
  ·rw[if_pos c];exact h.fa i c
  ·rw[if_neg c];exact h.sm.free j
 ·rw[AF,List.length_append,List.length_singleton,List.range_succ,List.map_append];have y:((List.range L.length).map λi=>V.ref (if i<L.length then ad i else p))=(List.range L.length).map λi=>V.ref (ad i):=List.map_congr_left λi d=>by rw[if_pos (List.mem_range.mp d)]
  rw[y];simp
 ·by_cases c:i<L.length
  ·simp only[if_pos c];rw[AH (v i c),s _ _ (h.row i c),List.getD_eq_getElem?_getD,List.getD_eq_getElem?_getD,List.getElem?_append_left c]
  ·have e:i=L.length:=by simp at d;lia
   subst e;simp only[Nat.lt_irrefl,if_false];rw[AH q,gp,List.getD_eq_getElem?_getD,List.getElem?_append_right (Nat.le_refl _)];simp
 ·rw[AH (AM z h.fr)];exact s _ _ (h.sm b o z)
def hdv:List Int->V
 |[]=> .non
 |x::_=> .int x
end BrS
namespace L2
variable{vs:List (Key×Value)}{xss:List (List Nat)}{c:List Nat}{ks:List Str}{R:List Value->Shared->Prop}{κ:Type}{Q:VK}
def Dh{κ:Type}[DecidableEq κ](kvs more:List (κ×V)):List (κ×V):=more.foldl (λa b=>putK a b.1 b.2) kvs
theorem KV.mrg[DecidableEq κ]:∀ {more:List (κ×V)} {a:List (κ×Value)} {kvs:List (κ×V)} {vs:List (κ×Value)},KV more a->KV kvs vs->KV (Dh kvs more) (merged vs a)
 |[],[],_,_,_,h=>h
 |[],_::_,_,_,r,_=>by cases r
 |_::_,[],_,_,r,_=>by cases r
 |(k,x)::more,(k2,u)::a,kvs,vs,r,h=>by
  cases r with
  |cons b d=>
   obtain⟨e,i⟩:=b;have e:k=k2:=e;subst e;exact KV.mrg (kvs:=putK kvs k x) (vs:=stored vs k u) d (KV.put h k i)
theorem Je[DecidableEq κ]:∀ (more a:List (κ×V)),(Dh a more).length<=a.length+more.length
 |[],_=>Nat.le_refl _
 |(k,x)::more,a=>by
  have b:=Je more (putK a k x);have d:=EW a k x;show(Dh (putK a k x) more).length<=_;rw[List.length_cons];lia
def rUpd:V->List V->Hp->VK->Prop:=λx vs H Q=>∃d e a more,x= .ref d/\vs=[.ref e]/\d≠e/\H d=some (.dK a)/\Rd H e (.dK more)/\a.length+more.length<=sizeLine/\Q .non (upd H d (.dK (Dh a more)))
def Pa:MtM X "dict.update" rUpd:=by
 intro pins s σ H x vs v Z Q I L M h;obtain⟨d,e,l,more,rfl,rfl,o,G,P,J,q⟩:=h
 cases L
 obtain⟨u,rfl,R⟩:=M.one
 cases R
 obtain⟨z1,p,r,a,i⟩:=FM I.hok G;obtain⟨z2,y,z,b,B⟩:=Cu I.hok P;refine call_meetsIn PySem.F.slot_dict_update i.typeIs PySem.F.entry_dict_update (PySem.F.args_dict_update_2 _ _) (meets_dict_update (An X.prog X.w) d e o y)
  ⟨r,z,i,B,by rw[<-a.length,<-b.length];exact J,λS j _ T=>?_⟩
 have U:∃q,S.get? d=some q:=let⟨q,_,_,Y,_⟩:=j;⟨q,Y⟩;exact⟨.non,_,D4 (t':=s.toks) I (by rw[G];exact True.intro) T U (FE (Nat.le_trans (Je more l) J) p (KV.mrg b a) j),rfl,q⟩
def NZ{s:Shared}{d:Addr}(hd:(d==sysModules)=false)(P:A.handled=none)
 (H:s.heap.DictAt (An prog w) d vs ep) (Q:vs.length<=sizeLine)
 (q:∀h p J,s.heap.objs.size<=h.objs.size->(∀b o,s.heap.get? b=some o->h.get? b=some o)->J.length=vs.length->(∀ (j:Nat) (v:Value),J[j]? =some v->∃k x,vs[j]? =some (k,x)/\(An prog w).is k v=true)->R J {s with heap:=h,toks:=p}):
 wpAny (model prog w) A (collect (.ref d)) R E s:=by
 have z:=W.kdl_dict (knd:=An prog w) (kvs:=vs) (ep:=ep) hd;have I:=(z.there _ H).1;unfold collect;refine wpAny_bind (wpAny_runValue (codeAny_builtin F.entry_proto_collect ?_));rw[Around.under_plainId F.plain_proto_collect _];show wpAny _ A.in1 (newList []>>=λl=>again (.builtin "list.__iadd__" ⟨[l, .ref d],[]⟩)) _ _ s;refine wpAny_bind (wpAny_newObj_type (wpAny_pure ⟨plainId_quiet F.plain_list_iadd _,codeAny_builtin F.entry_list_iadd ?_⟩));rw[Around.under_plainId F.plain_list_iadd _];have S:(s.heap.push {cls:= .type "list",data:= .seq ([]:List Value).toArray}).get? s.heap.objs.size=some {cls:= .type "list",data:= .seq #[]}:=Heap.get?_push_size _ rfl;show wpAny _ A.in1 (Builtin.List.listExtendWith (.ref s.heap.objs.size) (.ref d) (.ref s.heap.objs.size)) _ _ _
 let R0:Result->Shared->Prop:=λr L=>∃h p a c,r= .ok (.ret (.ref s.heap.objs.size))/\L={s with heap:=h,toks:=p}/\(∀b o,s.heap.get? b=some o->h.get? b=some o)/\
  h.get? s.heap.objs.size=some {cls:= .type "list",dict:=none,data:= .seq a c,slots:= #[]}/\ItemsOf (λi v=>∃k x,vs[i]? =some (k,x)/\(An prog w).is k v=true) a vs.length
 refine wpAny_mono (W.kdl_extend (A:=A) (s:={s with heap:=s.heap.push {cls:= .type "list",data:= .seq ([]:List Value).toArray}}) (R:=R0) z P (z.keep _ _ H λb _ o e=>Heap.get?_push_of_some _ e)
  s.heap.objs.size (Nat.ne_of_gt I) (Nat.ne_of_gt I) (.ref s.heap.objs.size) 0 S
  (λh p a c hk B G=>⟨h,p,a,c,rfl,rfl,λb o e=>hk b o (Nat.ne_of_lt (Heap.lt_size e)) (Heap.get?_push_of_some _ e),B,G⟩) Q) (λfin L x=>?_) λe L x=>?_
 ·cases fin with
  |done f=>
   obtain⟨h,p,a,c,e,rfl,hk,B,G⟩:=x
   cases e
   refine wpAny_bind (wpAny_load B (wpAny_pure (q h p a.toList (Nat.le_of_lt (Heap.lt_size B)) hk (by rw[Array.length_toList];exact G.1) λj v M=>G.2 j v (by rw[<-Array.getElem?_toList];exact M))))
  |again U=>
   refine⟨x.1,codeAny_mono x.2 λr Y y=>?_⟩;obtain⟨h,p,a,c,rfl,rfl,hk,B,G⟩:=y;refine wpAny_bind (wpAny_load B (wpAny_pure (q h p a.toList (Nat.le_of_lt (Heap.lt_size B)) hk (by rw[Array.length_toList];exact G.1) λj v M=>G.2 j v (by rw[<-Array.getElem?_toList];exact M))))
 ·obtain⟨_,_,_,_,T,_⟩:=x
  cases T
theorem IT:∀ {a:List Value} {ss:List Str},StrsAre a ss->Vals (ss.map λx=>tx x.cps.toList) a
 |_,_, .nil=> .nil
 |_,_, .cons x t h=> .cons ⟨t,rfl⟩ (IT h)
def StrsAre.at:∀ {vs:List Value},vs.length=ks.length->(∀ (j:Nat) (v:Value),vs[j]? =some v->∃ (k:Str) (t:Tok),ks[j]? =some k/\v= .str k t)->StrsAre vs ks:=by
 induction ks with
 |nil=>intro vs h _;match vs,h with|[],_=>exact .nil
 |cons k ks b=>
  intro vs h a
  match vs,h with
  |v::vs,h=>
   obtain⟨l,t,e,d⟩:=a 0 v rfl
   cases e
   subst d;exact .cons k t (b (by simpa using h) λj v i=>a (j+1) v i)
def UV(K:W.Frag):List V->Hp->VK->Prop:=λh H Q=>∃ (d:Addr) (a:List (Key×V)) (b:List Str),h=[.ref d]/\Rd H d (.dK a)/\a.map (·.1)=b.map Sum.inr/\b.length<64/\
 ∀ (p:Addr) (e:List Str),H p=none->e.Perm b->sortedS e=true->Q (.ref p) (upd H p (.lst (e.map λx=>tx x.cps.toList)))
def Fi(K:W.Frag)(hc:X.calm=true)(hK:X.K=K:=by rfl):CallR X (.builtin "sorted") (UV K):=by
 subst hK;intro pins s σ H xs us Q I rv ⟨d,kvs,ss,e,hD,hks,h64,q⟩;subst e;obtain⟨u,rfl,ru⟩:=rv.one
 cases ru
 obtain⟨z,hd,vs,l,dd⟩:=Cu I.hok hD;obtain⟨ep,G⟩:=dd.dictAt;have J:kvs.length=ss.length:=by have:=congrArg List.length hks;simpa using this
 have L:vs.length=ss.length:=by rw[<-l.length];exact J
 have a:=l.keys;refine Calls.call_function_entry kind_sorted plain_sorted entry_sorted (args_sorted1 _) ?_;unfold Builtin.«sorted»;refine wpAny_bind (m:=checkCount "sorted" 1 1 _) (wpAny_pure ?_);refine wpAny_bind (NZ (A:=X.A.in1) hd (I.ok.hd hc) G (by rw[sizeLine_eq];lia) λi tk h p hk r y=>?_);have M:h.length=ss.length:=by rw[r,L]
 have P:StrsAre h ss:=StrsAre.at M λj v hv=>by
  obtain⟨k,x,hx,R⟩:=y j v hv;have h1:(vs.map (·.1))[j]? =some k:=by rw[List.getElem?_map,hx];rfl
  rw[<-a,hks,List.getElem?_map]at h1;obtain⟨kz,h2,h3⟩:=Option.map_eq_some_iff.mp h1;subst h3;obtain⟨t,et⟩:=(U1 R:∃t,v=Value.str kz t);exact⟨kz,t,h2,et⟩
 have S:h.length<64:=by lia
 refine wpAny_bind (wpAny_newList ?_ (by rw[sizeLine_eq];lia));have T:(i.push (seqObj "list" h.toArray 0)).get? i.objs.size=some (seqObj "list" h.toArray 0):=Heap.get?_push_size _ rfl;refine wpAny_bind (wpAny_holding (wpAny_call_entry slot_list_sort ⟨_,T,rfl⟩ entry_list_sort (list_sort_treeK strKind_oneLt T P.keysOf (λv₁ v₂ rest e=>keyKind_strs (by rw[<-e];exact P)) S λU hp hs=>⟨_,rfl,?_⟩) (args_list_sort _)));obtain⟨Y,a1,a2,a3⟩:=sorted_out_str P hp hs;generalize(arrOf U).map (·.2)=out at a1⊢;refine wpAny_pure ⟨_,rfl,?_⟩;obtain⟨e,he⟩:=sortedHeap_at (out:=out) T;have B:∀b o,s.heap.get? b=some o->b<i.objs.size:=λb o z=>Heap.lt_size (hk b o z);have Z:∀b o,s.heap.get? b=some o->(sortedHeap (i.push (seqObj "list" h.toArray 0)) i.objs.size h out).get? b=some o:=λb o z=>by
  have B:=B b o z;rw[sortedHeap_old (Nat.ne_of_lt B) (by rw[size_push'];exact Nat.lt_succ_of_lt B)];exact Heap.get?_push_of_some _ (hk b o z)
 have hln:Y.length<=63:=by rw[a2.length_eq];lia
 refine⟨.ref i.objs.size,_,I.laid (t':=tk) (o:= .lst (Y.map λx=>tx x.cps.toList)) Z p ⟨?_,out.toList,e,IT a1,by rw[Array.toArray_toList];exact he⟩,rfl,q _ Y (I.hok.fresh p) a2 a3⟩;rw[List.length_map,sizeLine_eq];lia
def CL(c:List Nat):List (List Nat)->List Nat
 |[]=>[]
 |[a]=>a
 |a::b::r=>a++c++CL c (b::r)
theorem Ij(c:List Nat):∀ (d:List (List Nat)),Str.join ⟨c.toArray⟩ (d.map λa=>⟨a.toArray⟩)=⟨(CL c d).toArray⟩
 |[]=>rfl
 |[a]=>by simp[Str.join,CL]
 |a::b::r=>by
  have e:=Ij c (b::r);rw[List.map_cons,List.map_cons]at*
  show(⟨a.toArray⟩:Str)++⟨c.toArray⟩++Str.join ⟨c.toArray⟩ (⟨b.toArray⟩::r.map λa=>⟨a.toArray⟩)=_;rw[e];show(⟨a.toArray++c.toArray++(CL c (b::r)).toArray⟩:Str)=_;simp[CL]
def K4(K:W.Frag):V->List V->Hp->VK->Prop:=λx vs H Q=>∃ (p:Addr) (c:List Nat) (a:List (List Nat)),x=tx c/\c.length<=16/\vs=[.ref p]/\SqL K H p (a.map tx)/\a.flatten.length+a.length<=1000000/\Q (tx (CL c a)) H
def Q0(K:W.Frag)(d:X.K=K:=by rfl):MtR X "str.join" (K4 K):=by
 subst d;intro pins s σ H x vs v J Q I i j h;obtain⟨p,c,b,rfl,l,rfl,o,L,q⟩:=h;obtain⟨t,rfl⟩:=i;obtain⟨u,rfl,y⟩:=j.one
 cases y
 obtain⟨z,r,ht,M⟩:=I.list o;have B:((b.map λa=>(⟨a.toArray⟩:Str)).map (·.length)).sum=b.flatten.length:=by
  rw[List.map_map,List.length_flatten];congr 1
 refine join_listW ht.isList (J5 r) (by rw[Az];exact l) (by rw[B,List.length_map];lia) λG k=>?_;have e:Txt.join ⟨c.toArray⟩ (b.map λa=>⟨a.toArray⟩)=⟨(CL c b).toArray⟩:=by
  show Builtin.Str.glued _ _=_;rw[StrLaws.glued_eq_join,Ij]
 rw[e];exact⟨tx (CL c b),H,I.tok k,⟨G,rfl⟩,q⟩
def Rk(a:c.length<=16)(b:SqL K H p (xss.map tx))(d:xss.flatten.length+xss.length<=1000000)(h:Q (tx (CL c xss)) H):K4 K (tx c) [.ref p] H Q:=⟨p,c,xss,rfl,a,rfl,b,d,h⟩
def Ai(n:Nat):List Nat:=(Nat.toDigits 10 n).map Char.toNat
def GS(m:Nat):PySem.Str.ofString (toString ((m:Nat):Int))=⟨(Ai m).toArray⟩:=by
 have h:=W.KIN.signs_num m
 cases e:PySem.Str.ofString (toString ((m:Nat):Int))with
 |mk a=>
  rw[e]at h;congr 1;apply Array.toList_inj.mp;rw[h];rfl
def rIntT:List V->Hp->VK->Prop:=λa H Q=>∃n:Nat,a=[tx (Ai n)]/\n<10^10/\Q (.int (n:Nat)) H
def JA:CallR X (.type "int") rIntT:=by
 intro pins s σ H b d Q I a ⟨n,e,hn,q⟩;subst e;obtain⟨u,rfl,t,rfl⟩:=a.one;have e:(⟨(Ai n).toArray⟩:Str)=PySem.Str.ofString (toString ((n:Nat):Int)):=(GS n).symm;show wpAny _ _ (call (.type "int") [.str ⟨(Ai n).toArray⟩ t]) _ _ _;rw[e];exact W.KIN.call_num (by lia) (by lia) ⟨.int (n:Nat),H,I.tok _,⟨_,rfl⟩,q⟩
def Gj(a:n<10^10)(q:Q (.int (n:Nat)) H):rIntT [tx (Ai n)] H Q:=⟨n,rfl,a,q⟩
def SM{k:Nat}{ps:List Str}{p:Pos}(U:MkU X.prog X.w X.K X.mg X.base k C ps sp)(b:Room k X.A)(d:X.mg x=some (.ref C))(hg:Gl X x:=by rfl)(a:(x==("__debug__":Str))=false:=by decide):PE X (.Call (.Name x p) [] [] pos) (EG C sp [] E0 tNil):=
 let⟨_,_,_,e,F,M,h⟩:=U.ex;Qq M F (b.mono e) hg d h .nil DY a
section
variable{td ty:TE}
def UK(h:td σ H λx d=>∃a,x= .ref a/\IsD d a/\ty σ d λy e=>∃b k v,e a=some (.dK b)/\y=kV k/\AY b k=some v/\Q v (upd e a (.dK (DI b k)))):Kz td ty σ H Q:=h
end
def Jd(n:Nat):∀c∈Ai n,48<=c/\c<=57:=by
 intro c b;obtain⟨d,a,e⟩:=List.mem_map.mp b;have r:=digit_range (Nat.isDigit_of_mem_toDigits (by decide) (by decide) a);rw[<-e];exact r
def Sf(n:Nat):Ai n≠[]:=by
 intro e;have h:=toDigits_len_ge 10 n;rw[List.map_eq_nil_iff.mp e]at h;exact absurd h (by decide)
def Dp(h:n<10):Ai n=[48+n]:=by
 unfold Ai;rw[Nat.toDigits_of_lt_base h];have:∀d:Nat,d<10->(Nat.digitChar d).toNat=48+d:=by decide
 simp[this n h]
def Ie(h:10<=n):Ai n=Ai (n/10)++Ai (n%10):=by
 have a:n%10<10:=Nat.mod_lt n (by decide);have t:Nat.toDigits 10 (n/10)++Nat.toDigits 10 (n%10)=Nat.toDigits 10 (10*(n/10)+n%10):=Nat.toDigits_append_toDigits (by decide) (by lia) a;rw[Nat.div_add_mod]at t;unfold Ai;rw[<-t,List.map_append]
def F4:∀ (m n:Nat),n<10^(m+1)->(Ai n).length<=m+1:=by
 intro m
 induction m with
 |zero=>intro n h;rw[Dp (by lia)];simp
 |succ m a=>
  intro n h
  by_cases b:n<10
  ·rw[Dp b];simp
  ·rw[Ie (by lia),List.length_append,Dp (Nat.mod_lt n (by decide))];have:=a (n/10) (by rw[Nat.pow_succ]at h;lia);simp only[List.length_cons,List.length_nil];lia
end L2
namespace BrB
def cl:List Nat->Nat->Option (List Nat)
 |[],_=>none
 |p::s,q=>if p=q then some s else none
def nx(k:Nat)(st:List Nat)(b:Nat):Option (List Nat):=if b<2*k then(if b%2=0 then some (b/2::st)else cl st (b/2))else none
def go(k:Nat):List Nat->List Nat->Option (List Nat)
 |st,[]=>some st
 |st,b::r=>(nx k st b).bind λs=>go k s r
abbrev O:=Option (Int×List Nat)
def lik:O->O->O
 |none,b=>b
 |some a,none=>some a
 |some (x,l),some (y,m)=>if x=y then(if l<m then some (x,l)else some (y,m))else if x>y then some (x,l)else some (y,m)
def beh:O->O->O
 |some (x,l),some (y,m)=>some (x*y,l++m)
 |_,_=>none
def rnd:O->O->O
 |some (x,l),some (y,m)=>some (x*y,[l.getD 0 0]++m++[l.getD 1 0])
 |_,_=>none
end BrB
open BrB
namespace PySem.SeqAt
open PySem.AutoSeq1 (wpAny_loadPart')
open MeetsSeq MeetsSeq2 MeetsSeq3 SeqRoads2
variable{e:Nat->Bool}
def Pe(l b:Addr)(items items2:Array Value)(n Q:Nat)(dd L:Option Addr)(S M:Array (Option Value))(e:Nat->Bool)(j:Nat)(x y:Int)(t u:Tok)(H:items[j]? =some (.int x t))(I:items2[j]? =some (.int y u))(T:e j=false)(k:Nat):
 ∀i:Nat,j-i=k->i<=j->(∀m,i<=m->m<j->e m=true)->Meets (Builtin.«list.__eq__.loop» ⟨[.ref l, .ref b,rawInt i,rawInt 0],[]⟩)
  (λA R s=>s.heap.get? l=some {cls:= .type "list",dict:=dd,data:= .seq items n,slots:=S}/\s.heap.get? b=some {cls:= .type "list",dict:=L,data:= .seq items2 Q,slots:=M}/\
    (∀j (H:j<items.size) (I:j<items2.size),EqAt A.in1 s items[j] items2[j] (e j))/\
    R (.ok (.ret (.bool (decide (x<y))))) s):=by
 have U:j<items.size:=(Array.getElem?_eq_some_iff.mp H).1;have X:j<items2.size:=(Array.getElem?_eq_some_iff.mp I).1
 induction k with
 |zero=>
  intro i hk P r prog w A R s h;obtain⟨Y,g,d,Z,os⟩:=s;obtain⟨v,z,J,h⟩:=h;have:i=j:=by lia
  subst this
  wp_walk using wpAny_loadPart' v,wpAny_loadPart' z
  have o:items[((i:Nat):Int).toNat]? =some (.int x t):=by simpa using H
  have p:items2[((i:Nat):Int).toNat]? =some (.int y u):=by simpa using I
  have g1:items[i]= .int x t:=(Array.getElem?_eq_some_iff.mp H).2;have g2:items2[i]= .int y u:=(Array.getElem?_eq_some_iff.mp I).2;rw[o,p];have B:=J i U X;rw[g1,g2]at B;refine wpAny_bind (B prog w _ _ ?_);rw[T]
  wp_walk using wpAny_loadPart' v,wpAny_loadPart' z
  rw[o,p];show wpAny _ _ (compareOp .Lt (.int x t) (.int y u)>>=_) _ _ _;refine wpAny_bind (PyProof.Rows.lt_int ?_);exact wpAny_pure h
 |succ k ih=>
  intro i hk P r prog w A R s h;obtain⟨Y,g,d,Z,os⟩:=s;obtain⟨v,z,J,h⟩:=h
  wp_walk using wpAny_loadPart' v,wpAny_loadPart' z
  have G:i<items.size:=by lia
  have q:i<items2.size:=by lia
  have o:items[((i:Nat):Int).toNat]? =some items[i]:=by simp[G]
  have p:items2[((i:Nat):Int).toNat]? =some items2[i]:=by simp[q]
  have hc:((i:Int)+1)=((i+1:Nat):Int):=by push_cast;rfl
  rw[o,p];refine wpAny_bind (J i G q prog w _ _ ?_);rw[r i (Nat.le_refl _) (by lia)]
  wp_walk
  rw[hc];exact⟨plainId_quiet plain_eq_loop _,codeAny_builtin entry_eq_loop (by
   rw[Around.under_plainId plain_eq_loop _];exact ih (i+1) (by lia) (by lia) (λm a b=>r m (by lia) b) prog w A R _ ⟨v,z,J,h⟩)⟩
def Pg(l b:Addr)(items items2:Array Value)(n p:Nat)(dd a:Option Addr)(q i:Array (Option Value))(e:Nat->Bool)(j:Nat)(x y:Int)(t u:Tok)(r:items[j]? =some (.int x t))(v:items2[j]? =some (.int y u))(G:e j=false)(o:∀m,m<j->e m=true):
 Meets (Builtin.«list.__lt__» ⟨[.ref l, .ref b],[]⟩)
  (λA R s=>s.heap.get? l=some {cls:= .type "list",dict:=dd,data:= .seq items n,slots:=q}/\s.heap.get? b=some {cls:= .type "list",dict:=a,data:= .seq items2 p,slots:=i}/\
    (∀j (r:j<items.size) (v:j<items2.size),EqAt A.in1 s items[j] items2[j] (e j))/\
    R (.ok (.ret (.bool (decide (x<y))))) s):=by
 intro prog w A R s h;obtain⟨I,g,d,J,os⟩:=s;obtain⟨z,B,H,h⟩:=h;have L:=AutoSeq1.sub_list_list
 wp_walk using wpAny_loadPart' z,wpAny_loadPart' B
 exact⟨plainId_quiet plain_eq_loop _,codeAny_builtin entry_eq_loop (by
  rw[Around.under_plainId plain_eq_loop _];exact Pe l b items items2 n p dd a q i e j x y t u r v G _ 0 rfl (Nat.zero_le _) (λm _ b=>o m b) prog w A R _ ⟨z,B,H,h⟩)⟩
section
variable{s:Shared}
def lt_listAt{l:Addr}{items items2:Array Value}{x y:Int}{t u:Tok}(H:s.heap.IsList l items)(I:s.heap.IsList b items2)(J:A.units<cLine)
 (L:∀j (r:j<items.size) (v:j<items2.size),EqAt A.in1 s items[j] items2[j] (e j)) (r:items[j]? =some (.int x t)) (v:items2[j]? =some (.int y u)) (M:e j=false) (o:∀m,m<j->e m=true)
 (h:Q (.bool (decide (x<y))) s):wpAny (model prog w) A (compareOp .Lt (.ref l) (.ref b)) Q E s:=by
 obtain⟨⟨cls,P,data,R⟩,z,B,n,hd⟩:=id H;obtain⟨⟨G,p,data2,q⟩,a,d,S,i⟩:=id I;simp only at B hd d i;subst B hd d i;show wpAny _ _ (richCompare .Lt (.ref l) (.ref b)) Q E s;exact richCompare_meets_room (op:= .Lt) ⟨_,z,rfl⟩ ⟨_,a,rfl⟩ F.slot_list_lt F.entry_list_lt (F.args_list_lt_2 _ _) (Pg l b items items2 n S P p R q e j x y t u r v M o)
  ⟨z,a,L,show Value.bool (decide (x<y))≠Value.notImplemented/\Q (.bool (decide (x<y))) s from⟨(λx=>nomatch x),h⟩⟩ J
end
end PySem.SeqAt
namespace L2
theorem Jf:∀ {bs cs:List Nat},bs.length=cs.length->bs≠cs->∃ (j b c:Nat),bs[j]? =some b/\cs[j]? =some c/\b≠c/\(b<c↔bs<cs)/\∀m,m<j->bs.getD m 0=cs.getD m 0
 |[],[],_,h=>absurd rfl h
 |b::bs,c::cs,a,h=>by
  by_cases e:b=c
  ·subst e;obtain⟨j,x,y,d,i,l,o,p⟩:=Jf (bs:=bs) (cs:=cs) (by simpa using a) (λz=>h (by rw[z]));refine⟨j+1,x,y,d,i,l,?_,λm q=>?_⟩
   ·rw[o,List.cons_lt_cons_iff]
    constructor
    ·exact λz=> .inr ⟨rfl,z⟩
    ·rintro(z|⟨_,z⟩)
     ·exact absurd z (Nat.lt_irrefl _)
     ·exact z
   ·cases m with
    |zero=>rfl
    |succ m=>exact p m (by lia)
  ·refine⟨0,b,c,rfl,rfl,e,?_,λm q=>by lia⟩;rw[List.cons_lt_cons_iff];exact⟨.inl,λz=>z.elim id λw=>absurd w.1 e⟩
abbrev nL(bs:List Nat):List V:=bs.map λb:Nat=>V.int (b:Int)
def WD(K:W.Frag):R2:=λx y H Q=>∃a b bs cs,x= .ref a/\y= .ref b/\SqL K H a (nL bs)/\SqL K H b (nL cs)/\bs.length=cs.length/\bs≠cs/\Q (.bl (decide (bs<cs))) H
def Uk(K:W.Frag)(z:X.A.units<cLine)(B:X.K=K:=by rfl):OpR X (compareOp .Lt) (WD K):=by
 subst B;intro pins s σ H x y v u Q I G J ⟨a,b,bs,cs,d,h,q1,q2,hl,hne,q⟩;subst d h
 cases G
 cases J
 obtain⟨us,l,L,z1⟩:=I.list q1;obtain⟨ws,o,M,z2⟩:=I.list q2;obtain⟨j,m,n,p,r,h3,P,R⟩:=Jf hl hne;have S:=l.length;have T:=o.length;rw[List.length_map]at S T;obtain⟨u1,d,U,rfl⟩:=l.get (i:=j) (x:= .int (m:Int)) (by rw[List.getElem?_map,p];rfl);obtain⟨u2,h,Y,rfl⟩:=o.get (i:=j) (x:= .int (n:Int)) (by rw[List.getElem?_map,r];rfl);have fl:∀bs:List Nat,(bs.map λb:Nat=>V.int (b:Int)).all Ay=true:=λbs=>by rw[List.all_map,List.all_eq_true];intro _ _;rfl
 refine SeqAt.lt_listAt (e:=λi=>eqV ((bs.map λb:Nat=>V.int (b:Int)).getD i .non) ((cs.map λb:Nat=>V.int (b:Int)).getD i .non)) (j:=j) (x:=(m:Int)) (y:=(n:Int)) (t:=U) (u:=Y) L.isList M.isList z (GX l o (fl _) (fl _)) (by simpa using d) (by simpa using h) ?_ ?_ ?_
 ·show eqV _ _=false;rw[List.getD_eq_getElem?_getD,List.getD_eq_getElem?_getD,List.getElem?_map,List.getElem?_map,p,r];show decide ((m:Int)=(n:Int))=false;exact decide_eq_false (by lia)
 ·intro i Z;have g:=R i Z;have k1:j<bs.length:=(List.getElem?_eq_some_iff.mp p).1;have k2:j<cs.length:=(List.getElem?_eq_some_iff.mp r).1;have a1:bs[i]? =some (bs.getD i 0):=by rw[List.getD_eq_getElem?_getD,List.getElem?_eq_getElem (by lia)];rfl
  have a2:cs[i]? =some (cs.getD i 0):=by rw[List.getD_eq_getElem?_getD,List.getElem?_eq_getElem (by lia)];rfl
  show eqV _ _=true;rw[List.getD_eq_getElem?_getD,List.getD_eq_getElem?_getD,List.getElem?_map,List.getElem?_map,a1,a2,g];show decide (((cs.getD i 0:Nat):Int)=((cs.getD i 0:Nat):Int))=true;exact decide_eq_true rfl
 ·refine⟨.bl (decide (bs<cs)),H,I,?_,q⟩;show Value.bool (decide ((m:Int)<(n:Int)))=Value.bool (decide (bs<cs));congr 1;rw[decide_eq_decide,<-P];lia
def Vt(K:W.Frag)(n:Nat)(t:TGs):TG:=λv σ H Q=>∃a b,v= .ref a/\SqL K H a b/\b.length=n/\t b σ H Q
def SL(K:W.Frag){k:Nat}{t:TGs}(p:X.calm=true)(h:PGs X es t)
 (q:(assignEach es X.env).length=n:=by rfl) (d:(assignEach es X.env).findIdx? (·.1)=none:=by rfl) (x:X.K=K:=by rfl):PG X (.Tuple es k pos) (Vt K n t):=by
 subst x;intro pins s σ H v u Q I r i;obtain⟨a,y,z,B,P,i⟩:=i;subst z
 cases r
 obtain⟨j,l,ht,R⟩:=I.list B;have G:=l.length;rw[assign_Tuple];refine wpAny_bind (wpAny_standAt ?_);unfold unpack;rw[show(assignEach es X.env).length=j.toArray.size by rw[q,List.size_toArray];lia,d];refine wpAny_bind (wpAny_holding (W.kun_itemsOf (I.ok.hd p) ht.isList λJ L=>?_));have M:Inv X pins σ H {s with heap:=J}:=I.kept (t':=s.toks) λb o e=>L b o (Nat.ne_of_lt (Heap.lt_size e)) e;exact h pins _ σ H y _ Q M (by simpa using l) i
end L2
namespace BrS
variable{o:O}{v:V}
def Bt(F:Addr->Prop)(H:Hp)(v:V):O->Prop
 |none=>v= .non
 |some (w,l)=>∃T a,v= .ref T/\F T/\F a/\H T=some (.tup [.int w, .ref a])/\H a=some (.lst (nL l))
def Bt.keep{F:Addr->Prop}(h:Bt F H v o)(k:∀b x,F b->H b=some x->H' b=some x):Bt F H' v o:=by
 match o,h with
 |none,h=>exact h
 |some (w,l),⟨T,a,e,d,i,j,p⟩=>exact⟨T,a,e,d,i,k _ _ d j,k _ _ i p⟩
def Bt.same{F:Addr->Prop}(h:Bt F H v o)(s:Same H H'):Bt F H' v o:=h.keep λb x _ z=>s b x z
def Bt.imp{F G:Addr->Prop}(h:Bt F H v o)(k:∀b x,F b->H b=some x->G b):Bt G H v o:=by
 match o,h with
 |none,h=>exact h
 |some (w,l),⟨T,a,e,j,p,d,i⟩=>exact⟨T,a,e,k _ _ j d,k _ _ p i,d,i⟩
abbrev Any:Addr->Prop:=λ_=>True
inductive spLikelier (vs:List V) (H:Hp) (Q:VK) (E:XK):Prop
 |mk (v1 v2:V) (o1 o2:O) (_:vs=[v1,v2]) (_:Bt Any H v1 o1) (_:Bt Any H v2 o2) (_:(∀w l x m,o1=some (w,l)->o2=some (x,m)->l.length=m.length/\l≠m)) (_:∀v H',Same H H'->((v=v1/\lik o1 o2=o1)\/(v=v2/\lik o1 o2=o2))->Q v H')
def Sz(o:O):Prop:=∀w l,o=some (w,l)->w.natAbs<big/\l.length<=40
inductive spRound (vs:List V) (H:Hp) (Q:VK) (E:XK):Prop
 |mk (v1 v2:V) (o1 o2:O) (_:vs=[v1,v2]) (_:Bt Any H v1 o1) (_:Bt Any H v2 o2) (_:(∀w l,o1=some (w,l)->l.length=2)) (_:Sz o1) (_:Sz o2) (_:∀v H',Same H H'->Bt (λb=>H b=none) H' v (rnd o1 o2)->Q v H')
inductive spBehindO (vs:List V) (H:Hp) (Q:VK) (E:XK):Prop
 |mk (v1 v2:V) (o1 o2:O) (_:vs=[v1,v2]) (_:Bt Any H v1 o1) (_:Bt Any H v2 o2) (_:Sz o1) (_:Sz o2) (_:∀v H',Same H H'->Bt (λb=>H b=none) H' v (beh o1 o2)->Q v H')
def rwv(n:Nat)(f:Nat->V):List V:=(List.range (n+1)).map f
def KJ(n:Nat)(f:Nat->V):(rwv n f).length=n+1:=by simp[rwv]
def R3{f:Nat->V}:(rwv n f).set j v=rwv n (λx=>if x=j then v else f x):=by
 apply List.ext_getElem?;intro i;unfold rwv;rw[List.getElem?_set,List.getElem?_map,List.getElem?_map]
 by_cases e:j=i
 ·subst e
  by_cases a:j<n+1
  ·rw[List.getElem?_range a];simp[a]
  ·rw[if_pos rfl,if_neg (by simpa using a)];rw[List.getElem?_eq_none (by simpa using a)];rfl
 ·rw[if_neg e]
  by_cases b:i<n+1
  ·rw[List.getElem?_range b];simp[Ne.symm e]
  ·rw[List.getElem?_eq_none (by simpa using b)];rfl
structure Tv (H0 H1 H:Hp) (s:Addr) (ad:Nat->Addr) (n:Nat) (T:Nat->Nat->V):Prop where
 fs:H0 s=none
 fa:∀i,i<=n->H0 (ad i)=none
 ns:∀i,i<=n->ad i≠s
 inj:∀i j,i<=n->j<=n->ad i=ad j->i=j
 old:∀i,i<=n->H1 (ad i)≠none
 top:H s=some (.lst ((List.range (n+1)).map λi=>V.ref (ad i)))
 row:∀i,i<=n->H (ad i)=some (.lst (rwv n (T i)))
 sm:Same H0 H
 gr:∀b,H b=none->H1 b=none
section
variable{H0:Hp}{s:Addr}{T T':Nat->Nat->V}
def Tv.same(t:Tv H0 H1 H s ad n T)(h:Same H H'):Tv H0 H1 H' s ad n T:=⟨t.fs,t.fa,t.ns,t.inj,t.old,h _ _ t.top,λi a=>h _ _ (t.row i a),t.sm.trans h,λb z=>t.gr b (h.free z)⟩
def Tv.at(t:Tv H0 H1 H s ad n T)(a:i<=n):((List.range (n+1)).map λi=>V.ref (ad i))[i]? =some (.ref (ad i)):=by
 rw[List.getElem?_map,List.getElem?_range (by lia)];rfl
theorem Tv.set(t:Tv H0 H1 H s ad n T)(d:i<=n):Tv H0 H1 (upd H (ad i) (.lst ((rwv n (T i)).set j v))) s ad n (λa b=>if a=i then(if b=j then v else T a b)else T a b):=by
 refine⟨t.fs,t.fa,t.ns,t.inj,t.old,by rw[AH (Ne.symm (t.ns i d))];exact t.top,λa h=>?_,λb o z=>?_,λb z=>?_⟩
 ·by_cases e:a=i
  ·subst e;rw[AF,R3];simp
  ·rw[AH (λz=>e (t.inj a i h d z)),t.row a h];simp[e]
 ·rw[AH (AM z (t.fa i d))];exact t.sm b o z
 ·by_cases e:b=ad i
  ·subst e;rw[AF]at z;cases z
  ·rw[AH e]at z;exact t.gr b z
def Tv.keep(t:Tv H0 H1 H s ad n T)(a:i<=n){o:HO}(b:Addr)(x:HO)(f:H1 b=none)(z:H b=some x):(upd H (ad i) o) b=some x:=by
 have ne:b≠ad i:=λe=>t.old i a (by rw[<-e];exact f);rw[AH ne];exact z
end
def brx(l:List Nat):List Nat:=l.map λb=>brs.getD b 0
def Ft(H:Hp)(v:V):O->Prop
 |none=>v= .non
 |some (w,l)=>∃T,v= .ref T/\H T=some (.tup [.int w,tx (brx l)])
end BrS
namespace BrB
def okc(c b:Nat):Bool:=decide (c=63\/c=brs.getD b 0)
end BrB
namespace BrS
variable{co pl:Addr}{ra:List Addr}{at':Nat}
abbrev pa_(k:Nat)(a:List Nat):Nat->Nat->Int:=PP (a.map (plw (ones k)))
def W(k:Nat)(a:List Nat)(i:Nat)(st:List Nat):Int:=cv (pa_ k a) k (a.length-i) i st
def CJ(k:Nat)(a:List Nat)(st:List Nat):List Int:=(List.range (a.length+1)).map λi=>W k a i st
def KN{k:Nat}{st:List Nat}(h:i<=a.length):((CJ k a st).map V.int)[i]? =some (.int (W k a i st)):=by
 unfold CJ;rw[List.map_map,List.getElem?_map,List.getElem?_range (by lia)]
 rfl
def Bm(st:List Nat):List V:=st.reverse.map λp:Nat=>V.int (2*(p:Int)+1)
def cf(pl sm cl b:Addr)(a:Int):List (Str×V):=[("places", .ref pl),("sums", .ref sm),("at", .int a),("closings", .ref cl),("rests", .ref b)]
structure CoS (C:Addr) (H0 H:Hp) (co:Addr) (k:Nat) (a:List Nat) (at':Nat) (st:List Nat) (dx pl sm cl rs:Addr) (Hz Hb:Hp) (ad:Nat->Addr) (ra:List Addr):Prop where
 ob:H co=some (.ins C dx (cf pl sm cl rs at'))
 pls:Pls Hb pl (a.map (plw (ones k)))
 tb:Tb Hz Hb sm ad a.length (tbl (pa_ k a) k)
 keep:SameBut1 co Hb H
 nco:∀xs,Hb co≠some (.lst xs)
 ncl:Hb cl=none
 nrs:Hb rs=none
 ne:cl≠rs
 clo:H cl=some (.lst (Bm st))
 res:H rs=some (.lst (ra.map V.ref))
 ral:ra.length=st.length+1
 rows:∀ (j:Nat) x,ra[j]? =some x->H x=some (iL (CJ k a (st.drop (st.length-j))))/\x≠cl/\x≠rs
 h0:Same H0 H
 h0co:H0 co=none
 h0cl:H0 cl=none
 h0rs:H0 rs=none
 len:a.length<=40
 hk:k<=4
inductive Co (C:Addr) (H0 H:Hp) (co:Addr) (k:Nat) (a:List Nat) (at':Nat) (st:List Nat):Prop
 |mk (dx pl sm cl rs:Addr) (Hz Hb:Hp) (ad:Nat->Addr) (ra:List Addr) (_:CoS C H0 H co k a at' st dx pl sm cl rs Hz Hb ad ra)
def Co.same{H0:Hp}{k:Nat}{st:List Nat}(h:Co C H0 H co k a at' st)(s:Same H H'):Co C H0 H' co k a at' st:=by
 obtain⟨e,i,sm,cl,l,Hz,Hb,p,q,c⟩:=h;exact⟨e,i,sm,cl,l,Hz,Hb,p,q,⟨s _ _ c.ob,c.pls,c.tb,λb o z n=>s _ _ (c.keep b o z n),c.nco,c.ncl,c.nrs,c.ne,s _ _ c.clo,s _ _ c.res,c.ral,λj x d=>⟨s _ _ (c.rows j x d).1,(c.rows j x d).2⟩,c.h0.trans s,c.h0co,c.h0cl,c.h0rs,c.len,c.hk⟩⟩
section
variable{H0:Hp}{k:Nat}{st:List Nat}{dx sm cl rs:Addr}{Hz Hb:Hp}
theorem CoS.lst(c:CoS C H0 H co k a at' st dx pl sm cl rs Hz Hb ad ra)(h:Hb b=some (.lst xs)):H b=some (.lst xs):=c.keep _ _ h λz=>c.nco xs (by rw[<-z];exact h)
def CoS.tbH(c:CoS C H0 H co k a at' st dx pl sm cl rs Hz Hb ad ra):Tb (λ_=>none) H sm ad a.length (tbl (pa_ k a) k):=⟨rfl,λ_ _=>rfl,c.tb.ns,c.tb.inj,c.lst c.tb.top,λi b=>c.lst (c.tb.row i b),λ_ _ z=>nomatch z⟩
def CoS.plH(c:CoS C H0 H co k a at' st dx pl sm cl rs Hz Hb ad ra):Pls H pl (a.map (plw (ones k))):=by
 obtain⟨b,d,e⟩:=c.pls;exact⟨b,c.lst d,λi h=>c.lst (e i h)⟩
def CoS.top(c:CoS C H0 H co k a at' st dx pl sm cl rs Hz Hb ad ra):∃x,atI (ra.map V.ref) (-1)=some (.ref x)/\H x=some (iL (CJ k a st)):=by
 obtain⟨x,b⟩:∃x,ra[st.length]? =some x:=⟨_,List.getElem?_eq_getElem (by rw[c.ral];lia)⟩;refine⟨x,D6 (by rw[List.length_map,c.ral];lia) (by rw[List.length_map,c.ral,List.getElem?_map,Nat.add_sub_cancel,b];rfl),?_⟩;have:=(c.rows _ x b).1;rwa[Nat.sub_self,List.drop_zero]at this
end
def K6{ps:List (List Int)}(h:Pls H pl ps)(b:i<ps.length):∃a x,H pl=some (.lst a)/\a[i]? =some (.ref x)/\a.length=ps.length/\H x=some (iL (ps.getD i [])):=by
 obtain⟨d,e,j⟩:=h;exact⟨_,d i,e,by rw[List.getElem?_map,List.getElem?_range b];rfl,by rw[List.length_map,List.length_range],j i b⟩
def KR{ps:List (List Int)}(h:Pls H pl ps):∃a,H pl=some (.lst a)/\a.length=ps.length:=by
 obtain⟨d,b,e⟩:=h;exact⟨_,b,by rw[List.length_map,List.length_range]⟩
inductive spOpens (vs:List V) (H:Hp) (Q:VK) (E:XK):Prop
 |mk (b:Nat) (_:vs=[.int (b:Int)]) (_:Q (.bl (decide (b%2=0))) H)
def Ib{b:Nat}{Q:VK}{E:XK}(q:Q (.bl (decide (b%2=0))) H):spOpens ([.int (b:Int)]++[]) H Q E:=⟨b,rfl,q⟩
inductive spCAll (C:Addr) (vs:List V) (H:Hp) (Q:VK) (E:XK):Prop
 |mk (co:Addr) (k:Nat) (a:List Nat) (i:Nat) (st:List Nat) (H0:Hp) (_:vs=[.ref co]) (_:Co C H0 H co k a i st) (_:Q (.int (W k a 0 [])) H)
def mw(k:Nat)(a:List Nat)(i:Nat)(st:List Nat)(b:Nat):Int:=if b%2=0 then pa_ k a i b*W k a (i+1) (b/2::st)else match st with|[]=>0|o::s'=>if 2*o+1=b then pa_ k a i b*W k a (i+1) s' else 0
def stb(st:List Nat)(b:Nat):List Nat:=if b%2=0 then b/2::st else st.tail
end BrS
namespace L2
def QO{Q:VK}{a:Addr}(f v:Nat->V)(B:n<=sizeLine)(l:H a=some (.lst ((List.range n).map f)))
 (o:∀D b,H D=none->Same H b->b D=some (.lst ((List.range n).map v))->Q (.ref D) b)
 (G:∀ (i:Nat) (b:Hp) (R:V->Hp->Prop),i<n->Same H b->(∀j,Same b j->R (v i) j)->g (f i) (AV own sel σ) b λσ4 I=>te σ4 I R):BF (Itl K a) own sel σ g tYes te Q H:=by
 have J:((List.range n).map f).length=n:=by rw[List.length_map,List.length_range]
 refine Dw f B (λD i p _=>p=(List.range i).map v) (λi b h d=>⟨_,f i,SqL.of (d _ _ l),by rw[List.getElem?_map,List.getElem?_range h];rfl⟩) (λb d=>⟨_,SqL.of (d _ _ l),by rw[J];exact Nat.le_refl _⟩) (λi P x b h d y=>?_)
  (λ_ _=>rfl) (λ_ _ _ _ _ _ e _=>e) (λD p b q z _ d e=>o D b q d (by rw[z,e]))
  (λD i p b R q h z _ d e r=>G i b R h d λj L=>r _ j L (by rw[e,List.range_succ,List.map_append];rfl))
 obtain⟨rfl,M⟩:=y;have:=M _ (SqL.of (d _ _ l));rw[List.getElem?_map,List.getElem?_range h]at this;exact⟨rfl,(Option.some.inj this).symm⟩
end L2
namespace BrS
variable{ra:List Addr}{s':List Nat}
def Dr(o:Nat)(s:List Nat):Bm (o::s)=Bm s++[.int (2*(o:Int)+1)]:=by unfold Bm;rw[List.reverse_cons,List.map_append];rfl
def P9(o:Nat)(s:List Nat):atI (Bm (o::s)) (-1)=some (.int (2*(o:Int)+1)):=by rw[Dr];exact Jz _ _
def RR{xs:List α}{v:α}(h:1<xs.length)(e:xs[xs.length-2]? =some v):atI xs (-2)=some v:=by
 unfold atI ixN;rw[if_neg (by decide),if_pos (by lia)];show xs[((-2:Int)+xs.length).toNat]? =some v;rw[show((-2:Int)+(xs.length:Int)).toNat=xs.length-2 by lia];exact e
section
variable{H0:Hp}{co:Addr}{k:Nat}{st:List Nat}{dx pl sm cl rs:Addr}{Hz Hb:Hp}
def CoS.nl(c:CoS C H0 H co k a i st dx pl sm cl rs Hz Hb ad ra)(h:H b=some (.lst xs)):b≠co:=λz=>by rw[z,c.ob]at h;cases h
def CoS.at(c:CoS C H0 H co k a i st dx pl sm cl rs Hz Hb ad ra)(j:Nat):CoS C H0 (upd H co (.ins C dx (cf pl sm cl rs j))) co k a j st dx pl sm cl rs Hz Hb ad ra:=
 {ob:=AF,pls:=c.pls,tb:=c.tb,keep:=c.keep.trans SameBut1.upd,nco:=c.nco,ncl:=c.ncl,nrs:=c.nrs,ne:=c.ne
  clo:=by rw[AH (c.nl c.clo)];exact c.clo
  res:=by rw[AH (c.nl c.res)];exact c.res
  ral:=c.ral
  rows:=λn x d=>⟨by rw[AH (c.nl (c.rows n x d).1)];exact(c.rows n x d).1,(c.rows n x d).2⟩
  h0:=λb o z=>by rw[AH (AM z c.h0co)];exact c.h0 _ _ z
  h0co:=c.h0co,h0cl:=c.h0cl,h0rs:=c.h0rs,len:=c.len,hk:=c.hk}
def CoS.two(c:CoS C H0 H co k a i st dx pl sm cl rs Hz Hb ad ra)(d:List Nat)(ra':List Addr)(l:ra'.length=d.length+1)
 (p:∀ (j:Nat) x,ra'[j]? =some x->H x=some (iL (CJ k a (d.drop (d.length-j))))/\x≠cl/\x≠rs):
 CoS C H0 (upd (upd H rs (.lst (ra'.map V.ref))) cl (.lst (Bm d))) co k a i d dx pl sm cl rs Hz Hb ad ra':=
 {ob:=by rw[AH (c.nl c.clo).symm,AH (c.nl c.res).symm];exact c.ob
  pls:=c.pls,tb:=c.tb
  keep:=λb o z q=>by rw[AH (AM z c.ncl),AH (AM z c.nrs)];exact c.keep _ _ z q
  nco:=c.nco,ncl:=c.ncl,nrs:=c.nrs,ne:=c.ne
  clo:=AF
  res:=by rw[AH c.ne.symm,AF]
  ral:=l
  rows:=λj x r=>by
   obtain⟨v,e,h⟩:=p j x r;exact⟨by rw[AH e,AH h];exact v,e,h⟩
  h0:=λb o z=>by rw[AH (AM z c.h0cl),AH (AM z c.h0rs)];exact c.h0 _ _ z
  h0co:=c.h0co,h0cl:=c.h0cl,h0rs:=c.h0rs,len:=c.len,hk:=c.hk}
def CoS.push(c:CoS C H0 H co k a i st dx pl sm cl rs Hz Hb ad ra){D:Addr}{p:Nat}(d:H D=some (iL (CJ k a (p::st))))(e:D≠cl)(l:D≠rs):
 CoS C H0 (upd (upd H rs (.lst ((ra++[D]).map V.ref))) cl (.lst (Bm (p::st)))) co k a i (p::st) dx pl sm cl rs Hz Hb ad (ra++[D]):=by
 refine c.two (p::st) (ra++[D]) (by rw[List.length_append,c.ral];rfl) λj x b=>?_
 by_cases h:j<ra.length
 ·rw[List.getElem?_append_left h]at b;obtain⟨o,q⟩:=c.rows j x b;refine⟨?_,q⟩;have v:=c.ral;rw[o,List.length_cons,show st.length+1-j=(st.length-j)+1 by lia,List.drop_succ_cons]
 ·rw[List.getElem?_append_right (by lia)]at b;have r:j=ra.length:=by
   have:=(List.getElem?_eq_some_iff.mp b).1;simp at this;lia
  subst r;rw[Nat.sub_self]at b;have b:D=x:=Option.some.inj b;subst b;rw[c.ral,List.length_cons,Nat.sub_self,List.drop_zero];exact⟨d,e,l⟩
def CoS.pop{o:Nat}(c:CoS C H0 H co k a i (o::s') dx pl sm cl rs Hz Hb ad ra):
 CoS C H0 (upd (upd H rs (.lst (ra.dropLast.map V.ref))) cl (.lst (Bm s'))) co k a i s' dx pl sm cl rs Hz Hb ad ra.dropLast:=by
 have b:=c.ral;rw[List.length_cons]at b;refine c.two s' ra.dropLast (by rw[List.length_dropLast,b];lia) λj x d=>?_;have e:j<ra.dropLast.length:=(List.getElem?_eq_some_iff.mp d).1;rw[List.length_dropLast,b]at e;rw[List.getElem?_dropLast,if_pos (by lia)]at d;obtain⟨h,l⟩:=c.rows j x d;refine⟨?_,l⟩;rw[h,List.length_cons,show s'.length+1-j=(s'.length-j)+1 by lia,List.drop_succ_cons]
end
def brt(bs:List Nat):List Nat:=bs.map λb=>brs.getD b 0
end BrS
namespace L2
variable{S:Hp->Prop}{b:List Nat}{R:Str->Str->Prop}
section
variable{Q:VK}
def Tx{ta:TA}{R:W4->Hp->Prop}(h:ta σ H λvs a=>∃x y,vs=[.str x, .str y]/\R (IzS x y) a):MW ta σ H R:=h
def Tu(h:R ⟨a.toArray⟩ ⟨b.toArray⟩):∃x y,[tx a,tx b]=[.str x, .str y]/\R x y:=⟨_,_,rfl,h⟩
def RK(R:b.length=a.length)(S:a.length<=sizeLine)(Pv:Addr->Nat->List V->Hp->Prop)(h0:∀D,H D=none->Pv D 0 [] (upd H D (.lst [])))
 (q:∀D e h,H D=none->h D=some (.lst e)->Pv D a.length e h->Q (.ref D) h)
 (L:∀D i c d T e l h,H D=none->a[i]? =some c->b[i]? =some d->i<a.length->h D=some (.lst e)->e.length<=i->Pv D i e l->Same l h->h T=some (.tup [tx [c],tx [d]])->g (.ref T) (AV own sel σ) h λσ4 M=>tt σ4 M λb B=>
   if b=true then te σ4 B λv G=>∃e,G D=some (.lst e)/\e.length<sizeLine/\∃j,j<a.length-i/\CW D a.length (Pv D) (i+1) j (upd G D (.lst (e++[v])))
   else∃j,j<a.length-i/\CW D a.length (Pv D) (i+1) j B):BF (IzS ⟨a.toArray⟩ ⟨b.toArray⟩) own sel σ g tt te Q H:=by
 refine CS (n:=a.length) Pv h0 (λD i e h o I _ p=>by simp only[IzS,List.size_toArray];lia) (λD e h o r _ p=>⟨by simp[IzS],q D e h o r p⟩) (λD i e l x U o I r z p y=>?_);obtain⟨T,c,d,J,P,hd,rfl,rfl⟩:=y;exact L D i c d T e l _ o (by simpa using P) (by simpa using hd) I (AK J _ _ _ r) z p (AK J _) AF
def QK{R:V->Hp->Prop}:(fun(σ4:W3) (a:Hp)=>tYes σ4 a λb d=>if b=true then te σ4 d R else S d)=λσ4 a=>te σ4 a R:=by
 funext σ4 a
 exact propext ⟨λz=>by have e:=z;simp only[tYes]at e;simpa using e,λz=>by show tYes _ _ _;simp only[tYes];simpa using z⟩
def JK(v:Nat->Nat->V)(P:b.length=a.length)(I:a.length<=sizeLine)(p:∀D h,H D=none->Same H h->h D=some (.lst ((List.range a.length).map λi=>v (a.getD i 0) (b.getD i 0)))->Q (.ref D) h)
 (S:∀ (i c d:Nat) (T:Addr) (h:Hp) (R:V->Hp->Prop),a[i]? =some c->b[i]? =some d->Same H h->h T=some (.tup [tx [c],tx [d]])->(∀q,Same h q->R (v c d) q)->g (.ref T) (AV own sel σ) h λσ4 U=>te σ4 U R):BF (IzS ⟨a.toArray⟩ ⟨b.toArray⟩) own sel σ g tYes te Q H:=by
 refine RK P I (λD i r h=>Same H h/\r=(List.range i).map λi=>v (a.getD i 0) (b.getD i 0)) (λD j=>⟨AK j _,rfl⟩) (λD r h j y ⟨l,e⟩=>p D h j l (by rw[y,e])) ?_;rintro D i c d T r H1 X j J hd Y B G ⟨l,e⟩ L Z;have hv:v (a.getD i 0) (b.getD i 0)=v c d:=by rw[List.getD_eq_getElem?_getD,List.getD_eq_getElem?_getD,J,hd];rfl
 rw[QK];refine S i c d T X _ J hd (l.trans L) Z λq M=>?_;refine B6 Y I (M _ _ B) G ⟨λx o z=>?_,?_⟩
 ·rw[AH (AM z j)];exact M _ _ (L _ _ (l _ _ z))
 ·rw[e,List.range_succ,List.map_append,List.map_singleton,hv]
end
end L2
namespace BrS
def Ks{b:Nat}(h:b<8):brs[b]? =some (brs.getD b 0):=by
 match b,h with
 |0,_=>rfl
 |1,_=>rfl
 |2,_=>rfl
 |3,_=>rfl
 |4,_=>rfl
 |5,_=>rfl
 |6,_=>rfl
 |7,_=>rfl
def WI(c d:Nat):inV (tx [c]) [tx [63],tx [d]]=(decide (c=63)||decide (c=d)):=by
 unfold inV;simp only[List.any_cons,List.any_nil,FD,Bool.or_false];have e:∀x:Nat,decide ([x]=[c])=decide (c=x):=λx=>by
  by_cases z:c=x
  ·subst z;rw[decide_eq_true rfl,decide_eq_true rfl]
  ·rw[decide_eq_false z,decide_eq_false (by simpa using λy=>z y.symm)]
 rw[e,e]
def Pm{k:Int}(h:AZ k a=true):∀c∈a,c∈sgn k:=λc b=>by
 unfold AZ at h;rw[Bool.and_eq_true,List.all_eq_true]at h;exact of_decide_eq_true (h.2 c b)
inductive spNeeds (vs:List V) (H:Hp) (Q:VK) (E:XK):Prop
 |mk (c b:Nat) (_:vs=[tx [c],tx [b]]) (_:∀H',Same H H'->Q (.bl (!decide (c=63\/c=b))) H')
def plc(k c:Nat):List Int:=(brs.take (2*k)).map λb=>if c=63\/c=b then 2 else 1
inductive spPlacesC (vs:List V) (H:Hp) (Q:VK) (E:XK):Prop
 |mk (k:Int) (a:List Nat) (_:vs=[.int k,tx a]) (_:1<=k) (_:k<=4) (_:a.length<=40) (_:∀r H',H r=none->Same H H'->Pls H' r (a.map (plc k.toNat))->Q (.ref r) H')
def SH{k:Nat}(h:k<=4):(plc k c).length=2*k:=by
 unfold plc;rw[List.length_map,List.length_take];show min (2*k) 8=2*k;lia
def Ub(k c:Nat):Sm (plc k c):=by
 intro v a;unfold plc at a;obtain⟨b,_,rfl⟩:=List.mem_map.mp a
 split<;>exact⟨by decide,by decide⟩
def chg:List Nat->List Nat->Nat
 |c::a,b::l=>(if okc c b=true then 0 else 1)+chg a l
 |_,_=>0
theorem Gw:∀ (a l:List Nat),chg a l<=l.length
 |[],l=>by unfold chg;exact Nat.zero_le _
 |c::a,[]=>by unfold chg;exact Nat.zero_le _
 |c::a,b::l=>by
  have:=Gw a l;unfold chg;rw[List.length_cons]
  split<;>lia
def FtC(a:List Nat)(H:Hp)(v:V):O->Prop
 |none=>v= .non
 |some (w,l)=>∃T,v= .ref T/\H T=some (.tup [.int (chg a l),tx (brx l)])
def Vs(c b:Nat):inV (tx [c]) [tx [63],tx [b]]=decide (c=63\/c=b):=by
 unfold inV;simp only[List.any_cons,List.any_nil,FD]
 by_cases a:c=63<;>by_cases d:c=b<;>simp[a,d,eq_comm]<;>lia
def Q4(a:List V)(x:V):atI (a++[x]) (-1)=some x:=D6 (by simp) (by simp)
theorem Kr:∀ (a l:List Nat),a.length=l.length->((List.range a.length).map λi=>(if okc (a.getD i 0) (l.getD i 0)=true then(0:Int)else 1)).sum=chg a l
 |[],[],_=>rfl
 |c::a,b::l,h=>by
  have d:=Kr a l (by simpa using h);rw[List.length_cons,List.range_succ_eq_map,List.map_cons,List.map_map,List.sum_cons];have e:((List.range a.length).map ((λi=>(if okc ((c::a).getD i 0) ((b::l).getD i 0)=true then(0:Int)else 1))∘Nat.succ))=(List.range a.length).map λi=>(if okc (a.getD i 0) (l.getD i 0)=true then(0:Int)else 1):=List.map_congr_left λi _=>rfl;rw[e,d,chg];show(if okc c b=true then(0:Int)else 1)+_=_
  split<;>simp
 |[],_::_,h=>by cases h
 |_::_,[],h=>by cases h
end BrS
namespace BrB
def sms(L:List Int):Int:=L.foldr (· + ·) 0
end BrB
namespace BrI
variable{P:Nat->Nat->Int}
section
variable{k:Nat}
def Of(P:Nat->Nat->Int)(k n:Nat):Nat->Nat->Nat->Int
 |0,_,_=>0
 |f+1,t,j=>(if j=n then tbl P k 0 t else 0)+sm n (λu=>tbl P k (u+1) t*(pr P k u j*sm (n+1) (λs=>Of P k n f u s*tbl P k (j+1) s)))
def Oo(P:Nat->Nat->Int)(k n t j:Nat):Int:=Of P k n (n+1) t j
def out(P:Nat->Nat->Int)(k n u j:Nat):Int:=sm (n+1) (λs=>Oo P k n u s*tbl P k (j+1) s)
end
end BrI
open BrI
namespace BrS
variable{v:Int}{f:Nat->Int}
def prs(n:Nat):List (Nat×Nat):=(List.range n).flatMap λs=>(List.range ((n-s)/2)).map λq=>(s,s+1+2*q)
def rst(P:Nat->Nat->Int)(k n s e:Nat):Int:=tbl P k (s+1) e*out P k n s e
def rw2(m:Nat)(f:Nat->Int):List V:=(List.range m).map λj=>V.int (f j)
def KL(m:Nat)(f:Nat->Int):(rw2 m f).length=m:=by simp[rw2]
def KM{m:Nat}(h:j<m):(rw2 m f)[j]? =some (.int (f j)):=by
 unfold rw2;rw[List.getElem?_map,List.getElem?_range h];rfl
def R5{m:Nat}:(rw2 m f).set j (.int v)=rw2 m (λx=>if x=j then v else f x):=by
 apply List.ext_getElem?;intro i;unfold rw2;rw[List.getElem?_set,List.getElem?_map,List.getElem?_map]
 by_cases e:j=i
 ·subst e
  by_cases a:j<m
  ·rw[List.getElem?_range a];simp[a]
  ·rw[if_pos rfl,if_neg (by simpa using a)];rw[List.getElem?_eq_none (by simpa using a)];rfl
 ·rw[if_neg e]
  by_cases b:i<m
  ·rw[List.getElem?_range b];simp[Ne.symm e]
  ·rw[List.getElem?_eq_none (by simpa using b)];rfl
def IZ{m:Nat}{g:Nat->Int}(h:∀j,j<m->f j=g j):rw2 m f=rw2 m g:=by
 unfold rw2;refine List.map_congr_left λj a=>?_;rw[h j (List.mem_range.mp a)]
structure Tw (H0 H:Hp) (s:Addr) (ad:Nat->Addr) (n m:Nat) (T:Nat->Nat->Int):Prop where
 fs:H0 s=none
 fa:∀i,i<n->H0 (ad i)=none
 ns:∀i,i<n->ad i≠s
 inj:∀i j,i<n->j<n->ad i=ad j->i=j
 top:H s=some (.lst ((List.range n).map λi=>V.ref (ad i)))
 row:∀i,i<n->H (ad i)=some (.lst (rw2 m (T i)))
 sm:Same H0 H
section
variable{H0:Hp}{s:Addr}{m:Nat}{T T':Nat->Nat->Int}
def Tw.same(t:Tw H0 H s ad n m T)(h:Same H H'):Tw H0 H' s ad n m T:=⟨t.fs,t.fa,t.ns,t.inj,h _ _ t.top,λi a=>h _ _ (t.row i a),t.sm.trans h⟩
def Tw.at(t:Tw H0 H s ad n m T)(a:i<n):((List.range n).map λi=>V.ref (ad i))[i]? =some (.ref (ad i)):=by
 rw[List.getElem?_map,List.getElem?_range a];rfl
theorem Tw.set(t:Tw H0 H s ad n m T)(d:i<n):Tw H0 (upd H (ad i) (.lst ((rw2 m (T i)).set j (.int v)))) s ad n m (λa b=>if a=i/\b=j then v else T a b):=by
 refine⟨t.fs,t.fa,t.ns,t.inj,by rw[AH (Ne.symm (t.ns i d))];exact t.top,λa h=>?_,λb o z=>?_⟩
 ·by_cases e:a=i
  ·subst e;rw[AF,R5];congr 2;refine IZ λx _=>?_
   by_cases q:x=j<;>simp[q]
  ·rw[AH (λz=>e (t.inj a i h d z)),t.row a h];congr 2;refine IZ λx _=>?_;simp[e]
 ·rw[AH (AM z (t.fa i d))];exact t.sm b o z
end
def ga(P:Nat->Nat->Int)(k n i b:Nat)(x:Nat×Nat):Int:=
 if b%2=0 then(if x.1=i then P x.1 b*P x.2 (b+1)*rst P k n x.1 x.2 else 0)else(if x.2=i then P x.1 (b-1)*P x.2 b*rst P k n x.1 x.2 else 0)
def O3(m:Nat):(List.replicate m [V.int 0]).flatten=rw2 m λ_=>0:=by
 unfold rw2
 induction m with
 |zero=>rfl
 |succ m a=>rw[List.range_succ,List.map_append,<-a,List.replicate_succ',List.flatten_append];rfl
section
variable{Q:VK}
def QM{a:Addr}(G:xs.length<=sizeLine)(l:H a=some (.lst xs))(Iv:Addr->Nat->List V->Hp->Prop)
 (h0:∀D,H D=none->Iv D 0 [] (upd H D (.lst []))) (mono:∀D i d o z,H D=none->Iv D i d o->SameBut1 D o z->Iv D i d z)
 (p:∀D d b,H D=none->b D=some (.lst d)->d.length=xs.length->Same H b->Iv D xs.length d b->Q (.ref D) b)
 (I:∀ (D:Addr) (i:Nat) (x:V) (d:List V) (b:Hp) (R:V->Hp->Prop),H D=none->xs[i]? =some x->b D=some (.lst d)->d.length=i->Same H b->Iv D i d b->(∀v q,Same b q->Iv D (i+1) (d++[v]) q->R v q)->g x (AV own sel σ) b λσ4 J=>te σ4 J R):BF (Itl K a) own sel σ g tYes te Q H:=by
 refine Dw (λi=>xs.getD i .non) G Iv (λi b j h=>⟨_,xs[i],SqL.of (h _ _ l),List.getElem?_eq_getElem j⟩) (λb h=>⟨_,SqL.of (h _ _ l),Nat.le_refl _⟩) (λi o x b j h y=>?_) h0 mono p
  (λD i d b R L j M P h e r=>?_)
 ·obtain⟨rfl,S⟩:=y;have:=S _ (SqL.of (h _ _ l));exact⟨rfl,by rw[List.getD_eq_getElem?_getD,this];rfl⟩
 ·have B:xs[i]? =some xs[i]:=List.getElem?_eq_getElem j;have T:xs.getD i .non=xs[i]:=by rw[List.getD_eq_getElem?_getD,B];rfl
  rw[T];exact I D i xs[i] d b R L B M P h e r
end
def gp(P:Nat->Nat->Int)(k n m o i b:Nat)(x:Nat×Nat):Int:=sms (((prs n).take m).map (ga P k n i b))+(if b/2<o then ga P k n i b x else 0)
end BrS
namespace L2
open PySem.SeqAt
def Sl(k:Int):Value->Bool
 | .int i _=>i==k
 |_=>false
def rIndexI:V->List V->Hp->VK->Prop:=λx vs H Q=>∃l,∃ns:List Int,∃k:Int,∃j:Nat,x= .ref l/\vs=[.int k]/\H l=some (.lst (ns.map V.int))/\ns[j]? =some k/\(∀m,m<j->ns[m]? ≠some k)/\ns.length<=1000/\Q (.int j) H
theorem J1:∀ {ns:List Int} {us:List Value},Vals (ns.map V.int) us->us.length=ns.length/\∀ (m:Nat) (h:m<us.length) (d:m<ns.length),∃t,us[m]= .int ns[m] t
 |[],_, .nil=>⟨rfl,λm h=>absurd h (Nat.not_lt_zero _)⟩
 |_::_,_, .cons r t=>by
  obtain⟨a,b⟩:=J1 t;refine⟨by simp[a],λm h d=>?_⟩
  cases m with
  |zero=>exact r
  |succ m=>exact b m (by simpa using h) (by simpa using d)
def Pb:MtM X "list.index" rIndexI:=by
 intro pins s σ H x vs v Z Q I M P h;obtain⟨l,ns,k,j,rfl,rfl,R,S,i,hz,q⟩:=h
 cases M
 obtain⟨u,rfl,T⟩:=P.one;obtain⟨t,rfl⟩:∃t,u=Value.int k t:=T;obtain⟨z,o,n,r,hl,e⟩:=I.lstM R;obtain⟨J,p⟩:=J1 r;obtain⟨a,U⟩:=List.getElem?_eq_some_iff.mp S;refine call_meets F.slot_list_index ⟨_,e,rfl⟩ F.entry_list_index (F.args_list_index_2 _ _) (list_indexAt l _ n none #[] (.int k t) (Sl k) j (by simpa[J]using a) (by lia) ?_ ?_) ⟨e,λy Y=>?_,?_⟩
 ·obtain⟨L,b⟩:=p j (by lia) a;rw[List.getElem_toArray,b,U];exact beq_self_eq_true k
 ·intro m B G;have d:m<ns.length:=by simpa[J]using B
  obtain⟨L,b⟩:=p m (by lia) d;have:=i m G;rw[List.getElem?_eq_getElem d]at this;rw[List.getElem_toArray,b];exact beq_eq_false_iff_ne.mpr λz=>this (by rw[z])
 ·obtain⟨m,B,rfl⟩:=List.getElem_of_mem (show y∈o by simpa using Y);obtain⟨L,b⟩:=p m B (by lia);rw[b];exact EqAt.int_int _ _ _ _
 ·exact⟨.int j,H,I.tok _,⟨_,rfl⟩,q⟩
def Qa{Q:VK}{l:Addr}{k:Int}(a:H l=some (.lst (ns.map V.int)))(b:ns[j]? =some k)(d:∀m,m<j->ns[m]? ≠some k)(e:ns.length<=1000)(h:Q (.int j) H):rIndexI (.ref l) [.int k] H Q:=⟨l,ns,k,j,rfl,rfl,a,b,d,e,h⟩
end L2
namespace BrS
def Qb(m:Nat)(f:Nat->Int):rw2 m f=((List.range m).map f).map V.int:=by unfold rw2;rw[List.map_map];rfl
theorem Jj(c:Int):∀ns:List Int,inV (.int c) (ns.map V.int)=decide (c∈ns)
 |[]=>by simp[inV]
 |n::ns=>by
  have a:=Jj c ns;rw[List.map_cons]
  by_cases e:c=n
  ·subst e;simp[inV,eqV]
  ·unfold inV at a⊢;rw[List.any_cons,a];simp[eqV,e,Ne.symm e]
end BrS
namespace L2
variable{x:Addr}{its:Array Value}{ys:List V}{t:TA}{ι:Type}{Q:VK}{R:XR}
def K1{ι:Type}(i:Nat)(a:ι->Addr)(sp:ι->Sp)(R:XR)(t:TA):TE:=λσ H Q=>∃j:ι,σ[i]? =some (some (.ref (a j)))/\t σ H λvs b=>sp j vs b Q (xk R σ)
def SS(i:Nat){k:Nat}{x:Str}{ps:List Str}{adr:ι->Addr}{sp:ι->Sp}{p:Pos}
 (U:∀j,∃fd,FnOk X.prog X.w X.K X.mg X.base (CXE X.prog X.w) k (adr j) fd ps (sp j)/\W.keepIn X.K (.ref (adr j))=true/\Binds X.K fd ps []) (l:Room k X.A) (o:∀e d,XF X R e d->X.xe e d) (q:PA X (e::es) t)
 (r:X.N[i]? =some x:=by rfl) (v:Vis X.env.scope x:=by first|exact Or.inl rfl|exact Or.inr (Or.inl rfl)|exact Or.inr (Or.inr rfl)) (hd:(x==("__debug__":Str))=false:=by decide) (a:(x==("__classdict__":Str))=false:=by decide)
 (y:starEach (e::es) X.env=(false,eval e X.env)::starEach es X.env:=by rfl) (b:(backTo pos (starEach es X.env)).any (·.1)=false:=by rfl):
 PE X (.Call (.Name x p) (e::es) [] pos) (K1 i adr sp R t):=by
 intro pins s σ H Q I h;obtain⟨j,z,h⟩:=h;exact SU i (G:=λf=>f=adr j) (spOf:=λ_=>sp j) (λf B=>by subst B;exact U j) l o q r v hd a y b pins s σ H Q I ⟨adr j,z,rfl,h⟩
def Rz{adr:ι->Addr}{sp:ι->Sp}(j:ι)(a:σ[i]? =some (some (.ref (adr j))))(h:t σ H λvs b=>sp j vs b Q (xk R σ)):K1 i adr sp R t σ H Q:=⟨j,a,h⟩
def FTu.mk{a:Addr}(l:K.lookup a=some o)(c:o.cls= .type "tuple")(s:o.data= .seq its n)(r:Gz its xs=true)(b:xs.length<=1000):FTu K a xs:=⟨o,its,n,l,c,s,OE r b,IC r⟩
def U4(z:ys.length=xs.length)(Pv:Nat->W3->Hp->Prop)(h0:Pv 0 σ H)(ht:∀i σ a,Pv i σ a->a x=some (.lst xs))
 (j:∀i c d T σ b a,xs[i]? =some c->ys[i]? =some d->Pv i σ b->Same b a->a T=some (.tup [c,d])->g (.ref T) σ a λσ2 l=>tb {D with nx:=Pv (i+1),ct:=Pv (i+1),bk:=D.nx} σ2 l) (hd:∀σ H,Pv xs.length σ H->D.nx σ H):Bu (IzU x ys) g tb D σ H:=by
 refine FC (n:=xs.length) Pv h0 (λi σ H e p=>⟨⟨_,ht _ _ _ p,e⟩,by lia⟩) (λσ H p=>⟨_,ht _ _ _ p, .inl rfl⟩) (λi v σ b a e p o=>?_) hd;have q:=ht _ _ _ p;obtain⟨T,z1,c,d,r,h,y,hd,rfl,rfl⟩:=o;rw[q]at h;cases h;exact j i c d T σ b _ y hd p (AK r _) AF
def P6(S:ys.length=xs.length)(Pv:Addr->Nat->List V->Hp->Prop)(ht:∀D i a e,H D=none->Pv D i a e->e x=some (.lst xs))(h0:∀D,H D=none->Pv D 0 [] (upd H D (.lst [])))
 (o:∀D a e,H D=none->e D=some (.lst a)->Pv D xs.length a e->Q (.ref D) e)
 (J:∀D i c d T a l e,H D=none->xs[i]? =some c->ys[i]? =some d->i<xs.length->e D=some (.lst a)->a.length<=i->Pv D i a l->Same l e->e T=some (.tup [c,d])->g (.ref T) (AV own sel σ) e λσ4 L=>tt σ4 L λb z=>
   if b=true then te σ4 z λv B=>∃a,B D=some (.lst a)/\a.length<sizeLine/\∃j,j<xs.length-i/\CW D xs.length (Pv D) (i+1) j (upd B D (.lst (a++[v])))
   else∃j,j<xs.length-i/\CW D xs.length (Pv D) (i+1) j z):BF (IzU x ys) own sel σ g tt te Q H:=by
 refine CS (n:=xs.length) Pv h0 (λD i a e h q _ p=>⟨⟨_,ht _ _ _ _ h p,q⟩,by lia⟩) (λD a e h r _ p=>⟨⟨_,ht _ _ _ _ h p, .inl rfl⟩,o D a e h r p⟩) (λD i a l U X h q r y p M=>?_);have P:=ht _ _ _ _ h p;obtain⟨T,z1,c,d,G,I,R,hd,rfl,rfl⟩:=M;rw[P]at I;cases I;exact J D i c d T a l _ h R hd q (AK G _ _ _ r) y p (AK G _) AF
end L2
namespace BrS
variable{d r:Addr}{o:HO}{ns:List (List Nat)}
abbrev Kv:=List (Key×V)
def kyT(a:List Nat):Key:= .inr ⟨a.toArray⟩
def Sj{b:List Nat}(h:kyT a=kyT b):a=b:=by
 have:=Sum.inr.inj h;injection this with e
 simpa using congrArg Array.toList e
def ltr:List Nat:=[97,98,99,100,101,102,103,104,105,106,107,108,109,110,111,112,113,114,115,116,117,118,119,120,121,122]
def fig:List Nat:=[48,49,50,51,52,53,54,55,56,57]
abbrev TB:List Nat:=[107,105,110,100,115]
abbrev Vy:List Nat:=[114,111,119]
abbrev VC:List Nat:=[116,117,114,110]
abbrev RV:List Nat:=[98,101,104,105,110,100]
abbrev VE:List Nat:=[100,114,111,112]
abbrev VD:List Nat:=[115,104,111,119]
abbrev S9:List Nat:=[110,97,109,101,115]
abbrev CG:List Nat:=[108,105,110,101]
abbrev Ci:List Nat:=[110,117,109,98,101,114]
abbrev Dg:List Nat:=[110,101,119]
abbrev As:List Nat:=[110,97,109,101]
abbrev tOk:List Nat:=[111,107]
abbrev tNone:List Nat:=[110,111,110,101]
theorem ID:∀ {l:List Str},sortedS l=true->l.Pairwise λa b=>a.cps.toList<=b.cps.toList
 |[],_=> .nil
 |x::r,h=>by
  have go:∀ (r:List Str) (p:Str),risingS p r=true->(p::r).Pairwise λa b=>a.cps.toList<=b.cps.toList:=by
   intro r
   induction r with
   |nil=>intro p _;exact .cons (λ_ h=>nomatch h) .nil
   |cons y r i=>
    intro p h;have h:(!ltCps y.cps.toList p.cps.toList&&risingS y r)=true:=h;rw[Bool.and_eq_true,ltCps_eq]at h;have d:p.cps.toList<=y.cps.toList:=by
     have:=h.1;simp only[Bool.not_eq_true',decide_eq_false_iff_not]at this;exact List.not_lt.mp this
    have e:=i y h.2;refine .cons (λz hz=>?_) e;rcases List.mem_cons.mp hz with rfl|hz
    ·exact d
    ·exact List.le_trans d ((List.pairwise_cons.mp e).1 z hz)
  exact go r x h
theorem KO:∀ {a b:List Str},(a.Pairwise λa b=>a.cps.toList<=b.cps.toList)->(b.Pairwise λa b=>a.cps.toList<=b.cps.toList)->a.Perm b->a=b
 |[],b,_,_,h=>(List.nil_perm.mp h).symm
 |x::r,[],_,_,h=>absurd h.length_eq (by simp)
 |x::r,y::s,d,i,h=>by
  have e:x=y:=by
   have j:x∈y::s:=h.subset List.mem_cons_self;have l:y∈x::r:=h.symm.subset List.mem_cons_self;rcases List.mem_cons.mp j with z|z
   ·exact z
   rcases List.mem_cons.mp l with z'|z'
   ·exact z'.symm
   have o:=(List.pairwise_cons.mp i).1 _ z;have p:=(List.pairwise_cons.mp d).1 _ z';have:=List.le_antisymm p o
   cases x;cases y
   congr 1;simpa using this
  subst e;rw[KO (List.pairwise_cons.mp d).2 (List.pairwise_cons.mp i).2 h.cons_inv]
def Ng{a b c:List Str}(d:sortedS a=true)(e:sortedS b=true)(h:a.Perm c)(i:b.Perm c):a=b:=KO (ID d) (ID e) (h.trans i.symm)
def FB(bad:List Addr)(H a:Hp):Prop:=∀b o,H b=some o->b∉bad->a b=some o
def FB.refl(bad:List Addr)(H:Hp):FB bad H H:=λ_ _ h _=>h
def FB.of(s:Same H H1):FB bad H H1:=λc o h _=>s c o h
def FB.s{H2:Hp}(a:FB bad H H1)(b:Same H1 H2):FB bad H H2:=λc o h n=>b c o (a c o h n)
def FB.atU(a:FB bad H H1)(b:p∈bad):FB bad H (upd H1 p o):=λc d h n=>by
 have e:c≠p:=λz=>n (by rw[z];exact b);rw[AH e];exact a c d h n
def FB.new(a:FB bad H H1)(b:H p=none):FB bad H (upd H1 p o):=λc d h n=>by
 rw[AH (λz=>by rw[z,b]at h;cases h)];exact a c d h n
def FB.trans{H2:Hp}(a:FB bad H H1)(b:FB bad H1 H2):FB bad H H2:=λc o h n=>b c o (a c o h n) n
def FB.mono{bad':List Addr}(a:FB bad H H1)(h:∀x∈bad,x∈bad'):FB bad' H H1:=λc o e n=>a c o e λz=>n (h _ z)
def Dk(C:Addr)(H:Hp)(d r:Addr)(k:Int)(kvs:Kv):Prop:=(∃a,H d=some (.ins C a [("k", .int k),("rows", .ref r)]))/\H r=some (.dK kvs)
def Dk.same{k:Int}{kvs:Kv}(h:Dk C H d r k kvs)(s:Same H H'):Dk C H' d r k kvs:=let⟨⟨a,e⟩,f⟩:=h;⟨⟨a,s _ _ e⟩,s _ _ f⟩
def Dk.ne{k:Int}{kvs:Kv}(h:Dk C H d r k kvs):d≠r:=λe=>by
 obtain⟨⟨a,z⟩,f⟩:=h;rw[e,f]at z;cases z
def DJ(ns:List (List Nat)):List Str:=ns.map λa=>⟨a.toArray⟩
def KA(ns:List (List Nat)):((DJ ns).map λx=>tx x.cps.toList)=ns.map tx:=by
 unfold DJ;rw[List.map_map];rfl
def Srt(kvs:Kv)(ns:List (List Nat)):Prop:=∃a,kvs.map (·.1)=a.map Sum.inr/\a.length<64/\(DJ ns).Perm a/\sortedS (DJ ns)=true
theorem Kj:∀ {a b:List Str},a.map (Sum.inr:Str->Key)=b.map Sum.inr->a=b
 |[],[],_=>rfl
 |[],_::_,h=>by cases h
 |_::_,[],h=>by cases h
 |x::a,y::b,h=>by
  rw[List.map_cons,List.map_cons]at h;injection h with d e
  rw[Sum.inr.inj d,Kj e]
def Srt.uniq{kvs:Kv}{ss ts:List Str}(h:Srt kvs ns)(hk:kvs.map (·.1)=ss.map Sum.inr)(a:ts.Perm ss)(b:sortedS ts=true):ts=DJ ns:=by
 obtain⟨d,e,_,p,q⟩:=h;have:d=ss:=Kj (e.symm.trans hk);subst this;exact Ng b q a p
def shw(a:List Nat):List Nat:=if a=[]then tNone else a
def wrt(ns:List (List Nat)):List Nat:=if ns=[]then tNone else CL [32] ns
inductive spShown (vs:List V) (H:Hp) (Q:VK) (E:XK):Prop
 |mk (a:_) (_:vs=[tx a]) (_:a.length<=1000) (_:Q (tx (shw a)) H)
inductive spSayKinds (cs:Cs) (C:Addr) (vs:List V) (H:Hp) (Q:VK) (E:XK):Prop
 |mk (d ws r:Addr) (k:Int) (kvs:Kv) (n:Nat) (_:vs=[.ref d, .ref ws]) (_:Dk C H d r k kvs) (_:H ws=some (.lst [tx (Ai n)])) (_:n<10^9) (_:((1<=n/\n<=4/\∀r' H',H r'=none->FB [d] H H'->Dk C H' d r' n []->Q (tx tOk) H')\/(¬ (1<=n/\n<=4)/\Ref E cs.NoKinds H)))
inductive spSayTurn (C:Addr) (vs:List V) (H:Hp) (Q:VK) (E:XK):Prop
 |mk (d ws r:Addr) (k:Int) (kvs:Kv) (nm one a:List Nat) (_:vs=[.ref d, .ref ws]) (_:Dk C H d r k kvs) (_:1<=k) (_:k<=4) (_:kvs.length<=100) (_:H ws=some (.lst [tx nm,tx one])) (_:AY kvs (kyT one)=some (tx a)) (_:AZ k a=true) (_:∀H',FB [r] H H'->Dk C H' d r k (putK kvs (kyT nm) (tx (trn a)))->Q (tx tOk) H')
inductive spSayBehind (cs:Cs) (C:Addr) (vs:List V) (H:Hp) (Q:VK) (E:XK):Prop
 |mk (d ws r:Addr) (k:Int) (kvs:Kv) (nm one two a b:List Nat) (_:vs=[.ref d, .ref ws]) (_:Dk C H d r k kvs) (_:1<=k) (_:k<=4) (_:kvs.length<=100) (_:H ws=some (.lst [tx nm,tx one,tx two])) (_:AY kvs (kyT one)=some (tx a)) (_:AY kvs (kyT two)=some (tx b)) (_:a.length<=40) (_:b.length<=40) (_:((AZ k (a++b)=true/\∀H',FB [r] H H'->Dk C H' d r k (putK kvs (kyT nm) (tx (a++b)))->Q (tx tOk) H')\/(AZ k (a++b)=false/\Ref E cs.NoLine H)))
inductive spSayDrop (C:Addr) (vs:List V) (H:Hp) (Q:VK) (E:XK):Prop
 |mk (d ws r:Addr) (k:Int) (kvs:Kv) (one:List Nat) (v:V) (_:vs=[.ref d, .ref ws]) (_:Dk C H d r k kvs) (_:H ws=some (.lst [tx one])) (_:AY kvs (kyT one)=some v) (_:∀H',FB [r] H H'->Dk C H' d r k (DI kvs (kyT one))->Q (tx tOk) H')
inductive spSayShow (C:Addr) (vs:List V) (H:Hp) (Q:VK) (E:XK):Prop
 |mk (d ws r:Addr) (k:Int) (kvs:Kv) (one a:List Nat) (_:vs=[.ref d, .ref ws]) (_:Dk C H d r k kvs) (_:H ws=some (.lst [tx one])) (_:AY kvs (kyT one)=some (tx a)) (_:a.length<=1000) (_:∀H',Same H H'->Q (tx (shw a)) H')
inductive spSayNames (C:Addr) (vs:List V) (H:Hp) (Q:VK) (E:XK):Prop
 |mk (d ws r:Addr) (k:Int) (kvs:Kv) (ns:List (List Nat)) (_:vs=[.ref d, .ref ws]) (_:Dk C H d r k kvs) (_:Srt kvs ns) (_:(∀n∈ns,n.length<=8)) (_:∀H',Same H H'->Q (tx (wrt ns)) H')
inductive spDkInit (C:Addr) (vs:List V) (H:Hp) (Q:VK) (E:XK):Prop
 |mk (d dx:_) (_:vs=[.ref d]) (_:H d=some (.ins C dx [])) (_:∀r H',H r=none->FB [d] H H'->Dk C H' d r 4 []->Q .non H')
inductive spDkNames (C:Addr) (vs:List V) (H:Hp) (Q:VK) (E:XK):Prop
 |mk (d r:Addr) (k:Int) (kvs:Kv) (ns:List (List Nat)) (_:vs=[.ref d]) (_:Dk C H d r k kvs) (_:Srt kvs ns) (_:∀p H',H p=none->Same H H'->H' p=some (.lst (ns.map tx))->Q (.ref p) H')
end BrS
namespace L2
variable{R:Bool->Hp->Prop}
section
variable{Q:VK}{td ty:TE}
def UL(h:ty σ H λy d=>td σ d λx b=>∃a o,x= .ref a/\DGet b a y o/\Q (.bl (!o.isSome)) b):J2 ty td σ H Q:=h
def VM{t:TE}(h:t σ H λx a=>∃c,x= .bl c/\R c a):tB t σ H R:=h
def Vj(h:td σ H λx d=>ty σ d λy e=>∃a b k v,x= .ref a/\FDc P w K a b/\y=kV k/\AY b k=some v/\Q v e):Gc P w K td ty σ H Q:=h
def Vi(h:ty σ H λy d=>td σ d λx e=>∃a b k,x= .ref a/\FDc P w K a b/\y=kV k/\Q (.bl (!(AY b k).isSome)) e):JP P w K ty td σ H Q:=h
end
end L2
namespace BrS
variable{d:D15}{ar fm ns:List (List Nat)}{w:List Nat}
theorem LI(c:List Nat):∀ns:List (List Nat),inV (tx c) (ns.map tx)=decide (c∈ns)
 |[]=>rfl
 |x::ns=>by
  have a:=LI c ns;unfold inV at a⊢;rw[List.map_cons,List.any_cons,a,FD]
  by_cases h:c=x
  ·subst h;simp
  ·rw[decide_eq_false (λz=>h z.symm)];simp[h]
def Jy{a:List α}(h:0<a.length):atI a 0=some a[0]:=by
 cases a with
 |nil=>simp at h
 |cons x r=>exact Dc x r
theorem Lz:∀ {ns:List (List Nat)},(∀n∈ns,n.length<=8)->ns.flatten.length<=8*ns.length
 |[],_=>by simp
 |n::r,h=>by
  have b:=h n List.mem_cons_self;have d:=Lz λx a=>h x (List.mem_cons_of_mem _ a);rw[List.flatten_cons,List.length_append,List.length_cons];lia
def Srt.len{kvs:Kv}(h:Srt kvs ns):ns.length=kvs.length/\ns.length<64:=by
 obtain⟨i,hk,b,d,_⟩:=h;have a:=d.length_eq;have e:=congrArg List.length hk;rw[List.length_map,List.length_map]at e;unfold DJ at a;rw[List.length_map]at a;lia
abbrev RY:List Nat:=[9,78,111,78,97,109,101]
abbrev QP:List Nat:=[9,78,111,75,105,110,100,115]
abbrev RZ:List Nat:=[9,78,111,76,105,110,101]
def _root_.L2.SameBut1.free1{x:Addr}(s:SameBut1 p H H')(d:Po H' p)(h:H' x=none):H x=none:=by
 cases e:H x with
 |none=>rfl
 |some o=>
  by_cases z:x=p
  ·obtain⟨a,b,c,g⟩:=d;rw[z,g]at h;cases h
  ·rw[s x o e z]at h;cases h
def O2(h:D.nx (σ.set i none) H):(Ex i D).nx σ H:=h
theorem Hn:∀l:List Addr,Paired RelV (l.map V.ref) (l.map Value.ref)
 |[]=> .nil
 |_::l=> .cons rfl (Hn l)
def wd15:List (List Nat):=[[107,105,110,100,115],[114,111,119],[116,117,114,110],[98,101,104,105,110,100],[100,114,111,112],[115,104,111,119],[114,105,103,104,116],[109,97,121],[109,97,110,121],[110,116,104],[110,117,109,98,101,114],[115,117,114,101],[102,101,119,101,115,116],[109,111,114,101],[110,97,109,101,115]]
def RU:(wd15.map λc=>(⟨c.toArray⟩:Str)).Nodup:=by decide +kernel
def Ma{w:World}{a:Addr}{x0 x1 x2 x3 x4 x5 x6 x7 x8 x9 x10 x11 x12 x13 x14:Str}{t0 t1 t2 t3 t4 t5 t6 t7 t8 t9 t10 t11 t12 t13 t14:Tok}{a0 a1 a2 a3 a4 a5 a6 a7 a8 a9 a10 a11 a12 a13 a14:Addr}(b:K.lookup a=some o)(ex:o.ExactDict)(d:o.data= .dict (([(x0,t0,Value.ref a0),(x1,t1,Value.ref a1),(x2,t2,Value.ref a2),(x3,t3,Value.ref a3),(x4,t4,Value.ref a4),(x5,t5,Value.ref a5),(x6,t6,Value.ref a6),(x7,t7,Value.ref a7),(x8,t8,Value.ref a8),(x9,t9,Value.ref a9),(x10,t10,Value.ref a10),(x11,t11,Value.ref a11),(x12,t12,Value.ref a12),(x13,t13,Value.ref a13),(x14,t14,Value.ref a14)]:List (Str×Tok×Value)).map (Df w)).toArray ep)(h:[x0,x1,x2,x3,x4,x5,x6,x7,x8,x9,x10,x11,x12,x13,x14]=wd15.map λc=>(⟨c.toArray⟩:Str))(m:(a==sysModules)=false):FDc P w K a ((wd15.map kyT).zip [V.ref a0,V.ref a1,V.ref a2,V.ref a3,V.ref a4,V.ref a5,V.ref a6,V.ref a7,V.ref a8,V.ref a9,V.ref a10,V.ref a11,V.ref a12,V.ref a13,V.ref a14]):=by
 have e:=U5 (P:=P) (vs:=[V.ref a0,V.ref a1,V.ref a2,V.ref a3,V.ref a4,V.ref a5,V.ref a6,V.ref a7,V.ref a8,V.ref a9,V.ref a10,V.ref a11,V.ref a12,V.ref a13,V.ref a14]) [(x0,t0,Value.ref a0),(x1,t1,Value.ref a1),(x2,t2,Value.ref a2),(x3,t3,Value.ref a3),(x4,t4,Value.ref a4),(x5,t5,Value.ref a5),(x6,t6,Value.ref a6),(x7,t7,Value.ref a7),(x8,t8,Value.ref a8),(x9,t9,Value.ref a9),(x10,t10,Value.ref a10),(x11,t11,Value.ref a11),(x12,t12,Value.ref a12),(x13,t13,Value.ref a13),(x14,t14,Value.ref a14)] b ex d (Hn [a0,a1,a2,a3,a4,a5,a6,a7,a8,a9,a10,a11,a12,a13,a14]) (by
  show [x0,x1,x2,x3,x4,x5,x6,x7,x8,x9,x10,x11,x12,x13,x14].Nodup;rw[h];exact RU) m
 have i:([(x0,t0,Value.ref a0),(x1,t1,Value.ref a1),(x2,t2,Value.ref a2),(x3,t3,Value.ref a3),(x4,t4,Value.ref a4),(x5,t5,Value.ref a5),(x6,t6,Value.ref a6),(x7,t7,Value.ref a7),(x8,t8,Value.ref a8),(x9,t9,Value.ref a9),(x10,t10,Value.ref a10),(x11,t11,Value.ref a11),(x12,t12,Value.ref a12),(x13,t13,Value.ref a13),(x14,t14,Value.ref a14)]:List (Str×Tok×Value)).map (λx=>(.inr x.1:Key))=wd15.map kyT:=by
  show [x0,x1,x2,x3,x4,x5,x6,x7,x8,x9,x10,x11,x12,x13,x14].map (Sum.inr:Str->Key)=_;rw[h,List.map_map];rfl
 rw[i]at e;exact e
def BQ(k:Int)(a b:List Nat):Bool:=AZ k b&&decide (b.length=a.length)&&decide (Rt b)&&(List.range a.length).all λi=>decide (a.getD i 0=63)||decide (a.getD i 0=b.getD i 0)
inductive spIsFillE (K:W.Frag) (vs:List V) (H:Hp) (Q:VK) (E:XK):Prop
 |mk (k:Int) (a:List Nat) (x:V) (_:vs=[.int k,tx a,x]) (_:1<=k) (_:k<=4) (_:AZ k a=true) (_:((∃b,x=tx b/\b.length<=1000/\∀H',Same H H'->Q (.bl (BQ k a b)) H')\/∃ty,TyOf K H x (.type ty)/\ty∈Bf/\ty≠"str"/\∀H',Same H H'->Q (.bl false) H'))
inductive D15|kinds|row|turn|behind|drop|show|right|may|many|nth|number|sure|fewest|more|names
def D15.word:D15->List Nat
 | .kinds=>TB| .row=>Vy| .turn=>VC| .behind=>RV| .drop=>VE| .show=>VD| .right=>[114,105,103,104,116]| .may=>[109,97,121]| .many=>[109,97,110,121]| .nth=>[110,116,104]| .number=>[110,117,109,98,101,114]| .sure=>[115,117,114,101]| .fewest=>[102,101,119,101,115,116]| .more=>[109,111,114,101]| .names=>S9
def D15.form:D15->List (List Nat)
 | .kinds=>[Ci]| .row=>[Dg,CG]| .turn=>[Dg,As]| .behind=>[Dg,As,As]| .nth=>[As,Ci]| .number=>[As,CG]| .names=>[]|_=>[As]
def D15.fn:D15->Str
 | .kinds=>"say_kinds"| .row=>"say_row"| .turn=>"say_turn"| .behind=>"say_behind"| .drop=>"say_drop"| .show=>"say_show"| .right=>"say_right"| .may=>"say_may"| .many=>"say_many"| .nth=>"say_nth"| .number=>"say_number"| .sure=>"say_sure"| .fewest=>"say_fewest"| .more=>"say_more"| .names=>"say_names"
def all15:List D15:=[.kinds, .row, .turn, .behind, .drop, .show, .right, .may, .many, .nth, .number, .sure, .fewest, .more, .names]
def D15.of(w:List Nat):Option D15:=all15.find? λd=>decide (d.word=w)
def Sd(d:D15):D15.of d.word=some d:=by cases d<;>rfl
def GR(h:D15.of w=some d):d.word=w:=by simpa using List.find?_some h
def QN:wd15=all15.map D15.word:=rfl
def Kc(h:D15.of w=none):w∉wd15:=λz=>by
 rw[QN]at z;obtain⟨d,_,rfl⟩:=List.mem_map.mp z;rw[Sd]at h;cases h
def D15.len(d:D15):d.form.length<=3:=by cases d<;>decide
def L9(P:Program)(w:World)(K:W.Frag)(a:Addr):Prop:=∃FK,FDc P w K a FK/\(∀d:D15,∃t,AY FK (kyT d.word)=some (.ref t)/\FTu K t (d.form.map tx))/\∀v,D15.of v=none->AY FK (kyT v)=none
def MA(P:Program)(w:World)(K:W.Frag)(mg:Str->Option Value)(b:Addr):Prop:=∃DK,FDc P w K b DK/\∃a:D15->Addr,∀d:D15,AY DK (kyT d.word)=some (.ref (a d))/\mg d.fn=some (.ref (a d))
theorem Fd:∀ {ws:List (List Nat)} {vs:List V},w∉ws->AY ((ws.map kyT).zip vs) (kyT w)=none
 |[],vs,_=>rfl
 |_::_,[],_=>rfl
 |x::ws,v::vs,h=>by
  have a:=Fd (ws:=ws) (vs:=vs) λz=>h (List.mem_cons_of_mem _ z);have b:¬kyT x=kyT w:=λz=>h (by rw[Sj z];exact List.mem_cons_self);unfold AY at*
  rw[List.map_cons,List.zip_cons_cons,List.find?_cons];rw[decide_eq_false b];exact a
def isNm(a:List Nat):Bool:=decide (1<=a.length/\a.length<=8)&&a.all λc=>decide (c∈ltr)
def BE(a:List Nat):Bool:=decide (1<=a.length/\a.length<=9)&&(a.all λc=>decide (c∈fig))&&(decide (a.length=1)|| !decide (a[0]? =some 48))
def Sy(h:c∈fig):48<=c/\c<=57:=by
 have:∀c∈fig,48<=c/\c<=57:=by decide
 exact this c h
theorem LD:∀ (m:Nat) (a:List Nat),a.length=m+1->(∀c∈a,48<=c/\c<=57)->(a.length=1\/a[0]? ≠some 48)->∃n,n<10^(m+1)/\a=Ai n/\(a[0]? ≠some 48->1<=n)
 |0,[c],_,d,_=>⟨c-48,by have:=d c (by simp);lia,by rw[Dp (by have:=d c (by simp);lia)];have:=d c (by simp);congr 1;lia,λh=>by have:=d c (by simp);have:c≠48:=λz=>h (by simp[z]);lia⟩
 |0,[],h,_,_=>by simp at h
 |0,_::_::_,h,_,_=>by simp at h
 |m+1,a,j,d,p=>by
  have e:a≠[]:=λz=>by rw[z]at j;simp at j
  obtain⟨b,c,rfl⟩:∃b c,a=b++[c]:=⟨a.dropLast,a.getLast e,(List.dropLast_concat_getLast e).symm⟩;have l:b.length=m+1:=by rw[List.length_append]at j;simp at j;lia
  have h0:(b++[c])[0]? =b[0]? :=List.getElem?_append_left (by lia);have i:b[0]? ≠some 48:=by
   rw[<-h0];exact p.resolve_left (by lia)
  obtain⟨n,B,rfl,o⟩:=LD m b l (λx q=>d x (List.mem_append_left _ q)) (.inr i);have o:=o i;have r:=d c (by simp);refine⟨10*n+(c-48),?_,?_,λ_=>by lia⟩
  ·rw[Nat.pow_succ];lia
  ·rw[Ie (n:=10*n+(c-48)) (by lia)];have v:(10*n+(c-48))/10=n:=by lia
   have y:(10*n+(c-48))%10=c-48:=by lia
   rw[v,y,Dp (n:=c-48) (by lia)];congr 2;lia
def Ji(h:BE a=true):∃n,n<10^9/\a=Ai n:=by
 unfold BE at h;rw[Bool.and_eq_true,Bool.and_eq_true,decide_eq_true_eq,List.all_eq_true,Bool.or_eq_true]at h;obtain⟨⟨⟨l,o⟩,b⟩,d⟩:=h;obtain⟨n,i,e,_⟩:=LD (a.length-1) a (by lia) (λc j=>Sy (by simpa using b c j)) (by
  rcases d with z|z
  ·exact .inl (by simpa using z)
  ·exact .inr (by simpa using z))
 refine⟨n,?_,e⟩;have:a.length-1+1<=9:=by lia
 exact Nat.lt_of_lt_of_le i (Nat.pow_le_pow_right (by decide) this)
def Ba(a p:List Nat):Bool:=if p=CG then true else if p=Ci then BE a else isNm a
def BA(l:List Nat):List Nat:=((spN 32 1 l).head?).getD []
def wds(l:List Nat)(fm:List (List Nat)):List (List Nat):=if CG∈fm then spN 32 fm.length l else spN 32 (l.length+1) l
def knw(l:List Nat):Option (D15×List (List Nat)):=match D15.of (BA l)with
 |none=>none
 |some d=>if(wds l d.form).tail.length=d.form.length/\(((wds l d.form).tail).zip d.form).all (λx=>Ba x.1 x.2)=true then some (d,(wds l d.form).tail)else none
def Ea(l:List Nat):(spN 32 1 l).head?=some (BA l):=by
 unfold BA
 cases e:spN 32 1 l with
 |nil=>exact absurd e (Bg _ _ _)
 |cons w ws=>rfl
def IM(x:Nat)(ws:List (List Nat)):(Cb x ws).head?=some (x::(ws.head?.getD [])):=by cases ws<;>rfl
theorem E4(c:Nat):∀ (n:Nat) (l:List Nat),(spN c (n+1) l).head?=(spN c 1 l).head?
 |_,[]=>by simp[spN]
 |n,x::r=>by
  rw[spN,spN]
  by_cases z:x=c
  ·rw[if_pos z,if_pos z];rfl
  ·rw[if_neg z,if_neg z,IM,IM,E4 c n r]
def JJ(l:List Nat)(d:D15):wds l d.form=BA l::(wds l d.form).tail:=by
 have h:(wds l d.form).head?=some (BA l):=by
  rw[<-Ea];unfold wds
  split
  ·cases d<;>first|exact E4 32 _ l|(rename_i z;exact absurd z (by decide))
  ·exact E4 32 _ l
 cases e:wds l d.form with
 |nil=>rw[e]at h;cases h
 |cons w ws=>rw[e]at h;simp only[List.head?_cons,Option.some.injEq]at h;rw[h];rfl
theorem Du(c:Nat):∀ (n:Nat) (l:List Nat),∀w∈spN c n l,w.length<=l.length
 |n,[],w,h=>by
  have:w=[]:=by cases n<;>simpa[spN]using h
  rw[this];exact Nat.le_refl _
 |0,x::r,w,h=>by
  rw[spN]at h;rw[List.mem_singleton.mp h];exact Nat.le_refl _
 |n+1,x::r,w,h=>by
  rw[spN]at h
  by_cases z:x=c
  ·rw[if_pos z]at h;rcases List.mem_cons.mp h with rfl|h
   ·exact Nat.zero_le _
   ·exact Nat.le_succ_of_le (Du c n r w h)
  ·rw[if_neg z]at h;have a:=Du c (n+1) r
   cases e:spN c (n+1) r with
   |nil=>exact absurd e (Bg _ _ _)
   |cons b ws=>
    rw[e]at h a;rcases List.mem_cons.mp h with rfl|h
    ·rw[List.length_cons,List.length_cons];exact Nat.succ_le_succ (a b List.mem_cons_self)
    ·exact Nat.le_succ_of_le (a w (List.mem_cons_of_mem _ h))
def JI(h:w∈wds l fm):w.length<=l.length:=by
 unfold wds at h
 split at h<;>exact Du _ _ _ _ h
def Gr(h:knw l=some (d,ar)):BA l=d.word/\wds l d.form=d.word::ar/\ar.length=d.form.length/\(∀ (i:Nat) (a p:List Nat),ar[i]? =some a->d.form[i]? =some p->Ba a p=true)/\∀a∈ar,a.length<=l.length:=by
 unfold knw at h
 cases e:D15.of (BA l)with
 |none=>rw[e]at h;cases h
 |some b=>
  rw[e]at h;simp only at h
  split at h
  ·rename_i j
   simp only[Option.some.injEq,Prod.mk.injEq]at h;obtain⟨rfl,rfl⟩:=h;have o:=GR e;refine⟨o.symm,?_,j.1,λi a p q r=>?_,λa v=>?_⟩
   ·rw[o];exact JJ l b
   ·have:=List.all_eq_true.mp j.2 (a,p) (List.mem_iff_getElem?.mpr ⟨i,by rw[List.getElem?_zip_eq_some];exact⟨q,r⟩⟩);exact this
   ·exact JI (l:=l) (fm:=b.form) (List.mem_of_mem_tail v)
  ·cases h
end BrS
namespace L2
variable{Q:VK}
def Kf(h:n<2^1900):((n:Nat):Int).natAbs.log2<1920:=by
 rw[Int.natAbs_natCast]
 by_cases z:n=0
 ·subst z;decide
 ·exact Nat.lt_of_lt_of_le ((Nat.log2_lt z).mpr h) (by decide)
def rStrB:List V->Hp->VK->Prop:=λa H Q=>∃n:Nat,a=[.int (n:Nat)]/\n<2^1900/\Q (tx (Ai n)) H
def Fs:CallR X (.type "str") rStrB:=by
 intro pins s σ H b d Q I a ⟨n,e,hn,q⟩;subst e;obtain⟨u,rfl,t,rfl⟩:=a.one;refine PySem.P.str_of_int (Kf hn) ?_;rw[GS];exact⟨tx (Ai n),H,I.tok _,⟨_,rfl⟩,q⟩
def MK(te:TE):TE:=λσ H Q=>te σ H λx a=>(∃n:Nat,x= .int (n:Nat)/\n<2^1900/\Q (tx (Ai n)) a)\/∃z,x=tx z/\z.length<=10000/\Q (tx z) a
def LA(i:PE X e te):PE X (.FormattedValue e (-1) none pos) (MK te):=by
 intro pins s σ H Q I h;refine FormattedValue_plain (thn (i pins s σ H _ I h) λv o j=>?_);obtain⟨x,a,b,d,l⟩:=j;rcases l with⟨n,rfl,hn,q⟩|⟨z,rfl,hz,q⟩
 ·obtain⟨t,rfl⟩:=d;refine wpAny_formatField_int (Kf hn) ?_;rw[GS];exact⟨tx (Ai n),a,b.tok _,⟨_,rfl⟩,q⟩
 ·obtain⟨t,rfl⟩:=d;refine formatField_str (λp r=>⟨tx z,a,b.tok _,⟨_,rfl⟩,q⟩) (by rw[Az,sizeLine_eq];lia)
def tJ3(d t2 e:TE):TE:=λσ H Q=>d σ H λx h=>∃a,x=tx a/\a.length<=10000/\t2 σ h λy i=>∃b,y=tx b/\b.length<=10000/\e σ i λz j=>∃c,z=tx c/\c.length<=10000/\Q (tx (a++b++c)) j
def Qr{e1 e2 e3:Expr}{t1 t2 t3:TE}(l:PE X e1 t1)(o:PE X e2 t2)(p:PE X e3 t3):PE X (.JoinedStr [e1,e2,e3] pos) (tJ3 t1 t2 t3):=by
 intro pins s σ H Q I h;refine JoinedStr_many (joinParts_cons (thn (l pins s σ H _ I h) λv q r=>?_));obtain⟨x,y,z,B,d⟩:=r;obtain⟨a,rfl,U,d⟩:=d;obtain⟨t,rfl⟩:=B;have G:(Str.empty++⟨a.toArray⟩:Str)=⟨a.toArray⟩:=by
  show(⟨(#[]:Array Nat)++a.toArray⟩:Str)=_;simp
 show((Str.empty++⟨a.toArray⟩:Str)).length<=sizeLine/\_;rw[G];refine⟨by rw[Az,sizeLine_eq];lia,joinParts_cons (thn (o pins q σ y _ z d) λv J ⟨x,L,M,P,e⟩=>?_)⟩;obtain⟨b,rfl,Y,e⟩:=e;obtain⟨t,rfl⟩:=P;have e1:(⟨a.toArray⟩++⟨b.toArray⟩:Str)=⟨(a++b).toArray⟩:=by
  show(⟨a.toArray++b.toArray⟩:Str)=_;simp
 show((⟨a.toArray⟩++⟨b.toArray⟩:Str)).length<=sizeLine/\_;rw[e1];refine⟨by rw[Az,sizeLine_eq,List.length_append];lia,joinParts_cons (thn (p pins J σ L _ M e) λv Z ⟨x,R,S,T,i⟩=>?_)⟩;obtain⟨c,rfl,hc,i⟩:=i;obtain⟨t,rfl⟩:=T;have e2:(⟨(a++b).toArray⟩++⟨c.toArray⟩:Str)=⟨(a++b++c).toArray⟩:=by
  show(⟨(a++b).toArray++c.toArray⟩:Str)=_;simp
 show((⟨(a++b).toArray⟩++⟨c.toArray⟩:Str)).length<=sizeLine/\_;rw[e2];have j:(⟨(a++b++c).toArray⟩:Str).length<=sizeLine:=by rw[Az,sizeLine_eq,List.length_append,List.length_append];lia
 exact⟨j,joinParts_nil ⟨tx (a++b++c),R,S.tok _,⟨_,rfl⟩,i⟩ j⟩
inductive PDl (X:Cx):List (Option Expr)->List Expr->List (TE×TE)->Prop
 |nil:PDl X [] [] []
 |cons {k v:Expr} {ks:List (Option Expr)} {vs:List Expr} {tk tv:TE} {trs:List (TE×TE)} (hk:PE X k tk) (hv:PE X v tv) (hr:PDl X ks vs trs):PDl X (some k::ks) (v::vs) ((tk,tv)::trs)
def PDl.pps(h:PDl X ks vs trs):PPs X pos ks vs trs:=by
 induction h with
 |nil=>exact KQ
 |cons hk a _ b=>exact JZ hk a b
def PDl.ok(h:PDl X ks vs trs):ks.all (·.isSome)=true/\ks.length=vs.length:=by
 induction h with
 |nil=>exact⟨rfl,rfl⟩
 |cons hk b _ a=>exact⟨by rw[List.all_cons,a.1];rfl,by rw[List.length_cons,List.length_cons,a.2]⟩
def Gh(a:n<2^1900)(q:Q (tx (Ai n)) H):rStrB [.int (n:Nat)] H Q:=⟨n,rfl,a,q⟩
def Ve(h:te σ H λx a=>(∃n:Nat,x= .int (n:Nat)/\n<2^1900/\Q (tx (Ai n)) a)\/∃z,x=tx z/\z.length<=10000/\Q (tx z) a):MK te σ H Q:=h
def V6{t1 t2 t3:TE}(h:t1 σ H λx d=>∃a,x=tx a/\a.length<=10000/\t2 σ d λy e=>∃b,y=tx b/\b.length<=10000/\t3 σ e λz i=>∃c,z=tx c/\c.length<=10000/\Q (tx (a++b++c)) i):tJ3 t1 t2 t3 σ H Q:=h
end L2
namespace BrS
variable{a:Addr}
inductive spIsName8 (vs:List V) (H:Hp) (Q:VK) (E:XK):Prop
 |mk (a:_) (_:vs=[tx a]) (_:a.length<=1000) (_:∀H',Same H H'->Q (.bl (isNm a)) H')
inductive spIsNumber8 (vs:List V) (H:Hp) (Q:VK) (E:XK):Prop
 |mk (a:_) (_:vs=[tx a]) (_:a.length<=1000) (_:∀H',Same H H'->Q (.bl (BE a)) H')
inductive spHasForm8 (vs:List V) (H:Hp) (Q:VK) (E:XK):Prop
 |mk (a p:_) (_:vs=[tx a,tx p]) (_:a.length<=1000) (_:∀H',Same H H'->Q (.bl (Ba a p)) H')
inductive spParted8 (K:W.Frag) (vs:List V) (H:Hp) (Q:VK) (E:XK):Prop
 |mk (l:List Nat) (t:Addr) (fm:List (List Nat)) (_:vs=[tx l, .ref t]) (_:FTu K t (fm.map tx)) (_:fm.length<=10) (_:l.length<=1000) (_:∀p H',H p=none->Same H H'->H' p=some (.lst ((wds l fm).map tx))->Q (.ref p) H')
def NoWd(K:W.Frag)(H:Hp)(v:V):Prop:=(∃l,v=tx l/\l.length<=1000/\knw l=none)\/∃ty,TyOf K H v (.type ty)/\ty∈Bf/\ty≠"str"
theorem NoWd.same{v:V}(h:NoWd K H v)(s:Same H H'):NoWd K H' v:=h.elim .inl λ⟨ty,a,b⟩=> .inr ⟨ty,a.same s,b⟩
def QS(K:W.Frag):Sp:=λvs H Q _=>(∃l d b,vs=[tx l]/\l.length<=1000/\knw l=some (d,b)/\∀p a,H p=none->Same H a->a p=some (.lst ((d.word::b).map tx))->Q (.ref p) a)\/∃v,vs=[v]/\NoWd K H v/\∀a,Same H a->Q .non a
def yn(b:Bool):List Nat:=if b=true then [121,101,115]else [110,111]
inductive spYesNo (vs:List V) (H:Hp) (Q:VK) (E:XK):Prop
 |mk (b:_) (_:vs=[.bl b]) (_:Q (tx (yn b)) H)
inductive spSayRow8 (cs:Cs) (C:Addr) (vs:List V) (H:Hp) (Q:VK) (E:XK):Prop
 |mk (d ws r:Addr) (k:Int) (kvs:Kv) (nm a:List Nat) (_:vs=[.ref d, .ref ws]) (_:Dk C H d r k kvs) (_:1<=k) (_:k<=4) (_:kvs.length<=100) (_:H ws=some (.lst [tx nm,tx a])) (_:a.length<=1000) (_:((AZ k a=true/\∀H',FB [r] H H'->Dk C H' d r k (putK kvs (kyT nm) (tx a))->Q (tx tOk) H')\/(AZ k a=false/\Ref E cs.NoLine H)))
def Tw2(a:List Nat):Prop:=a=[]\/a=[40,63]
structure Askd (C:Addr) (H:Hp) (vs:List V) (d ws r:Addr) (k:Int) (kvs:Kv) (one:List Nat) (more:List V) (a:List Nat):Prop where
 vs:vs=[.ref d, .ref ws]
 dk:Dk C H d r k kvs
 k1:1<=k
 k4:k<=4
 ws:H ws=some (.lst (tx one::more))
 val:AY kvs (kyT one)=some (tx a)
 row:AZ k a=true
 two:k=4/\Tw2 a
inductive spSayRight (C:Addr) (vs:List V) (H:Hp) (Q:VK) (E:XK):Prop
 |mk (d ws r k kvs one a:_) (_:Askd C H vs d ws r k kvs one [] a) (_:∀H',Same H H'->Q (tx (yn (decide (Rt a)))) H')
inductive spSayMay (C:Addr) (vs:List V) (H:Hp) (Q:VK) (E:XK):Prop
 |mk (d ws r k kvs one a:_) (_:Askd C H vs d ws r k kvs one [] a) (_:∀b H',Same H H'->Q (tx (yn b)) H')
inductive spSayMany (C:Addr) (vs:List V) (H:Hp) (Q:VK) (E:XK):Prop
 |mk (d ws r k kvs one a:_) (_:Askd C H vs d ws r k kvs one [] a) (_:∀H',Same H H'->Q (tx (Ai 1)) H')
inductive spSayNth (cs:Cs) (C:Addr) (vs:List V) (H:Hp) (Q:VK) (E:XK):Prop
 |mk (d ws r k kvs one a n:_) (_:Askd C H vs d ws r k kvs one [tx (Ai n)] a) (_:n<10^9) (_:((n=0/\∀bs H',Same H H'->bs.length=a.length->Q (tx (shw (brt bs))) H')\/(n≠0/\Ref E cs.NoNumber H)))
inductive spSayNumber (cs:Cs) (C:Addr) (vs:List V) (H:Hp) (Q:VK) (E:XK):Prop
 |mk (d ws r k kvs one a b:_) (_:Askd C H vs d ws r k kvs one [tx b] a) (_:b.length<=1000) (_:((AZ k b=false/\Ref E cs.NoLine H)\/(AZ k b=true/\BQ k a b=false/\Ref E cs.NotRight H)\/(AZ k b=true/\BQ k a b=true/\∀H',Same H H'->Q (tx (Ai 0)) H')))
def SgW(a t:List Nat):Prop:=t.length=a.length/\∀c∈t,c∈a\/∃b,c=brs.getD b 0
theorem SgW.set{a t:List Nat}(h:SgW a t)(i b:Nat):SgW a (t.set i (brs.getD b 0)):=⟨by rw[List.length_set];exact h.1,λc d=>(List.mem_or_eq_of_mem_set d).elim (h.2 c) λe=> .inr ⟨b,e⟩⟩
inductive spSaySure (cs:Cs) (C:Addr) (vs:List V) (H:Hp) (Q:VK) (E:XK):Prop
 |mk (d ws r k kvs one a:_) (_:Askd C H vs d ws r k kvs one [] a) (_:∀t H',Same H H'->SgW a t->Q (tx (shw t)) H')
def fwT(a:List Nat):O->List Nat
 |none=>tNone
 |some (_,l)=>Ai (chg a l)++[32]++shw (brx l)
inductive spSayFewest (C:Addr) (vs:List V) (H:Hp) (Q:VK) (E:XK):Prop
 |mk (d ws r k kvs one a:_) (_:Askd C H vs d ws r k kvs one [] a) (_:(a.length=0\/a.length=2)) (_:∀ (o:O) H',Same H H'->(∀w l,o=some (w,l)->l.length=a.length)->Q (tx (fwT a o)) H')
def mrT:List Int->List Nat
 |[]=>tNone
 |x::_=>Ai x.toNat
inductive spSayMore (C:Addr) (vs:List V) (H:Hp) (Q:VK) (E:XK):Prop
 |mk (d ws r k kvs one a:_) (_:Askd C H vs d ws r k kvs one [] a) (_:∀ns H',Same H H'->(∀x∈ns,0<=x/\x<=40)->Q (tx (mrT ns)) H')
def Lg(cs:Cs)(C:Addr):D15->Sp
 | .kinds=>spSayKinds cs C| .row=>spSayRow8 cs C| .turn=>spSayTurn C| .behind=>spSayBehind cs C| .drop=>spSayDrop C| .show=>spSayShow C| .right=>spSayRight C| .may=>spSayMay C| .many=>spSayMany C| .nth=>spSayNth cs C| .number=>spSayNumber cs C| .sure=>spSaySure cs C| .fewest=>spSayFewest C| .more=>spSayMore C| .names=>spSayNames C
inductive spSay8 (K:W.Frag) (cs:Cs) (C:Addr) (vs:List V) (H:Hp) (Q:VK) (E:XK):Prop
 |mk (d r:Addr) (k:Int) (kvs:Kv) (v:V) (_:vs=[.ref d,v]) (_:Dk C H d r k kvs) (_:((NoWd K H v/\Ref E cs.NoRow H)\/∃ (l:List Nat) (dd:D15) (args:List (List Nat)),v=tx l/\l.length<=1000/\knw l=some (dd,args)/\((∃ (i:Nat) (a:List Nat),args[i]? =some a/\dd.form[i]? =some As/\AY kvs (kyT a)=none/\Ref E cs.NoName H)\/((∀ (i:Nat) (a:List Nat),args[i]? =some a->dd.form[i]? =some As->(AY kvs (kyT a)).isSome=true)/\∀E' ws H',(∀c,Ref E c H->Ref E' c H')->Same H H'->H ws=none->H' ws=some (.lst (args.map tx))->Lg cs C dd [.ref d, .ref ws] H' Q E'))))
def fm_mk8{x0 x1 x2 x3 x4 x5 x6 x7 x8 x9 x10 x11 x12 x13 x14:Str}{t0 t1 t2 t3 t4 t5 t6 t7 t8 t9 t10 t11 t12 t13 t14:Tok}{a0 a1 a2 a3 a4 a5 a6 a7 a8 a9 a10 a11 a12 a13 a14:Addr}(l:K.lookup a=some o)(ex:o.ExactDict)(p:o.data= .dict (([(x0,t0,Value.ref a0),(x1,t1,Value.ref a1),(x2,t2,Value.ref a2),(x3,t3,Value.ref a3),(x4,t4,Value.ref a4),(x5,t5,Value.ref a5),(x6,t6,Value.ref a6),(x7,t7,Value.ref a7),(x8,t8,Value.ref a8),(x9,t9,Value.ref a9),(x10,t10,Value.ref a10),(x11,t11,Value.ref a11),(x12,t12,Value.ref a12),(x13,t13,Value.ref a13),(x14,t14,Value.ref a14)]:List (Str×Tok×Value)).map (Df w)).toArray ep)(h:[x0,x1,x2,x3,x4,x5,x6,x7,x8,x9,x10,x11,x12,x13,x14]=wd15.map λc=>(⟨c.toArray⟩:Str))(m:(a==sysModules)=false)(q:FTu K a0 [tx Ci])(r:FTu K a1 [tx Dg,tx CG])(x:FTu K a2 [tx Dg,tx As])(y:FTu K a3 [tx Dg,tx As,tx As])(z:FTu K a4 [tx As])(B:FTu K a5 [tx As])(G:FTu K a6 [tx As])(H:FTu K a7 [tx As])(I:FTu K a8 [tx As])(J:FTu K a9 [tx As,tx Ci])(b:FTu K a10 [tx As,tx CG])(d:FTu K a11 [tx As])(e:FTu K a12 [tx As])(i:FTu K a13 [tx As])(j:FTu K a14 []):L9 P w K a:=⟨_,Ma l ex p h m,λL=>by
 cases L
 ·exact⟨_,rfl,q⟩
 ·exact⟨_,rfl,r⟩
 ·exact⟨_,rfl,x⟩
 ·exact⟨_,rfl,y⟩
 ·exact⟨_,rfl,z⟩
 ·exact⟨_,rfl,B⟩
 ·exact⟨_,rfl,G⟩
 ·exact⟨_,rfl,H⟩
 ·exact⟨_,rfl,I⟩
 ·exact⟨_,rfl,J⟩
 ·exact⟨_,rfl,b⟩
 ·exact⟨_,rfl,d⟩
 ·exact⟨_,rfl,e⟩
 ·exact⟨_,rfl,i⟩
 ·exact⟨_,rfl,j⟩,λv M=>Fd (Kc M)⟩
def dd_mk8{x0 x1 x2 x3 x4 x5 x6 x7 x8 x9 x10 x11 x12 x13 x14:Str}{t0 t1 t2 t3 t4 t5 t6 t7 t8 t9 t10 t11 t12 t13 t14:Tok}{a0 a1 a2 a3 a4 a5 a6 a7 a8 a9 a10 a11 a12 a13 a14:Addr}(p:K.lookup a=some o)(ex:o.ExactDict)(q:o.data= .dict (([(x0,t0,Value.ref a0),(x1,t1,Value.ref a1),(x2,t2,Value.ref a2),(x3,t3,Value.ref a3),(x4,t4,Value.ref a4),(x5,t5,Value.ref a5),(x6,t6,Value.ref a6),(x7,t7,Value.ref a7),(x8,t8,Value.ref a8),(x9,t9,Value.ref a9),(x10,t10,Value.ref a10),(x11,t11,Value.ref a11),(x12,t12,Value.ref a12),(x13,t13,Value.ref a13),(x14,t14,Value.ref a14)]:List (Str×Tok×Value)).map (Df w)).toArray ep)(h:[x0,x1,x2,x3,x4,x5,x6,x7,x8,x9,x10,x11,x12,x13,x14]=wd15.map λc=>(⟨c.toArray⟩:Str))(m:(a==sysModules)=false)(r:mg "say_kinds"=some (.ref a0))(v:mg "say_row"=some (.ref a1))(x:mg "say_turn"=some (.ref a2))(y:mg "say_behind"=some (.ref a3))(z:mg "say_drop"=some (.ref a4))(B:mg "say_show"=some (.ref a5))(G:mg "say_right"=some (.ref a6))(H:mg "say_may"=some (.ref a7))(I:mg "say_many"=some (.ref a8))(J:mg "say_nth"=some (.ref a9))(b:mg "say_number"=some (.ref a10))(d:mg "say_sure"=some (.ref a11))(e:mg "say_fewest"=some (.ref a12))(i:mg "say_more"=some (.ref a13))(j:mg "say_names"=some (.ref a14)):MA P w K mg a:=⟨_,Ma p ex q h m,(λl=>match l with| .kinds=>a0| .row=>a1| .turn=>a2| .behind=>a3| .drop=>a4| .show=>a5| .right=>a6| .may=>a7| .many=>a8| .nth=>a9| .number=>a10| .sure=>a11| .fewest=>a12| .more=>a13| .names=>a14),λl=>by
 cases l
 ·exact⟨rfl,r⟩
 ·exact⟨rfl,v⟩
 ·exact⟨rfl,x⟩
 ·exact⟨rfl,y⟩
 ·exact⟨rfl,z⟩
 ·exact⟨rfl,B⟩
 ·exact⟨rfl,G⟩
 ·exact⟨rfl,H⟩
 ·exact⟨rfl,I⟩
 ·exact⟨rfl,J⟩
 ·exact⟨rfl,b⟩
 ·exact⟨rfl,d⟩
 ·exact⟨rfl,e⟩
 ·exact⟨rfl,i⟩
 ·exact⟨rfl,j⟩⟩
def GH{a:List Nat}(b:4<=n)(h:a.length<=n):(shw a).length<=n:=by
 unfold shw;split
 ·exact b
 ·exact h
end BrS
namespace L2
variable{ix:Expr}{p p2:Pos}{ti:TE}
def Cg{st:Stmt}{y:Str}{py:Pos}(a:st= .Assign [.Name x pos'] (.BinOp (.Name y py) .Add (.List es p) p2) pos)(d:X.N.Nodup)(e:X.N[i]? =some x)(h:Loc X.env.scope x)(hf:X.fn x=true\/X.env.scope.names.lookup x=some .local)
 (l:PEb X (.Name y py) (BJ j)) (b:Pl X es ts):PSb X st (Bb (tOp rPlus (BJ j) (Cv (CH ts))) (Aw i)):=by
 subst a;exact⟨Bz d e h (AJ AQ l.pe (Ac b.pa)) (hf:=hf)⟩
def Ka{R:XR}{k:Nat}{ps:List Str}(U:FnUE X.prog X.w X.K X.mg X.base k x ps sp)(h:Room k X.A)(i:∀e b,XF X R e b->X.xe e b)(hg:Gl X x:=by rfl)
 (d:(x==("__debug__":Str))=false:=by decide):PE X (.Call (.Name x p) [] [] pos) (Gf sp R tNil):=by
 obtain⟨f,fd,F,j,hk,l⟩:=U.ex;intro pins s σ H Q I q;refine wpAny_Call_Name_kw (CQ I hg j ?_ d);refine W.callWith_K0 I.kIn hk ?_;have q:sp [] H Q (xk R σ):=q;have o:([]:List Value).length=ps.length:=F.len _ _ _ _ q;refine wpAny_call (codeAny_mono (F.run X.A X.stack s H ⟨[],[]⟩ [] [] Q (xk R σ) h I.env0 ?_ .nil q) λres b a=>?_)
 ·have z:=l s [] I.kIn (by rw[List.append_nil];exact o);rw[List.append_nil]at z;exact z
 ·cases res with
  |error r=>exact i _ _ ⟨pins,σ,H,s,I,a⟩
  |ok fl=>
   cases fl with
   |ret u=>exact I.after a
   |next=>exact False.elim a
   |brk=>exact False.elim a
   |cont=>exact False.elim a
def SE{st:Stmt}(a:st= .Assign [.Name x pos'] (.Dict ks vs p) pos)(d:X.N.Nodup)(e:X.N[i]? =some x)(j:Loc X.env.scope x)(hf:X.fn x=true\/X.env.scope.names.lookup x=some .local)(h:PDl X ks vs trs)(h0:ks≠[])(b:ks.length<=15):PSb X st (Bb (FF trs) (Aw i)):=by
 subst a;exact⟨Bz d e j (GP h.pps h.ok.1 h.ok.2 h0 b) rfl hf⟩
def KP(K:W.Frag){st:Stmt}{o:Expr}{ap cp:Pos}(d:st= .Expr (.Call (.Attribute o "update" ap) [.Dict ks vs p] [] cp) pos)(i:PE X o to)(h:PDl X ks vs trs)(h0:ks≠[])(e:ks.length<=15)(a:attributeBase o "update" X.env (eval o X.env)=eval o X.env:=by rfl)(b:(ap.endLine==cp.line)=true:=by rfl)(j:X.K=K:=by rfl):PSb X st (G8 (tBM K "dict" rUpd to (CY (FF trs) tNil))):=by
 subst d;subst j;exact⟨Am (Av X.K PySem.F.plainAttrs_dict PySem.F.slot_dict_update PySem.F.type_dict_update Pa i (AA (GP h.pps h.ok.1 h.ok.2 h0 e) AB K2) a rfl b)⟩
def O7{st:Stmt}(K:W.Frag)(a:st= .Return (some (.Subscript (.List es p) ix p2)) pos)(b:Pl X es ts)(d:PE X ix ti)(e:Ez ix:=by exact λ_ _=>rfl)(h:X.K=K:=by rfl):PSb X st (EL (tOp (CK K) (Cv (CH ts)) ti)):=by
 subst a;exact⟨AI (HG (HS K h) (Ac b.pa) d e)⟩
def OL{st:Stmt}{p3:Pos}(K:W.Frag)(a:st= .Return (some (.BinOp e .Add (.Subscript (.List es p) ix p2) p3)) pos)(d:PE X e te)(b:Pl X es ts)(h:PE X ix ti)(i:Ez ix:=by exact λ_ _=>rfl)(j:X.K=K:=by rfl):PSb X st (EL (tOp rPlus te (tOp (CK K) (Cv (CH ts)) ti))):=by
 subst a;exact⟨AI (AJ AQ d (HG (HS K j) (Ac b.pa) h i))⟩
end L2
namespace BrS
variable{d r:Addr}{cs:Cs}{x:D15×List (List Nat)}{a:Int}{kvs:Kv}{args fm:List (List Nat)}{t w w0:List Nat}{v:V}{Q:VK}{E:XK}
theorem LB:∀ (l:List (List Nat×List Nat)) {R:List (V×V)->Hp->Prop},R (l.map λx=>(tx x.1,tx x.2)) H->E3 (l.map λx=>(tC (tx x.1),tC (tx x.2))) σ H R
 |[],_,h=>h
 |x::l,_,h=>LB l h
def Ep(l:List (List Nat×List Nat))(a:l.length<=15)(q:∀p,H p=none->Q (.ref p) (upd H p (.dK (A3 [] (l.map λx=>(kyT x.1,tx x.2)))))):FF (l.map λx=>(tC (tx x.1),tC (tx x.2))) σ H Q:=λp d=>LB l ⟨AF,l.map λx=>(kyT x.1,tx x.2),by rw[List.map_map];rfl,by rw[List.length_map];exact a,by
 have:upd (upd H p (.dK [])) p (.dK (A3 [] (l.map λx=>(kyT x.1,tx x.2))))=upd H p (.dK (A3 [] (l.map λx=>(kyT x.1,tx x.2)))):=by
  funext b;unfold upd;split<;>rfl
 rw[this];exact q p d⟩
abbrev Gb:List Nat:=[9,78,111,82,111,119]
abbrev Oz:List Nat:=[9,78,111,78,117,109,98,101,114]
abbrev Oy:List Nat:=[9,78,111,116,82,105,103,104,116]
abbrev OG:List Nat:=[9,78,111,70,105,108,108,105,110,103]
inductive Cap8 (cs:Cs):Addr->List Nat->Prop
 |row:Cap8 cs cs.NoRow Gb
 |name:Cap8 cs cs.NoName RY
 |kinds:Cap8 cs cs.NoKinds QP
 |line:Cap8 cs cs.NoLine RZ
 |number:Cap8 cs cs.NoNumber Oz
 |right:Cap8 cs cs.NotRight Oy
 |filling:Cap8 cs cs.NoFilling OG
inductive spSaid8 (K:W.Frag) (cs:Cs) (C:Addr) (vs:List V) (H:Hp) (Q:VK) (E:XK):Prop
 |mk (d r:Addr) (k:Int) (kvs:Kv) (v:V) (_:vs=[.ref d,v]) (_:Dk C H d r k kvs) (_:∀ (Q':VK) (E':XK),(∀b H',b.length<=1000->b.head?≠some 9->(∀G,Same H' G->Q (tx b) G)->Q' (tx b) H')->(∀c nm,Cap8 cs c nm->(∀H',Same H H'->Q (tx nm) H')->Ref E' c H)->spSay8 K cs C [.ref d,v] H Q' E')
inductive spFits8 (vs:List V) (H:Hp) (Q:VK) (E:XK):Prop
 |mk (kd w:_) (_:vs=[tx [kd],tx w]) (_:w.length<=1000) (_:∀H',Same H H'->Q (.bl (if kd=97 then isNm w else BE w)) H')
def D15.ty:D15->List Nat
 | .kinds=>[105]| .row=>[97,114]| .turn=>[97,97]| .behind=>[97,97,97]| .nth=>[97,105]| .number=>[97,114]| .names=>[]|_=>[97]
def EN:Kv:=all15.map λd=>(kyT d.word,tx d.ty)
inductive spKinds8 (vs:List V) (H:Hp) (Q:VK) (E:XK):Prop
 |mk (_:vs=[]) (_:∀p H',H p=none->Same H H'->H' p=some (.dK EN)->Q (.ref p) H')
def Jh(d:D15):AY EN (kyT d.word)=some (tx d.ty):=by cases d<;>rfl
def Uy(h:D15.of w=none):AY EN (kyT w)=none:=by
 have e:EN=(wd15.map kyT).zip (all15.map λd=>tx d.ty):=rfl;rw[e];exact Fd (Kc h)
def L8(K:W.Frag)(H:Hp)(v:V)(b:Bool):Prop:=(∃l,v=tx l/\l.length<=1000/\b=(knw l).isSome)\/(b=false/\∃ty,TyOf K H v (.type ty)/\ty∈Bf/\ty≠"str")
inductive spIsRow8 (K:W.Frag) (vs:List V) (H:Hp) (Q:VK) (E:XK):Prop
 |mk (v b:_) (_:vs=[v]) (_:L8 K H v b) (_:∀H',Same H H'->Q (.bl b) H')
def Drw(n:Nat)(p:Addr)(H:Hp)(Q:VK):Prop:=∀t a,Po a p->SameBut1 p H a->t.length<=n->Q (tx t) a
inductive spSome8 (vs:List V) (H:Hp) (Q:VK) (E:XK):Prop
 |mk (p kd:_) (_:vs=[.ref p,tx [kd]]) (_:Po H p) (_:Drw 41 p H Q)
inductive spDrawn8 (vs:List V) (H:Hp) (Q:VK) (E:XK):Prop
 |mk (p:_) (_:vs=[.ref p]) (_:Po H p) (_:Drw 200 p H Q)
inductive spChanged8 (vs:List V) (H:Hp) (Q:VK) (E:XK):Prop
 |mk (p l:_) (_:vs=[.ref p,tx l]) (_:Po H p) (_:l.length<=200) (_:Drw 1000 p H Q)
def kv0:Kv:=[(kyT [97,98],tx [40,63]),(kyT [110,111,110,101],tx [])]
inductive spNewDesk (C:Addr) (vs:List V) (H:Hp) (Q:VK) (E:XK):Prop
 |mk (_:vs=[]) (_:∀d r H',H d=none->H r=none->Same H H'->Dk C H' d r 4 kv0->Q (.ref d) H')
def Iy(x:Nat){ws:List (List Nat)}(h:ws≠[]):(Cb x ws).length=ws.length:=by cases ws with|nil=>exact absurd rfl h|cons=>rfl
def Jv(x:Nat){ws:List (List Nat)}(i:Nat):(Cb x ws)[i+1]? =ws[i+1]? :=by cases ws<;>rfl
theorem Fx(c:Nat):∀ (l:List Nat) (n m:Nat),l.length<=m->(spN c n l).length=min (n+1) (spN c m l).length/\∀i,i<n->(spN c n l)[i]? =(spN c m l)[i]?
 |[],n,m,_=>by cases n<;>cases m<;>simp[spN]
 |x::r,n,0,h=>by simp at h
 |x::r,0,m+1,h=>by
  have:=List.length_pos_iff.mpr (Bg c (m+1) (x::r));refine⟨?_,λi d=>absurd d (Nat.not_lt_zero i)⟩;show 1=_;lia
 |x::r,n+1,m+1,h=>by
  simp only[List.length_cons]at h;rw[spN,spN]
  by_cases z:x=c
  ·rw[if_pos z,if_pos z];obtain⟨j,e⟩:=Fx c r n m (by lia);refine⟨by rw[List.length_cons,List.length_cons,j];lia,λi d=>?_⟩
   cases i with
   |zero=>rfl
   |succ i=>exact e i (by lia)
  ·rw[if_neg z,if_neg z];obtain⟨j,e⟩:=Fx c r (n+1) (m+1) (by lia);refine⟨by rw[Iy x (Bg _ _ _),Iy x (Bg _ _ _),j],λi d=>?_⟩
   cases i with
   |zero=>
    have:=e 0 (by lia)
    cases o:spN c (n+1) r with
    |nil=>exact absurd o (Bg _ _ _)
    |cons a b=>
     cases p:spN c (m+1) r with
     |nil=>exact absurd p (Bg _ _ _)
     |cons q v=>
      rw[o,p]at this;simp only[List.getElem?_cons_zero,Option.some.injEq]at this;rw[this];rfl
   |succ i=>rw[Jv,Jv];exact e (i+1) d
def LL(a S:List Nat):eqVs ((a.filter λc=> !decide (c∈S)).map λc=>tx [c]) []=a.all λc=>decide (c∈S):=by
 cases e:a.filter λc=> !decide (c∈S)with
 |nil=>
  have:a.all (λc=>decide (c∈S))=true:=by
   rw[List.all_eq_true];intro c b;have:=List.filter_eq_nil_iff.mp e c b;simpa using this
  rw[this];rfl
 |cons c r=>
  have:a.all (λc=>decide (c∈S))=false:=by
   rw[Bool.eq_false_iff];intro z;have b:c∈a.filter λc=> !decide (c∈S):=by rw[e];exact List.mem_cons_self
   have d:=List.mem_filter.mp b;have h:=List.all_eq_true.mp z c d.1;rw[h]at d;exact absurd d.2 (by decide)
  rw[this];rfl
def Ej{a S:List Nat}(d:a[i]? =some c)(b:Bool)(e:(!decide (c∈S))=b):(a.take (i+1)).filter (λc=> !decide (c∈S))=(a.take i).filter (λc=> !decide (c∈S))++(if b=true then [c]else []):=by
 rw[List.take_add_one,d,List.filter_append];show _++List.filter _ [c]=_;rw[List.filter_cons,e];rfl
def LV{xs:List α}(h0:0<=a)(d:a<(xs.length:Nat)):∃c,atI xs a=some c:=by
 obtain⟨m,rfl⟩:=Int.eq_ofNat_of_zero_le h0;have b:m<xs.length:=by lia
 refine⟨xs[m],?_⟩;unfold atI;rw[Bn b];exact List.getElem?_eq_getElem b
def Po.keep8{q:Addr}(h:Po H p)(s:SameBut1 q H H')(n:q≠p):Po H' p:=let⟨a,b,c,e⟩:=h;⟨a,b,c,s _ _ e n.symm⟩
def JU{k:Int}{nm a:List Nat}(hd:Dk C H d r k kvs)(k1:1<=k)(k4:k<=4)(v:kvs.length<=100)(h:l.length<=1000)(hk:knw l=some (.row,[nm,a]))(x:AZ k a=true)(q:∀e,FB [r] H e->Dk C e d r k (putK kvs (kyT nm) (tx a))->Q (tx tOk) e):spSay8 K cs C [.ref d,tx l] H Q E:=by
 have I:=(Gr hk).2.2.2.2 a (by simp);refine⟨d,r,k,kvs,_,rfl,hd, .inr ⟨l, .row,[nm,a],rfl,h,hk, .inr ⟨λi b y p=>?_,λJ ws e L sm M j=>?_⟩⟩⟩
 ·match i with
  |0=>cases p
  |1=>cases p
  |i+2=>simp at y
 ·exact⟨d,ws,r,k,kvs,nm,a,rfl,hd.same sm,k1,k4,v,j,by lia, .inl ⟨x,λB G dk=>q B (λb o z n=>G b o (sm _ _ z) n) dk⟩⟩
def Ut:knw [114,111,119,32,97,98,32,40,63]=some (.row,[[97,98],[40,63]]):=by with_unfolding_all rfl
def Q5:knw [114,111,119,32,110,111,110,101,32]=some (.row,[[110,111,110,101],[]]):=by with_unfolding_all rfl
def FR(l:List Nat):Bool:=match D15.of (BA l)with
 |none=>false
 |some d=>if d.ty=[97,114]then decide (2<(spN 32 (l.length+1) l).length)&&isNm ((spN 32 (l.length+1) l).getD 1 [])
  else decide ((spN 32 (l.length+1) l).length=d.ty.length+1)&&(List.range d.ty.length).all λi=>if d.ty.getD i 0=97 then isNm ((spN 32 (l.length+1) l).getD (i+1) [])else BE ((spN 32 (l.length+1) l).getD (i+1) [])
theorem Sq{ty:List Nat}(o:fm.length=ty.length)(e:∀i w,Ba w (fm.getD i [])=(if ty.getD i 0=97 then isNm w else BE w)\/ty.length<=i)(vs:List (List Nat)):
 (decide ((w0::vs).length=ty.length+1)&&(List.range ty.length).all λi=>if ty.getD i 0=97 then isNm ((w0::vs).getD (i+1) [])else BE ((w0::vs).getD (i+1) []))=decide ((w0::vs).tail.length=fm.length/\(((w0::vs).tail).zip fm).all (λx=>Ba x.1 x.2)=true):=by
 show(decide (vs.length+1=ty.length+1)&&(List.range ty.length).all λi=>if ty.getD i 0=97 then isNm (vs.getD i [])else BE (vs.getD i []))=decide (vs.length=fm.length/\(vs.zip fm).all (λx=>Ba x.1 x.2)=true)
 by_cases h:vs.length=fm.length
 ·rw[decide_eq_true (show vs.length+1=ty.length+1 by lia),Bool.true_and];refine Bool.eq_iff_iff.mpr ?_;rw[decide_eq_true_eq,List.all_eq_true,List.all_eq_true];refine⟨λa=>⟨h,λx j=>?_⟩,λ⟨_,a⟩ i d=>?_⟩
  ·obtain⟨i,d,rfl⟩:=List.mem_iff_getElem.mp j;rw[List.length_zip]at d;have b:i<ty.length:=by lia
   have:=a i (List.mem_range.mpr b);rw[<-(e i (vs.getD i [])).resolve_right (by lia)]at this;rw[List.getElem_zip];rw[List.getD_eq_getElem?_getD,List.getD_eq_getElem?_getD,List.getElem?_eq_getElem (by lia),List.getElem?_eq_getElem (by lia)]at this;exact this
  ·have b:=List.mem_range.mp d;show(if ty.getD i 0=97 then isNm (vs.getD i [])else BE (vs.getD i []))=true;rw[<-(e i (vs.getD i [])).resolve_right (by lia)];have:=a _ (List.getElem_mem (l:=vs.zip fm) (n:=i) (by rw[List.length_zip];lia));rw[List.getElem_zip]at this;rw[List.getD_eq_getElem?_getD,List.getD_eq_getElem?_getD,List.getElem?_eq_getElem (by lia),List.getElem?_eq_getElem (by lia)];exact this
 ·rw[decide_eq_false (show¬vs.length+1=ty.length+1 by lia),Bool.false_and,decide_eq_false λz=>h z.1]
def D15.chk(d:D15):d.ty=[97,114]\/(d.form.length=d.ty.length/\∀i,i<d.ty.length->d.form.getD i []≠CG/\(d.form.getD i []=Ci↔¬d.ty.getD i 0=97)):=by
 cases d<;>first|exact .inl rfl|exact .inr ⟨rfl,by decide⟩
theorem Q3(l:List Nat):FR l=(knw l).isSome:=by
 unfold FR knw
 cases e:D15.of (BA l)with
 |none=>rfl
 |some d=>
  simp only;obtain⟨j,B⟩:=Fx 32 l 2 (l.length+1) (by lia);have ne:=List.length_pos_iff.mpr (Bg 32 (l.length+1) l);generalize G:spN 32 (l.length+1) l=ws at*
  have q:∀ {c:Prop} [Decidable c] {x:D15×List (List Nat)},(if c then some x else none).isSome=decide c:=fun{c} _ {x}=>by by_cases h:c<;>simp[h]
  rw[q]
  by_cases p:d.ty=[97,114]
  ·rw[if_pos p];have o:wds l d.form=spN 32 2 l:=by
    unfold wds
    cases d<;>first|rfl|exact absurd p (by decide)
   rw[o];have v:=B 1 (by lia);rcases hs:spN 32 2 l with _|⟨P,_|⟨v1,_|⟨Q,r⟩⟩⟩
   ·rw[hs]at j;simp only[List.length_nil]at j;lia
   ·rw[hs]at j;simp only[List.length_cons,List.length_nil]at j;rw[decide_eq_false (show¬2<ws.length by lia),Bool.false_and]
    cases d<;>first|exact absurd p (by decide)|simp[D15.form]
   ·rw[hs]at j;simp only[List.length_cons,List.length_nil]at j;rw[decide_eq_false (show¬2<ws.length by lia),Bool.false_and]
    cases d<;>first|exact absurd p (by decide)|simp[D15.form]
   ·rw[hs]at j v;simp only[List.length_cons]at j;have J:r=[]:=by
     cases r with
     |nil=>rfl
     |cons x y=>simp only[List.length_cons]at j;lia
    subst J;rw[decide_eq_true (show 2<ws.length by simp only[List.length_nil]at j;lia),Bool.true_and];have L:ws.getD 1 []=v1:=by rw[List.getD_eq_getElem?_getD,<-v];rfl
    rw[L]
    cases d<;>first|exact absurd p (by decide)|simp[D15.form,Ba]
  ·rw[if_neg p];have o:wds l d.form=ws:=by
    unfold wds;rw[if_neg (by cases d<;>first|decide|exact absurd rfl p),G]
   rw[o];clear j B G o e q;have H:=(D15.chk d).resolve_left p;have M:∀i w,Ba w (d.form.getD i [])=(if d.ty.getD i 0=97 then isNm w else BE w)\/d.ty.length<=i:=λi w=>by
    by_cases I:i<d.ty.length
    ·obtain⟨a,b⟩:=H.2 i I;refine .inl ?_;unfold Ba;rw[if_neg a]
     by_cases c:d.ty.getD i 0=97
     ·rw[if_pos c,if_neg λz=>b.mp z c]
     ·rw[if_neg c,if_pos (b.mpr c)]
    ·exact .inr (Nat.le_of_not_lt I)
   rcases ws with _|⟨R,vs⟩
   ·cases ne
   exact Sq H.1 M vs
def Sw(n:Nat)(f:Nat->Bool):eqVs (((List.range n).filter λj=> !f j).map λj=>V.int (j:Nat)) []=(List.range n).all f:=by
 cases d:(List.range n).filter λj=> !f j with
 |nil=>
  have:(List.range n).all f=true:=by
   rw[List.all_eq_true];intro c a;have:=List.filter_eq_nil_iff.mp d c a;simpa using this
  rw[this];rfl
 |cons c r=>
  have:(List.range n).all f=false:=by
   rw[Bool.eq_false_iff];intro z;have a:c∈(List.range n).filter λj=> !f j:=by rw[d];exact List.mem_cons_self
   have b:=List.mem_filter.mp a;have e:=List.all_eq_true.mp z c b.1;rw[e]at b;exact absurd b.2 (by decide)
  rw[this];rfl
def Lk{c:TT}{t u:TS}(P:W3->Hp->Prop)(b:∀σ' a,P σ' a->D.nx σ' a)(d:(∀σ' a,P σ' a->D.nx σ' a)->De c t u D σ H):De c t u D σ H:=d b
def RowD(K:W.Frag)(H:Hp)(v:V):Prop:=(∃l,v=tx l/\l.length<=1000)\/∃ty,TyOf K H v (.type ty)/\ty∈Bf/\ty≠"str"
def RowD.is(h:RowD K H v):∃b,L8 K H v b/\(b=true->∃l,v=tx l/\l.length<=1000/\(knw l).isSome=true)/\(b=false->NoWd K H v):=by
 rcases h with⟨l,rfl,hl⟩|h
 ·refine⟨(knw l).isSome, .inl ⟨l,rfl,hl,rfl⟩,λe=>⟨l,rfl,hl,e⟩,λe=> .inl ⟨l,rfl,hl,?_⟩⟩
  cases z:knw l with
  |none=>rfl
  |some x=>rw[z]at e;cases e
 ·exact⟨false, .inr ⟨rfl,h⟩,λe=>(by cases e),λ_=> .inr h⟩
def SameBut1.fresh{H2:Hp}(s:Same H H1)(b:SameBut1 p H1 H2)(h:H p=none):Same H H2:=λc o z=>b c o (s c o z) (AM z h)
def Dk.but{k:Int}(h:Dk C H d r k kvs)(s:SameBut1 p H H')(a:d≠p)(b:r≠p):Dk C H' d r k kvs:=let⟨⟨i,e⟩,f⟩:=h;⟨⟨i,s _ _ e a⟩,s _ _ f b⟩
def Ans(t:List Nat):Prop:=t.length<=1000/\t.head?≠some 9/\t≠[111,100,100]
def Ans.all(h:t.length<=1000)(a:∀c∈t,c≠9/\c≠111):Ans t:=⟨h,λe=>(a 9 (List.mem_of_mem_head? e)).1 rfl,λe=>(a 111 (by rw[e];simp)).2 rfl⟩
def Ans.ok:Ans tOk:=⟨by decide,by decide,by decide⟩
def Ans.none:Ans tNone:=⟨by decide,by decide,by decide⟩
theorem Ans.shw(h:Ans t):Ans (BrS.shw t):=by
 unfold BrS.shw;split
 ·exact .none
 ·exact h
theorem Ga(h:n<=5^40):Ans (Ai n):=by
 refine .all (Nat.le_trans (F4 30 n (Nat.lt_of_le_of_lt h (by decide +kernel))) (by decide)) λc a=>?_;have:=Jd n c a;lia
def LW(b:Bool):Ans (yn b):=by cases b<;>exact⟨by decide,by decide,by decide⟩
def LU(b:Nat):brs.getD b 0≠9/\brs.getD b 0≠111:=by
 by_cases h:b<8
 ·have:∀b,b<8->brs.getD b 0≠9/\brs.getD b 0≠111:=by decide
  exact this b h
 ·rw[List.getD_eq_getElem?_getD,List.getElem?_eq_none (by show 8<=b;lia)];exact⟨by decide,by decide⟩
def C9{a:List Nat}(h:(AY kv0 (kyT a)).isSome=true):∃x,AY kv0 (kyT a)=some (tx x)/\(x=[40,63]\/x=[]):=by
 unfold AY kv0 at*
 rw[List.find?_cons]at*
 by_cases b:kyT [97,98]=kyT a
 ·rw[decide_eq_true b]at*
  exact⟨_,rfl, .inl rfl⟩
 ·rw[decide_eq_false b]at*
  simp only at*
  rw[List.find?_cons]at*
  by_cases d:kyT [110,111,110,101]=kyT a
  ·rw[decide_eq_true d]at*
   exact⟨_,rfl, .inr rfl⟩
  ·rw[decide_eq_false d]at*
   simp at h
def DL{x:List Nat}(h:x=[40,63]\/x=[]):AZ 4 x=true/\x.length<=2/\∀c∈x,c≠9/\c≠111:=by
 rcases h with rfl|rfl
 ·exact⟨by decide,by decide,by decide⟩
 ·exact⟨by decide,by decide,by decide⟩
def MN:Srt kv0 [[97,98],[110,111,110,101]]:=⟨[⟨[97,98].toArray⟩,⟨[110,111,110,101].toArray⟩],rfl,by decide,List.Perm.refl _,by decide⟩
def ln1{xs:List α}(h:xs.length=1):∃a,xs=[a]:=List.length_eq_one_iff.mp h
def ln2{xs:List α}(h:xs.length=2):∃a b,xs=[a,b]:=by
 cases xs with
 |nil=>cases h
 |cons a r=>
  obtain⟨b,rfl⟩:=ln1 (Nat.succ.inj h);exact⟨a,b,rfl⟩
def ln3{xs:List α}(h:xs.length=3):∃a b c,xs=[a,b,c]:=by
 cases xs with
 |nil=>cases h
 |cons a r=>
  obtain⟨b,c,rfl⟩:=ln2 (Nat.succ.inj h);exact⟨a,b,c,rfl⟩
theorem OI{dd:D15}(hd:Dk C H d r 4 kv0)(hl:l.length<=1000)(hk:knw l=some (dd,args))(q:∀t U,Ans t->FB [d,r] H U->Q (tx t) U)(rN:Ref E cs.NoName H)(rK:Ref E cs.NoKinds H)(rL:Ref E cs.NoLine H)(rU:Ref E cs.NoNumber H)(rR:Ref E cs.NotRight H)(rF:Ref E cs.NoFilling H):spSay8 K cs C [.ref d,tx l] H Q E:=by
 obtain⟨_,_,p,T,Z⟩:=Gr hk
 by_cases j:∀ (i:Nat) (a:List Nat),args[i]? =some a->dd.form[i]? =some As->(AY kv0 (kyT a)).isSome=true
 rotate_left
 ·have:∃ (i:Nat) (a:List Nat),args[i]? =some a/\dd.form[i]? =some As/\AY kv0 (kyT a)=none:=by
   refine Classical.byContradiction λhn=>j λi a R M=>?_
   cases e:AY kv0 (kyT a)with
   |none=>exact absurd ⟨i,a,R,M,e⟩ hn
   |some x=>rfl
  obtain⟨i,a,R,M,X⟩:=this;exact⟨d,r,4,kv0,_,rfl,hd, .inr ⟨l,dd,args,rfl,hl,hk, .inl ⟨i,a,R,M,X,rN⟩⟩⟩
 refine⟨d,r,4,kv0,_,rfl,hd, .inr ⟨l,dd,args,rfl,hl,hk, .inr ⟨j,λE' ws U Y sm hw v=>?_⟩⟩⟩;have I:=hd.same sm;have P:∀t G,Ans t->Same U G->Q (tx t) G:=λt G ha s=>q t G ha (FB.of (sm.trans s));have qf:∀t G bad,Ans t->FB bad U G->(∀x∈bad,x∈[d,r])->Q (tx t) G:=λt G bad ha f hb=>q t G ha ((FB.of (bad:=bad) sm).trans f|>.mono hb);have B:∀ {one:List Nat} {more:List V},U ws=some (.lst (tx one::more))->(AY kv0 (kyT one)).isSome=true->∃x,Askd C U [.ref d, .ref ws] d ws r 4 kv0 one more x/\x.length<=2/\∀c∈x,c≠9/\c≠111:=λg hv=>by
  obtain⟨x,e,J⟩:=C9 hv;obtain⟨R,M,X⟩:=DL J;exact⟨x,⟨rfl,I,by decide,by decide,g,e,R,rfl,J.symm⟩,M,X⟩
 cases dd with
 |kinds=>
  obtain⟨w,rfl⟩:=ln1 p;obtain⟨n,hn,rfl⟩:=Ji (T 0 w Ci rfl rfl);refine⟨d,ws,r,4,kv0,n,rfl,I,v,hn,?_⟩
  by_cases h:1<=n/\n<=4
  ·exact .inl ⟨h.1,h.2,λr' G _ f _=>qf _ G _ .ok f (by simp)⟩
  ·exact .inr ⟨h,Y _ rK⟩
 |row=>
  obtain⟨nm,a,rfl⟩:=ln2 p;refine⟨d,ws,r,4,kv0,nm,a,rfl,I,by decide,by decide,by decide,v,Nat.le_trans (Z a (by simp)) hl,?_⟩
  cases h:AZ 4 a with
  |true=>exact .inl ⟨rfl,λG f _=>qf _ G _ .ok f (by simp)⟩
  |false=>exact .inr ⟨rfl,Y _ rL⟩
 |turn=>
  obtain⟨nm,one,rfl⟩:=ln2 p;obtain⟨x,e,J⟩:=C9 (j 1 one rfl rfl);exact⟨d,ws,r,4,kv0,nm,one,x,rfl,I,by decide,by decide,by decide,v,e,(DL J).1,λG f _=>qf _ G _ .ok f (by simp)⟩
 |behind=>
  obtain⟨nm,one,two,rfl⟩:=ln3 p;obtain⟨x,e,J⟩:=C9 (j 1 one rfl rfl);obtain⟨y,e',hy⟩:=C9 (j 2 two rfl rfl);have R:=(DL J).2.1;have M:=(DL hy).2.1;refine⟨d,ws,r,4,kv0,nm,one,two,x,y,rfl,I,by decide,by decide,by decide,v,e,e',by lia,by lia,?_⟩
  cases h:AZ 4 (x++y)with
  |true=>exact .inl ⟨rfl,λG f _=>qf _ G _ .ok f (by simp)⟩
  |false=>exact .inr ⟨rfl,Y _ rL⟩
 |drop=>
  obtain⟨one,rfl⟩:=ln1 p;obtain⟨x,e,J⟩:=C9 (j 0 one rfl rfl);exact⟨d,ws,r,4,kv0,one,_,rfl,I,v,e,λG f _=>qf _ G _ .ok f (by simp)⟩
 |«show»=>
  obtain⟨one,rfl⟩:=ln1 p;obtain⟨x,e,J⟩:=C9 (j 0 one rfl rfl);have R:=(DL J).2.1;exact⟨d,ws,r,4,kv0,one,x,rfl,I,v,e,by lia,λG s=>P _ G (Ans.shw (.all (by lia) (DL J).2.2)) s⟩
 |right=>
  obtain⟨one,rfl⟩:=ln1 p;obtain⟨x,L,_,_⟩:=B v (j 0 one rfl rfl);exact⟨_,_,_,_,_,_,x,L,λG s=>P _ G (LW _) s⟩
 |may=>
  obtain⟨one,rfl⟩:=ln1 p;obtain⟨x,L,_,_⟩:=B v (j 0 one rfl rfl);exact⟨_,_,_,_,_,_,x,L,λb G s=>P _ G (LW b) s⟩
 |many=>
  obtain⟨one,rfl⟩:=ln1 p;obtain⟨x,L,_,_⟩:=B v (j 0 one rfl rfl);exact⟨_,_,_,_,_,_,x,L,λG s=>P _ G (Ga (by decide)) s⟩
 |nth=>
  obtain⟨one,w,rfl⟩:=ln2 p;obtain⟨n,hn,rfl⟩:=Ji (T 1 w Ci rfl rfl);obtain⟨x,L,M,_⟩:=B v (j 0 one rfl rfl);refine⟨_,_,_,_,_,_,x,n,L,hn,?_⟩
  by_cases h:n=0
  ·exact .inl ⟨h,λbs G s hb=>P _ G (Ans.shw (.all (by unfold brt;rw[List.length_map];lia) λc hc=>by
    unfold brt at hc;obtain⟨b,_,rfl⟩:=List.mem_map.mp hc;exact LU b)) s⟩
  ·exact .inr ⟨h,Y _ rU⟩
 |number=>
  obtain⟨one,b,rfl⟩:=ln2 p;obtain⟨x,L,M,_⟩:=B v (j 0 one rfl rfl);have hb:=Nat.le_trans (Z b (by simp)) hl;refine⟨_,_,_,_,_,_,x,b,L,hb,?_⟩
  cases h:AZ 4 b with
  |false=>exact .inl ⟨rfl,Y _ rL⟩
  |true=>
   cases X:BQ 4 x b with
   |false=>exact .inr (.inl ⟨rfl,rfl,Y _ rR⟩)
   |true=>exact .inr (.inr ⟨rfl,rfl,λG s=>P _ G (Ga (Nat.zero_le _)) s⟩)
 |sure=>
  obtain⟨one,rfl⟩:=ln1 p;obtain⟨x,L,M,X⟩:=B v (j 0 one rfl rfl);refine⟨_,_,_,_,_,_,x,L,λt G s w=>P _ G (Ans.shw (.all (by have:=w.1;lia) λc hc=>?_)) s⟩;rcases w.2 c hc with z|⟨b,rfl⟩
  ·exact X c z
  ·exact LU b
 |fewest=>
  obtain⟨one,rfl⟩:=ln1 p;obtain⟨x,e,J⟩:=C9 (j 0 one rfl rfl);obtain⟨R,M,_⟩:=DL J;refine⟨_,_,_,_,_,_,x,⟨rfl,I,by decide,by decide,v,e,R,rfl,J.symm⟩,by rcases J with rfl|rfl;exact .inr rfl;exact .inl rfl,λo G s be=>P _ G ?_ s⟩
  match o,be with
  |none,_=>exact .none
  |some (w,S),be=>
   have hlen2:S.length=x.length:=be w S rfl;have hc:=Gw x S;have hd1:=Jd (chg x S);have hl1:=F4 8 (chg x S) (by lia);have hs:=GH (a:=brx S) (n:=40) (by decide) (by unfold brx;rw[List.length_map];lia);show Ans (Ai (chg x S)++[32]++shw (brx S))
   cases e:Ai (chg x S)with
   |nil=>exact absurd e (Sf _)
   |cons c t=>
    rw[e]at hd1 hl1;have:=hd1 c List.mem_cons_self;refine⟨?_,λz=>?_,λz=>?_⟩
    ·simp only[List.length_append,List.length_cons,List.length_nil]at*;lia
    ·cases z;lia
    ·have:=(List.cons.inj z).1;lia
 |more=>
  obtain⟨one,rfl⟩:=ln1 p;obtain⟨x,L,M,_⟩:=B v (j 0 one rfl rfl);refine⟨_,_,_,_,_,_,x,L,λns G s dl=>P _ G ?_ s⟩
  cases ns with
  |nil=>exact .none
  |cons y t=>
   have hb:=dl y List.mem_cons_self;refine Ga (n:=y.toNat) ?_;lia
 |names=>exact⟨d,ws,r,4,kv0,_,rfl,I,MN,by decide,λG s=>P _ G ⟨by decide,by decide,by decide⟩ s⟩
def Nh(hd:Dk C H d r 4 kv0)(i:l.length<=1000)(hk:knw l=some x)(q:∀f a,f≠[111,100,100]->f≠Gb->FB [d,r] H a->Q (tx f) a):spSaid8 K cs C ([.ref d,tx l]++[]) H Q E:=
 ⟨d,r,4,kv0,_,rfl,hd,λp v j b=>OI (dd:=x.1) (args:=x.2) hd i hk (λt a h o=>j t a h.1 h.2.1 λG s=>q t G h.2.2 (λe=>h.2.1 (by rw[e];rfl)) (o.s s))
   (b _ _ .name λa s=>q _ a (by decide) (by decide) (FB.of s)) (b _ _ .kinds λa s=>q _ a (by decide) (by decide) (FB.of s)) (b _ _ .line λa s=>q _ a (by decide) (by decide) (FB.of s)) (b _ _ .number λa s=>q _ a (by decide) (by decide) (FB.of s)) (b _ _ .right λa s=>q _ a (by decide) (by decide) (FB.of s)) (b _ _ .filling λa s=>q _ a (by decide) (by decide) (FB.of s))⟩
def QV{k:Int}(hd:Dk C H d r k kvs)(a:NoWd K H v)(q:∀b,Same H b->Q (tx Gb) b):spSaid8 K cs C ([.ref d,v]++[]) H Q E:=
 ⟨d,r,k,kvs,_,rfl,hd,λh i j e=>⟨d,r,k,kvs,v,rfl,hd, .inl ⟨a,e _ _ .row q⟩⟩⟩
def IF{k:Int}{one a:List Nat}(hd:Dk C H d r k kvs)(x:l.length<=1000)(hk:knw l=some (.show,[one]))(o:AY kvs (kyT one)=some (tx a))(p:Ans (shw a))(e:a.length<=1000)(q:∀h,Same H h->Q (tx (shw a)) h):spSaid8 K cs C ([.ref d,tx l]++[]) H Q E:=
 ⟨d,r,k,kvs,_,rfl,hd,λJ y z L=>⟨d,r,k,kvs,_,rfl,hd, .inr ⟨l, .show,[one],rfl,x,hk, .inr ⟨λi b v M=>by
   match i with
   |0=>cases v;rw[o];rfl
   |i+1=>simp at v,λy ws h P sm R j=>⟨d,ws,r,k,kvs,one,a,rfl,hd.same sm,j,o,e,λG s=>z _ G p.1 p.2.1 λB I=>q B ((sm.trans s).trans I)⟩⟩⟩⟩⟩
def Sk:knw [115,104,111,119,32,97,98]=some (.show,[[97,98]]):=by with_unfolding_all rfl
def Pi:knw [115,104,111,119,32,110,111,110,101]=some (.show,[[110,111,110,101]]):=by with_unfolding_all rfl
def Odp(K:W.Frag)(p:Addr)(H:Hp)(v:V):Prop:=(∃ty,TyOf K H v (.type ty)/\ty∈Bf/\ty≠"str")/\∀a,v= .ref a->a≠p
theorem Odp.same(h:Odp K p H v)(s:Same H H'):Odp K p H' v:=let⟨⟨ty,a,b⟩,c⟩:=h;⟨⟨ty,a.same s,b⟩,c⟩
def Odp.drawn(h:Odp K p H v)(s:SameBut1 p H H'):RowD K H' v:=let⟨⟨ty,a,b⟩,c⟩:=h; .inr ⟨ty,a.keep c s,b⟩
theorem Odp.lst{x:Addr}(po:Po H p)(h:H x=none):Odp K p (upd H x (.lst xs)) (.ref x):=⟨⟨"list", .lst AF,by decide,by decide⟩,λa e=>by cases e;exact po.ne h⟩
theorem Odp.tup{x:Addr}(po:Po H p)(h:H x=none):Odp K p (upd H x (.tup xs)) (.ref x):=⟨⟨"tuple", .tup AF,by decide,by decide⟩,λa e=>by cases e;exact po.ne h⟩
def Odp.dct{x:Addr}{xs:Kv}(po:Po H p)(h:H x=none):Odp K p (upd H x (.dK xs)) (.ref x):=⟨⟨"dict", .dK AF,by decide,by decide⟩,λa e=>by cases e;exact po.ne h⟩
theorem Odp.non:Odp K p H .non:=⟨⟨_, .non,by decide,by decide⟩,λa e=>by cases e⟩
theorem Odp.int(i:Int):Odp K p H (.int i):=⟨⟨_, .int i,by decide,by decide⟩,λa e=>by cases e⟩
theorem Odp.bl(b:Bool):Odp K p H (.bl b):=⟨⟨_, .bl b,by decide,by decide⟩,λa e=>by cases e⟩
def Ls(h0:0<=a)(d:a<(xs.length:Nat)):∃v∈xs,atI xs a=some v:=by
 obtain⟨m,rfl⟩:=Int.eq_ofNat_of_zero_le h0;have b:m<xs.length:=by lia
 refine⟨xs[m],List.getElem_mem b,?_⟩;unfold atI;rw[Bn b];exact List.getElem?_eq_getElem b
end BrS
namespace L2
open PySem.Builtin PySem.Builtin.Str
variable{l:List Stmt}
def Od(x y z:Str)(t u v w:Tok)(h0:(u==0||v==0)=false)(a:(u==v)=false)(b:(y==z)=false)(d:tooLong (x.length+(occurrences x y 0 x.length 1).length*z.length)=false):
 Gives («str.replace» ⟨[.str x t, .str y u, .str z v, .int 1 w],[]⟩) (if((occurrences x y 0 x.length 1).isEmpty||(y.length==0&&z.length==0))=true then .val (.str x t)else .str (glued z (partsBetween x (occurrences x y 0 x.length 1) y.length))):=by
 show Gives (if((occurrences x y 0 x.length 1).isEmpty||(y.length==0&&z.length==0))=true then(do rule "str.replace.nothing";ret (.str x t))else
       (do let same<-isSame (.str y u) (.str z v)
           if same=true then(do rule "str.replace.old-is-new";ret (.str x t))else
           if tooLong (x.length+(occurrences x y 0 x.length 1).length*z.length)=true then unsupported "str.replace:memory" else
           retStr (glued z (partsBetween x (occurrences x y 0 x.length 1) y.length)))) _
 cases e:((occurrences x y 0 x.length 1).isEmpty||(y.length==0&&z.length==0))
 ·rw[isSame_str_other y z u v h0 a b,d];exact .of_eq rfl
 ·exact .rule (.of_eq rfl)
def PS1(X:Cx)(st:Stmt)(t:TS):Prop:=
 ∀ (pins:List (Addr×Obj)) (s:Shared) (σ:W3) (H:Hp) (D:Ends),1<=s.toks->Inv X pins σ H s->t D σ H->wpAny (model X.prog X.w) X.A (exec st X.env) (SP X pins D) X.xe s
def Ce(X:Cx)(st:List Stmt)(t:TS):Prop:=
 ∀ (pins:List (Addr×Obj)) (s:Shared) (σ:W3) (H:Hp) (D:Ends),1<=s.toks->Inv X pins σ H s->t D σ H->wpAny (model X.prog X.w) X.A (execs st X.env) (SP X pins D) X.xe s
section
variable{st:Stmt}{t u:TS}
def PS.one(h:PS X st t):PS1 X st t:=λpins s σ H D _ I q=>h pins s σ H D I q
def PSs.one(h:PSs X rest t):Ce X rest t:=λpins s σ H D _ I q=>h pins s σ H D I q
def O6(a:PS1 X st t)(b:Ce X rest u):Ce X (st::rest) (Cc t u):=by
 intro pins s σ H D ht I h;refine wpAny_execs_cons (wpAny_mono (wpAny_toks_of ht (a pins s σ H {D with nx:=u D} ht I h)) (λf d q=>?_) λ_ _ x=>x.2);obtain⟨e,q⟩:=q
 cases f with
 |next=>
  obtain⟨σ',i,j,q⟩:=q;exact b pins d σ' i D e j q
 |ret v=>exact q
 |brk=>exact q
 |cont=>exact q
def UY{c:Expr}{a b:List Stmt}{tc:TT}(p:PT X c tc)(r:Ce X a t)(v:Ce X b u):PS1 X (.If c a b pos) (De tc t u):=by
 intro pins s σ H D ht I h;refine wpAny_If (wpAny_mono (wpAny_toks_of ht (p pins s σ H _ I h)) (λd e q=>?_) λ_ _ x=>x.2);obtain⟨i,j,l,o⟩:=q
 cases d with
 |true=>exact r pins e σ j D i l o
 |false=>exact v pins e σ j D i l o
def SA{l:List Nat}{c:Str}{k p}(d:X.N.Nodup)(j:X.N[i]? =some x)(o:Loc X.env.scope x)(y:c=⟨l.toArray⟩)(z:Ce X rest u)(r:swapsWith (.Constant (.str c) k p) (some (.Name x pos')) pos.line X.env=pure false:=by rfl)(hf:X.fn x=true\/X.env.scope.names.lookup x=some .local:=by first|exact .inl rfl|exact .inr rfl|assumption):
 PSs X (.Assign [.Name x pos'] (.Constant (.str c) k p) pos::rest) (Cc (Bb (tC (tx l)) (Aw i)) u):=by
 intro pins s σ H D I h;subst y;have L:=Bz (pos:=pos) (pos':=pos') d j o (te:=tC (tx l)) (e:= .Constant (.str ⟨l.toArray⟩) k p) (λpins s σ H Q I q=>Calls.Constant_str ⟨tx l,H,I.tok _,⟨_,rfl⟩,q⟩) r hf;have b:wpAny (model X.prog X.w) X.A (exec (.Assign [.Name x pos'] (.Constant (.str ⟨l.toArray⟩) k p) pos) X.env) (λf a=>1<=a.toks/\SP X pins {D with nx:=u D} f a) (λe a=>X.xe e a) s:=by
  refine wpAny_Assign_Name (Calls.Constant_str ?_) r;refine wpAny_mono (wpAny_toks_of (n:=1) (show 1<=s.toks+1 by lia) (Dt (I.tok (s.toks+1)) d j o (v:=tx l) ⟨_,rfl⟩ (λM B=>⟨_,H,B,h⟩) hf)) (λf a q=>q) λ_ _ x=>x.2
 refine wpAny_execs_cons (thn b λf a q=>?_);obtain⟨b,q⟩:=q
 cases f with
 |next=>
  obtain⟨σ',G,J,q⟩:=q;exact z pins a σ' G D b J q
 |ret v=>exact q
 |brk=>exact q
 |cont=>exact q
def tRp(b:TE):TE:=λσ H Q=>b σ H λx d=>∃l,x=tx l/\l.length<=1000/\∀a,a.length<=l.length+2->Q (tx a) d
def Ke(x y:Str):(occurrences x y 0 x.length 1).length<=1:=StrLaws.occ_length_le x y 0 x.length 1
def O4(x y z:Str)(a:z.length<=2):(glued z (partsBetween x (occurrences x y 0 x.length 1) y.length)).length<=x.length+2:=by
 have b:=Ke x y;have d:(glued y (partsBetween x (occurrences x y 0 x.length 1) y.length)).length=x.length:=by rw[StrLaws.glued_between_self]
 rw[size_glued,length_partsBetween,Nat.add_sub_cancel]at d;rw[size_glued,length_partsBetween,Nat.add_sub_cancel];have e:(occurrences x y 0 x.length 1).length*z.length<=1*2:=Nat.mul_le_mul b a;lia
def SF{o:Expr}{y z:Str}{k1 k2 k3:Nat}{q1 q2 q3 ap cp:Pos}(M:PE X o to)(i:(y==z)=false)(G:z.length<=2)
 (a:attributeBase o "replace" X.env (eval o X.env)=eval o X.env:=by rfl) (b:(ap.endLine==cp.line)=true:=by rfl):
 PS1 X (.Return (some (.Call (.Attribute o "replace" ap) [.Constant (.str y) k1 q1, .Constant (.str z) k2 q2, .Constant (.int 1) k3 q3] [] cp)) pos) (EL (tRp to)):=by
 intro pins s σ H D ht I h;refine wpAny_Return_some (wpAny_Call_method_late a rfl b rfl (wpAny_mono (wpAny_toks_of ht (M pins s σ H _ I h)) (λv d q=>?_) λ_ _ x=>x.2));obtain⟨R,x,J,L,P,l,rfl,S,q⟩:=q;obtain⟨t,rfl⟩:=P;refine⟨"str","str.replace",PySem.F.plainAttrs_str,PySem.F.slot_str_replace,PySem.F.type_str_replace,typeIs_str _ _ _,(λ_ e=>nomatch e),?_⟩;refine Calls.callWith_builtin rfl (Calls.evalArgs_plain ?_);show wpAny _ _ (spliced [(false,eval (.Constant (.str y) k1 q1) X.env),(false,eval (.Constant (.str z) k2 q2) X.env),(false,eval (.Constant (.int 1) k3 q3) X.env)]) _ _ _;refine Calls.spliced_cons (Calls.Constant_str (Calls.spliced_cons (Calls.Constant_str (Calls.spliced_cons (wpAny_Constant_int (Calls.spliced_nil ?_))))));have T:(⟨l.toArray⟩:Str).length=l.length:=by simp[Str.length]
 have j:=Ke ⟨l.toArray⟩ y;have p:tooLong ((⟨l.toArray⟩:Str).length+(occurrences ⟨l.toArray⟩ y 0 (⟨l.toArray⟩:Str).length 1).length*z.length)=false:=by
  have U:(occurrences ⟨l.toArray⟩ y 0 (⟨l.toArray⟩:Str).length 1).length*z.length<=1*2:=Nat.mul_le_mul j G;unfold tooLong;rw[sizeLine_eq];exact decide_eq_false (by lia)
 have r:d.toks≠0:=by lia
 have B:(d.toks==0||(d.toks+1)==0)=false:=by simp[r]
 refine call_gives PySem.F.slot_str_replace (typeIs_str _ _ _) PySem.F.entry_str_replace (PySem.F.args_str_replace_4 _ _ _ _) (Od ⟨l.toArray⟩ y z t d.toks (d.toks+1) _ B (by simp) i p) ?_
 split
 ·exact⟨tx l,σ,J,L.tok _,⟨_,rfl⟩,q l (by lia)⟩
 ·have Y:=O4 ⟨l.toArray⟩ y z G;generalize glued z (partsBetween ⟨l.toArray⟩ (occurrences ⟨l.toArray⟩ y 0 (⟨l.toArray⟩:Str).length 1) y.length)=g at*
  refine⟨by rw[sizeLine_eq];lia,?_⟩;have Q:(⟨g.cps.toList.toArray⟩:Str)=g:=by cases g;simp
  refine⟨tx g.cps.toList,σ,J,L.tok _,?_,q _ ?_⟩
  ·show∃t,_=Value.str ⟨g.cps.toList.toArray⟩ t;rw[Q];exact⟨_,rfl⟩
  have:g.length=g.cps.toList.length:=by simp[Str.length]
  lia
def JX(a:PS1 X st t):Ce X [st] t:=by
 intro pins s σ H D ht I h;refine wpAny_execs_cons (thn (a pins s σ H D ht I h) λf b q=>?_)
 cases f with
 |next=>exact wpAny_execs_nil q
 |ret v=>exact q
 |brk=>exact q
 |cont=>exact q
inductive PS1b (X:Cx) (st:Stmt) (t:TS):Prop
 |mk (h:PS1 X st t):PS1b X st t
inductive PSs1b (X:Cx) (st:List Stmt) (t:TS):Prop
 |mk (h:Ce X st t):PSs1b X st t
def PSs1b.pss(h:PSs1b X l t):Ce X l t:=h.casesOn λh=>h
def PSb.one1(h:PSb X st t):PS1b X st t:=⟨h.ps.one⟩
def BN(h:PS1b X st t)(r:PSs1b X rest u):PSs1b X (st::rest) (Cc t u):=h.casesOn λh=>⟨O6 h r.pss⟩
def Qj(h:PS1b X st t):PSs1b X [st] t:=h.casesOn λh=>⟨JX h⟩
end
end L2
namespace BrS
variable{a:Addr}{H0:Hp}{t:List Nat}{ys:List V}{b:Nat}{Q:VK}
def Txs(b:Nat)(xs:List V):Prop:=∀v∈xs,∃t,v=tx t/\t.length<=b
def Txs.nil:Txs b []:=λ_ h=>nomatch h
def Txs.cons(h:t.length<=b)(r:Txs b xs):Txs b (tx t::xs):=λv hv=>by
 rcases List.mem_cons.mp hv with rfl|hv
 ·exact⟨t,rfl,h⟩
 ·exact r v hv
def Txs.app(h:Txs b xs)(r:Txs b ys):Txs b (xs++ys):=λv a=>(List.mem_append.mp a).elim (h v) (r v)
def OdL(p:Addr)(e:Hp)(b n:Nat)(a:Addr)(H:Hp):Prop:=∃d,d.length=n/\n<=100/\Txs b d/\H a=some (.lst d)/\a≠p/\Po H p/\SameBut1 p e H/\e a=none
def OdL.mk(po:Po H p)(s:SameBut1 p H0 H)(h:H a=none)(ht:Txs b xs)(d:xs.length=n)(e:n<=100):OdL p H0 b n a (upd H a (.lst xs)):=⟨xs,d,e,ht,AF,po.ne h,po.same (AK h _),s.trans (SameBut1.of (AK h _)),SameBut1.free1 s po h⟩
def OdL.po(o:OdL p H0 b n a H):Po H p:=let⟨_,_,_,_,_,_,h,_⟩:=o;h
theorem OdL.ty(o:OdL p H0 b n a H):tyV K "list" (.ref a) H:=let⟨d,_,_,_,h,_⟩:=o;SqL.ty (SqL.of h)
def OdL.add{l:Addr}{m:Nat}(o:OdL p H0 b n a H)(j:H l=none)(r:Txs b ys)(G:n+ys.length=m)(v:m<=100)(q:∀d i,OdL p H0 b m d i->Q (.ref d) i):rPlus (.ref a) (.ref l) (upd H l (.lst ys)) Q:=by
 obtain⟨I,J,_,x,y,L,z,B,_⟩:=o;have e:=AK j (.lst ys);exact DB (e _ _ y) AF (small (by lia)) λd h=>q d _ (OdL.mk (z.same e) (B.trans (SameBut1.of e)) h (x.app r) (by rw[List.length_append];lia) v)
theorem OdL.app{m:Nat}(o:OdL p H0 b n a H)(s:SameBut1 p H H')(po:Po H' p)(ht:t.length<=b)(r:n+1=m)(i:m<=100):∃d,H' a=some (.lst d)/\d.length<sizeLine/\OdL p H0 b m a (upd H' a (.lst (d++[tx t]))):=by
 obtain⟨d,v,_,j,l,e,x,q,h⟩:=o;refine⟨d,s _ _ l e,DQ (by lia),d++[tx t],by rw[List.length_append,List.length_singleton];lia,i,j.app (.cons ht .nil),AF,e,po.keep8 SameBut1.upd e,λc u z nc=>?_,h⟩;rw[AH (AM z h)];exact s c u (q c u z nc) nc
def OdL.pick{i:Int}(o:OdL p H0 b n a H)(s:SameBut1 p H H')(d:0<=i)(e:i<n)(q:∀t,t.length<=b->SameBut1 p H0 H'->Q (tx t) H'):CK K (.ref a) (.int i) H' Q:=by
 obtain⟨xs,h,_,j,l,r,B,x,_⟩:=o;obtain⟨v,y,z⟩:=Ls (xs:=xs) d (by rw[h];exact e);obtain⟨t,rfl,ht⟩:=j v y;exact AL (SqL.of (s _ _ l r)) z (q t ht (x.trans s))
end BrS
namespace L2
def pxt(l:List Nat)(h:x=⟨l.toArray⟩:=by decide +kernel):PE X (.Constant (.str x) j pos) (tC (tx l)):=Ae h
def Iz{osc sc:Scope}{N:List Str}{own':List Str}{sel':List Nat}{cl:List (Str×Addr)}{s2:Shared}{H2:Hp}
 (e:X.env.scope=osc) (a:(Br X own' sel' sc cl C s2 H2 fp).N=N) (h:GC (Qg sc osc) N own sel scope=true):CompOkC (Br X own' sel' sc cl C s2 H2 fp).env.scope (Br X own' sel' sc cl C s2 H2 fp).N own sel scope:=by
 subst e;subst a;exact Ax h
def Unr(J:W4)(g:TG)(tb:TS)(D:Ends):Nat->Nat->W3->Hp->Prop
 |0,i,σ,H=>J.stop i H/\D.nx σ H
 |r+1,i,σ,H=>J.go i H/\∀x a,J.yld i H x a->g x σ a λσ2 b=>tb {D with nx:=Unr J g tb D r (i+1),ct:=Unr J g tb D r (i+1),bk:=D.nx} σ2 b
section
variable{J:W4}{r:Nat}{c:Int}
def unr(r:Nat)(h:Unr J g tb D r 0 σ H):Bu J g tb D σ H:=by
 refine⟨λi m σ H=>Unr J g tb D m i σ H,⟨r,h⟩,λi m σ H w=>?_⟩
 cases m with
 |zero=>exact .inl w
 |succ m=>exact .inr ⟨w.1,_,λσ' a z=>⟨m,Nat.lt_succ_self _,z⟩,w.2⟩
def LZ(a:i<n)(h:g (.int (lo+i)) σ H λσ2 b=>tb {D with nx:=Unr (Itr lo n) g tb D r (i+1),ct:=Unr (Itr lo n) g tb D r (i+1),bk:=D.nx} σ2 b):Unr (Itr lo n) g tb D (r+1) i σ H:=⟨a,λx d y=>by obtain⟨rfl,rfl⟩:=y;exact h⟩
def Bl(a:i<n)(h:g (.int (lo+i*c)) σ H λσ2 b=>tb {D with nx:=Unr (CB lo c n) g tb D r (i+1),ct:=Unr (CB lo c n) g tb D r (i+1),bk:=D.nx} σ2 b):Unr (CB lo c n) g tb D (r+1) i σ H:=⟨a,λx d y=>by obtain⟨rfl,rfl⟩:=y;exact h⟩
end
end L2
namespace BrS
variable{s':Addr}{x:Int}{L:List (List Int)}{nm:List Nat}{vs:List V}{T:Nat->Nat->Int}
def TQ3:Nat->Nat->Int:=λi j=>if i=j\/(i=0/\j=2)then 1 else 0
abbrev Pl4(a:List Nat):List (List Int):=a.map (plw (ones 4))
def Tw2.row(h:Tw2 a):AZ 4 a=true:=by rcases h with rfl|rfl<;>decide
def Tw2.len(h:Tw2 a):a.length=0\/a.length=2:=by rcases h with rfl|rfl<;>decide
def L7(i j:Nat):0<=TQ3 i j/\TQ3 i j<=cap:=by
 have h:(1:Int)<=cap:=by unfold cap top30;decide +kernel
 unfold TQ3;split
 ·exact⟨by decide,h⟩
 ·exact⟨by decide,Int.le_trans (by decide) h⟩
def FpW(n:Nat)(H:Hp)(vs:List V):Prop:=∀v∈vs,∃ (T:Addr) (s e:Nat) (r:Int),v= .ref T/\H T=some (.tup [.int s, .int e, .int r])/\s<e/\e<n/\0<=r/\r<=cap*cap
theorem FpW.lst{a:Addr}{o:HO}(h:FpW n H vs)(d:H a=some (.lst xs)):FpW n (upd H a o) vs:=λv z=>let⟨T,x,b,r,e,g,w⟩:=h v z;⟨T,x,b,r,e,by rw[AH (λc=>by rw[c,d]at g;cases g)];exact g,w⟩
def FpW.more{T:Addr}{s e:Nat}{r:Int}(h:FpW n H vs)(g:H T=some (.tup [.int s, .int e, .int r]))(w:s<e/\e<n/\0<=r/\r<=cap*cap):FpW n H (vs++[.ref T]):=λv z=>by
 rcases List.mem_append.mp z with z|z
 ·exact h v z
 ·rw[List.mem_singleton.mp z];exact⟨T,s,e,r,rfl,g,w⟩
inductive spPairsW (vs:List V) (H:Hp) (Q:VK) (E:XK):Prop
 |mk (p s:Addr) (ps:List (List Int)) (k:Nat) (ads:Nat->Addr) (H0:Hp) (_:vs=[.ref p, .ref s]) (_:Pls H p ps) (_:(ps.length=0\/ps.length=2)) (_:k<=4) (_:(∀l∈ps,l.length=2*k/\Sm l)) (_:Tb H0 H s ads ps.length TQ3) (_:∀ (F:Addr) (vs':List V) (H':Hp),H F=none->Same H H'->H' F=some (.lst vs')->FpW ps.length H' vs'->Q (.ref F) H')
inductive spBrSumsW (vs:List V) (H:Hp) (Q:VK) (E:XK):Prop
 |mk (p s:Addr) (ps:List (List Int)) (k:Nat) (ads:Nat->Addr) (H0:Hp) (_:vs=[.ref p, .ref s]) (_:Pls H p ps) (_:(ps.length=0\/ps.length=2)) (_:k<=4) (_:(∀l∈ps,l.length=2*k/\Sm l)) (_:Tb H0 H s ads ps.length TQ3) (_:∀ (F:Addr) (ad:Nat->Addr) (T:Nat->Nat->Int) (H':Hp),Tw H H' F ad ps.length (2*k) T->Q (.ref F) H')
def RO:(cap*cap).natAbs<big:=by unfold cap big top30;decide +kernel
theorem Jp{c:Int}:∀ {ns:List Int},c∈ns->∃b:Nat,ns[b]? =some c/\∀m:Nat,m<b->ns[m]? ≠some c
 |n::ns,h=>by
  by_cases e:n=c
  ·exact⟨0,by rw[e];rfl,λm a=>absurd a (Nat.not_lt_zero _)⟩
  ·obtain⟨b,d,i⟩:=Jp ((List.mem_cons.mp h).resolve_left λz=>e z.symm);refine⟨b+1,d,λm a=>?_⟩
   cases m with
   |zero=>exact λz=>e (Option.some.inj z)
   |succ m=>exact i m (by lia)
def WL:0<=cap:=by unfold cap top30;decide +kernel
def SllW(n:Nat)(H:Hp)(vs:List V):Prop:=∀v∈vs,∃ (T:Addr) (i b:Nat),v= .ref T/\H T=some (.tup [.int i,tx [brs.getD b 0]])/\i<n
def SllW.same(h:SllW n H vs)(s:Same H H'):SllW n H' vs:=λv z=>let⟨T,a,b,e,g,w⟩:=h v z;⟨T,a,b,e,s _ _ g,w⟩
inductive spFilledT (vs:List V) (H:Hp) (Q:VK) (E:XK):Prop
 |mk (a:_) (_:vs=[.int 4,tx a]) (_:Tw2 a) (_:∀ (T p s:Addr) (ad:Nat->Addr) (H0 H':Hp),Same H H'->H' T=some (.tup [.ref p, .ref s])->Pls H' p (Pl4 a)->Tb H0 H' s ad a.length TQ3->Q (.ref T) H')
inductive spSureW (vs:List V) (H:Hp) (Q:VK) (E:XK):Prop
 |mk (a:_) (_:vs=[.int 4,tx a]) (_:Tw2 a) (_:∀ (D:Addr) (vs:List V) (H':Hp),H D=none->Same H H'->H' D=some (.lst vs)->SllW a.length H' vs->Q (.ref D) H')
inductive spManyT (vs:List V) (H:Hp) (Q:VK) (E:XK):Prop
 |mk (a:_) (_:vs=[.int 4,tx a]) (_:Tw2 a) (_:∀H',Same H H'->Q (.int 1) H')
def fT(k:Nat)(a:List Nat)(j:Nat)(L:List (List Int))(i:Nat):List Int:=if((A6 (plw (ones k) (a.getD i 0))).any λn=>n !=0)=true/\0<TQ3 (i+1) j then(L.getD i []).map (· +1)else []
def DLw(n:Nat)(ns:List Int):Prop:=ns.Pairwise (· < ·)/\(∀x∈ns,0<=x/\x<=n)/\ns.length<=63
section
variable{k:Nat}
def GV(b:∀i l,L[i]? =some l->DLw i l)(i:Nat):(fT k a j L i).length<=63/\∀x∈fT k a j L i,0<=x/\x<=i+1:=by
 unfold fT
 split
 ·rw[List.length_map,List.getD_eq_getElem?_getD]
  cases e:L[i]? with
  |none=>exact⟨by simp,by simp⟩
  |some l=>
   obtain⟨_,d,h⟩:=b i l e;refine⟨h,λx o=>?_⟩;obtain⟨y,p,rfl⟩:=List.mem_map.mp o;have:=d y p;lia
 ·exact⟨by simp,by simp⟩
theorem GW(b:∀i l,L[i]? =some l->DLw i l):∀n,((List.range n).flatMap (fT k a j L)).length<=63*n
 |0=>by simp
 |n+1=>by
  rw[List.range_succ,List.flatMap_append,List.length_append,List.flatMap_singleton];have:=GW b n;have:=(GV (k:=k) (a:=a) (j:=j) b n).1;lia
def S0(b:∀i l,L[i]? =some l->DLw i l)(h:x∈(List.range j).flatMap (fT k a j L)):0<=x/\x<=j:=by
 obtain⟨i,d,e⟩:=List.mem_flatMap.mp h;have:=List.mem_range.mp d;have:=(GV b i).2 x e;lia
end
inductive spBeforeW (vs:List V) (H:Hp) (Q:VK) (E:XK):Prop
 |mk (pp sp sh:Addr) (k:Nat) (a:List Nat) (H0:Hp) (ad:Nat->Addr) (j:Nat) (L:List (List Int)) (_:vs=[.ref pp, .ref sp, .ref sh, .int j]) (_:Pls H pp (a.map (plw (ones k)))) (_:Tb H0 H sp ad a.length TQ3) (_:Pls H sh L) (_:L.length=j) (_:j<=a.length) (_:a.length<=40) (_:k<=4) (_:(∀i l,L[i]? =some l->DLw i l)) (_:∀p ns H',H p=none->Same H H'->H' p=some (iL ns)->DLw j ns->Q (.ref p) H')
inductive spByStopW (vs:List V) (H:Hp) (Q:VK) (E:XK):Prop
 |mk (a:List Nat) (_:vs=[.int 4,tx a]) (_:Tw2 a) (_:∀r H' ad L,PlA H H' r ad L->L.length=a.length+1->(∀i l,L[i]? =some l->DLw i l)->Q (.ref r) H')
inductive spDepthsW (vs:List V) (H:Hp) (Q:VK) (E:XK):Prop
 |mk (a:List Nat) (_:vs=[.int 4,tx a]) (_:Tw2 a) (_:∀p ns H',H p=none->Same H H'->H' p=some (iL ns)->DLw a.length ns->Q (.ref p) H')
inductive spGoOnW (vs:List V) (H:Hp) (Q:VK) (E:XK):Prop
 |mk (a:List Nat) (_:vs=[.int 4,tx a]) (_:Tw2 a) (_:∀b H',Same H H'->Q (.bl b) H')
inductive spFewestW (vs:List V) (H:Hp) (Q:VK) (E:XK):Prop
 |mk (a:List Nat) (_:vs=[.int 4,tx a]) (_:Tw2 a) (_:∀ns H',Same H H'->DLw a.length ns->Q (hdv ns) H')
def LPw(t:Nat)(o:O):Prop:=∀w l,o=some (w,l)->(0<=w/\w<=top30*top30)/\∃p,p<t/\l=[2*p,2*p+1]
inductive spLPairW (vs:List V) (H:Hp) (Q:VK) (E:XK):Prop
 |mk (p1 p2:Addr) (x y:List Int) (k:Nat) (_:vs=[.ref p1, .ref p2]) (_:H p1=some (iL x)) (_:H p2=some (iL y)) (_:x.length=2*k) (_:y.length=2*k) (_:k<=4) (_:Sm x) (_:Sm y) (_:∀v o H',Same H H'->Bt (λb=>H b=none) H' v o->LPw k o->Q v H')
def ShW(n:Nat)(o:O):Prop:=∀w l,o=some (w,l)->l.length=n/\∀b∈l,b<8
inductive spSpansLW (vs:List V) (H:Hp) (Q:VK) (E:XK):Prop
 |mk (p:Addr) (ps:List (List Int)) (k:Nat) (_:vs=[.ref p]) (_:Pls H p ps) (_:(ps.length=0\/ps.length=2)) (_:k<=4) (_:(∀l∈ps,l.length=2*k/\Sm l)) (_:∀ (s r:Addr) (rs:List V) (xs:List V) (v:V) (o:O) (H':Hp),Same H H'->H' s=some (.lst (.ref r::rs))->H' r=some (.lst (xs++[v]))->Bt Any H' v o->ShW ps.length o->Q (.ref s) H')
inductive spFirstLW (vs:List V) (H:Hp) (Q:VK) (E:XK):Prop
 |mk (p:Addr) (ps:List (List Int)) (k:Nat) (_:vs=[.ref p]) (_:Pls H p ps) (_:(ps.length=0\/ps.length=2)) (_:k<=4) (_:(∀l∈ps,l.length=2*k/\Sm l)) (_:∀ (v:V) (o:O) (H':Hp),Same H H'->Ft H' v o->ShW ps.length o->Q v H')
inductive spFewest31W (vs:List V) (H:Hp) (Q:VK) (E:XK):Prop
 |mk (k:Int) (a:List Nat) (_:vs=[.int k,tx a]) (_:1<=k) (_:k<=4) (_:AZ k a=true) (_:(a.length=0\/a.length=2)) (_:∀ (v:V) (o:O) (H':Hp),Same H H'->FtC a H' v o->ShW a.length o->Q v H')
def Et{st:Nat}{T:Nat->Nat->V}(r:σ[2]? =some (some (.ref s')))(o:σ[3]? =some (some (.int (st:Int))))(d:st<=n)(tb:Tv H H1 H' s' ad n T)
 (q:∀v e,Tv H H1 e s' ad n (λa b=>if a=st then(if b=st then v else T a b)else T a b)->Bt (λb=>H1 b=none) e v (some (1,[]))->(∀b x,H1 b=none->H' b=some x->e b=some x)->D.nx σ e):
 Bb (HK (CY (tC (.int 1)) (CY (Cv tNil) tNil))) (FT (tOp (CK K) (BJ 2) (BJ 3)) (BJ 3) rSetL) D σ H':=by
 refine⟨small (show 0<=1000 by decide),λa i=>⟨small (show 2<=1000 by decide),λp j=>?_⟩⟩;have h:=AK i (.lst []);have l:=AK j (.tup [.int 1, .ref a]);have t:=tb.same (h.trans l);refine⟨_,r,_,o,AL (SqL.of t.top) (Ab (t.at d)) ⟨_,o,Bh (t.row st d) (Bn (by rw[KJ];lia)) (q (.ref p) _ (t.set d) ?_ λb x f z=>t.keep d b x f (l _ _ (h _ _ z)))⟩⟩;exact⟨p,a,rfl,tb.gr _ (h.free j),tb.gr _ i,t.keep d _ _ (tb.gr _ (h.free j)) AF,t.keep d _ _ (tb.gr _ i) (l _ _ AF)⟩
def FS(K:W.Frag)(cs:Cs)(C:Addr)(i:Nat):Bool:=
 W.mroIn K C (.ref cs.RowError)==some true&&W.kitOne K (.ref C) (.type "ValueError")==some true&&W.kitAny K (.ref C) ([cs.NoPlace,cs.NoTree,cs.NoWeights,cs.TooMany].map Value.ref)==some false&&
 ([cs.NoRow,cs.NoName,cs.NoKinds,cs.NoLine,cs.NoNumber,cs.NotRight,cs.NoFilling].map λc=>W.kitOne K (.ref C) (.ref c))==(List.range 7).map λj=>some (j==i)
def Lv(K:W.Frag)(cs:Cs):Bool:=(List.range 7).all λi=>FS K cs ([cs.NoRow,cs.NoName,cs.NoKinds,cs.NoLine,cs.NoNumber,cs.NotRight,cs.NoFilling].getD i 0) i
inductive Fct (K:W.Frag) (cs:Cs) (C:Addr) (nm:List Nat):Prop
 |mk (b1 b2 b3 b4 b5 b6 b7:Bool) (j:Nat) (wd:List Nat) (_:W.mroIn K C (.ref cs.RowError)=some true) (_:W.kitOne K (.ref C) (.ref cs.NoRow)=some b1) (_:W.kitOne K (.ref C) (.ref cs.NoName)=some b2) (_:W.kitOne K (.ref C) (.ref cs.NoKinds)=some b3) (_:W.kitOne K (.ref C) (.ref cs.NoLine)=some b4) (_:W.kitOne K (.ref C) (.ref cs.NoNumber)=some b5) (_:W.kitOne K (.ref C) (.ref cs.NotRight)=some b6) (_:W.kitOne K (.ref C) (.ref cs.NoFilling)=some b7) (_:W.kitAny K (.ref C) ([cs.NoPlace,cs.NoTree,cs.NoWeights,cs.TooMany].map Value.ref)=some false) (_:W.kitOne K (.ref C) (.type "ValueError")=some true) (_:[b1,b2,b3,b4,b5,b6,b7].count true=1) (_:[b1,b2,b3,b4,b5,b6,b7][j]? =some true) (_:(∀m,m<j->[b1,b2,b3,b4,b5,b6,b7][m]? ≠some true)) (_:atI [tx [78,111,82,111,119],tx [78,111,78,97,109,101],tx [78,111,75,105,110,100,115],tx [78,111,76,105,110,101],tx [78,111,78,117,109,98,101,114],tx [78,111,116,82,105,103,104,116],tx [78,111,70,105,108,108,105,110,103]] (j:Int)=some (tx wd)) (_:nm=9::wd) (_:wd.length<=10)
def QA{cs:Cs}(h:Lv K cs=true)(e:Cap8 cs C nm):Fct K cs C nm:=by
 have k:∀i,i<7->FS K cs ([cs.NoRow,cs.NoName,cs.NoKinds,cs.NoLine,cs.NoNumber,cs.NotRight,cs.NoFilling].getD i 0) i=true:=λi j=>List.all_eq_true.mp h i (List.mem_range.mpr j);have f:∀ (C:Addr) (i:Nat) (a:List Nat),FS K cs C i=true->[0==i,1==i,2==i,3==i,4==i,5==i,6==i].count true=1/\[0==i,1==i,2==i,3==i,4==i,5==i,6==i][i]? =some true/\(∀m,m<i->[0==i,1==i,2==i,3==i,4==i,5==i,6==i][m]? ≠some true)->atI [tx [78,111,82,111,119],tx [78,111,78,97,109,101],tx [78,111,75,105,110,100,115],tx [78,111,76,105,110,101],tx [78,111,78,117,109,98,101,114],tx [78,111,116,82,105,103,104,116],tx [78,111,70,105,108,108,105,110,103]] (i:Int)=some (tx a)->a.length<=10->Fct K cs C (9::a):=by
  intro C i a hk b l o;unfold FS at hk;simp only[Bool.and_eq_true,beq_iff_eq,List.map_cons,List.map_nil,List.range,List.range.loop,List.cons.injEq,and_true]at hk;obtain⟨⟨⟨p,q⟩,r⟩,v,x,y,z,B,G,d⟩:=hk;exact⟨_,_,_,_,_,_,_,i,a,p,v,x,y,z,B,G,d,r,q,b.1,b.2.1,b.2.2,l,rfl,o⟩
 cases e
 ·exact f _ 0 _ (k 0 (by decide)) (by decide) rfl (by decide)
 ·exact f _ 1 _ (k 1 (by decide)) (by decide) rfl (by decide)
 ·exact f _ 2 _ (k 2 (by decide)) (by decide) rfl (by decide)
 ·exact f _ 3 _ (k 3 (by decide)) (by decide) rfl (by decide)
 ·exact f _ 4 _ (k 4 (by decide)) (by decide) rfl (by decide)
 ·exact f _ 5 _ (k 5 (by decide)) (by decide) rfl (by decide)
 ·exact f _ 6 _ (k 6 (by decide)) (by decide) rfl (by decide)
def Tw2.all(h:Tw2 a):W 4 a 0 []=1:=by rcases h with rfl|rfl<;>decide
inductive spNthT (cs:Cs) (vs:List V) (H:Hp) (Q:VK) (E:XK):Prop
 |mk (a:List Nat) (n:Int) (_:vs=[.int 4,tx a, .int n]) (_:Tw2 a) (_:0<=n) (_:((n=0/\∀bs H',Same H H'->bs.length=a.length->Q (tx (brt bs)) H')\/(n≠0/\Ref E cs.NoNumber H)))
def Sta(a bs st:List Nat):Prop:=(bs=[]/\st=[])\/(a=[40,63]/\((bs=[0]/\st=[0])\/(bs=[0,1]/\st=[])))
def Sta.mw{bs st:List Nat}(h:Sta a bs st)(i:Tw2 a)(d:bs.length<a.length){b:Nat}(e:b<=bs.length):mw 4 a bs.length st b=if b=bs.length then 1 else 0:=by
 rcases i with rfl|rfl
 ·simp at d
 rcases h with⟨rfl,rfl⟩|⟨_,⟨rfl,rfl⟩|⟨rfl,rfl⟩⟩
 ·obtain rfl:b=0:=by simpa using e
  decide
 ·match b,e with
  |0,_=>decide
  |1,_=>decide
 ·simp at d
def Sta.next{bs st:List Nat}(h:Sta a bs st)(d:Tw2 a)(b:bs.length<a.length):Sta a (bs++[bs.length]) (stb st bs.length)/\bs.length<2/\st.length<=bs.length/\(bs.length%2=1->st≠[]):=by
 rcases d with rfl|rfl
 ·simp at b
 rcases h with⟨rfl,rfl⟩|⟨_,⟨rfl,rfl⟩|⟨rfl,rfl⟩⟩
 ·exact⟨.inr ⟨rfl, .inl ⟨rfl,rfl⟩⟩,by decide,by decide,by decide⟩
 ·exact⟨.inr ⟨rfl, .inr ⟨rfl,rfl⟩⟩,by decide,by decide,by decide⟩
 ·simp at b
def Sx{b:List Nat}(e:Tw2 a)(h:BQ 4 a b=true):b=brt (List.range a.length):=by
 unfold BQ at h;simp only[Bool.and_eq_true,decide_eq_true_eq,List.all_eq_true,List.mem_range,Bool.or_eq_true]at h;obtain⟨⟨⟨i,d⟩,j⟩,l⟩:=h;rcases e with rfl|rfl
 ·rw[List.length_eq_zero_iff.mp d];rfl
 match b,d with
 |[x,y],_=>
  have o:x=40:=by
   rcases l 0 (by decide)with z|z
   ·cases z
   ·exact z.symm
  subst o;have p:=Pm i y (by simp);have:∀y∈sgn 4,Rt [40,y]->y=41:=by decide
  rw[this y p j];rfl
inductive spNumberT (cs:Cs) (vs:List V) (H:Hp) (Q:VK) (E:XK):Prop
 |mk (a b:List Nat) (_:vs=[.int 4,tx a,tx b]) (_:Tw2 a) (_:b.length<=1000) (_:((BQ 4 a b=true/\∀H',Same H H'->Q (.int 0) H')\/(BQ 4 a b=false/\Ref E cs.NotRight H)))
inductive spSpansT (vs:List V) (H:Hp) (Q:VK) (E:XK):Prop
 |mk (p:Addr) (a:List Nat) (_:vs=[.ref p]) (_:Tw2 a) (_:Pls H p (Pl4 a)) (_:∀s ad H',Tb H H' s ad a.length TQ3->Q (.ref s) H')
def Eo{st:Nat}(i:σ[2]? =some (some (.ref s')))(h:σ[3]? =some (some (.int (st:Int))))(d:st<=n)(tb:Tb H H' s' ad n T)
 (q:∀e,Tb H e s' ad n (λa b=>if a=st/\b=st then 1 else T a b)->D.nx σ e):
 Bb (tC (.int 1)) (FT (tOp (CK K) (BJ 2) (BJ 3)) (BJ 3) rSetL) D σ H':=
 ⟨_,i,_,h,AL (SqL.of tb.top) (Ab (tb.at d)) ⟨_,h,Bh (tb.row st d) (Bn (by rw[C8];lia)) (q _ (tb.set d))⟩⟩
def S8(h:Tw2 a):∀i j,i<=a.length->j<=a.length->TQ3 i j=tbl (pa_ 4 a) 4 i j:=by
 rcases h with rfl|rfl
 ·have:∀i,i<1->∀j,j<1->TQ3 i j=tbl (pa_ 4 []) 4 i j:=by decide
  exact λi j b d=>this i (Nat.lt_succ_of_le b) j (Nat.lt_succ_of_le d)
 ·have:∀i,i<3->∀j,j<3->TQ3 i j=tbl (pa_ 4 [40,63]) 4 i j:=by decide
  exact λi j b d=>this i (Nat.lt_succ_of_le b) j (Nat.lt_succ_of_le d)
inductive spCInitT (C:Addr) (vs:List V) (H:Hp) (Q:VK) (E:XK):Prop
 |mk (co dx:Addr) (a:List Nat) (H0:Hp) (_:vs=[.ref co, .int 4,tx a]) (_:Tw2 a) (_:H co=some (.ins C dx [])) (_:H0 co=none) (_:Same H0 H) (_:∀H',Co C H0 H' co 4 a 0 []->Q .non H')
def StT(st:List Nat):Prop:=st=[]\/st=[0]
def Sta.st{bs st:List Nat}(h:Sta a bs st):StT st:=by
 rcases h with⟨_,e⟩|⟨_,⟨_,e⟩|⟨_,e⟩⟩
 ·exact .inl e
 ·exact .inr e
 ·exact .inl e
def Ku{st:List Nat}(h:Tw2 a)(b:StT st):(∀i,i<3->∀j,j<3->(tbl (pa_ 4 a) 4 i j).natAbs<2/\(tbl (pa_ 4 a) 4 i j*pa_ 4 a j 1).natAbs<2/\(pa_ 4 a i j).natAbs<2/\(pa_ 4 a i j=0\/pa_ 4 a i j=1))/\(∀i,i<4->(W 4 a i st).natAbs<2)/\
 ∀i,i<a.length+1->((List.range ((a.length-i+1)/2)).map λe=>tbl (pa_ 4 a) 4 i (i+2*e)*pa_ 4 a (i+2*e) 1*W 4 a (i+2*e+1) st).sum=W 4 a i (0::st):=by
 rcases h with rfl|rfl<;>rcases b with rfl|rfl<;>exact⟨by decide,by decide,by decide⟩
def Em(h:x.natAbs<2):x.natAbs<big:=Nat.lt_trans h (by unfold big;decide +kernel)
inductive spCClT (C:Addr) (vs:List V) (H:Hp) (Q:VK) (E:XK):Prop
 |mk (co:Addr) (a:List Nat) (i:Nat) (st:List Nat) (H0:Hp) (s:Nat) (_:vs=[.ref co, .int (s:Int), .int 1]) (_:Co C H0 H co 4 a i st) (_:Tw2 a) (_:StT st) (_:s<=a.length) (_:∀H',Same H H'->Q (.int (W 4 a s (0::st))) H')
inductive spCWiT (C:Addr) (vs:List V) (H:Hp) (Q:VK) (E:XK):Prop
 |mk (co:Addr) (a:List Nat) (i:Nat) (st:List Nat) (H0:Hp) (b:Nat) (_:vs=[.ref co, .int (b:Int)]) (_:Co C H0 H co 4 a i st) (_:Tw2 a) (_:StT st) (_:i<a.length) (_:b<2) (_:∀H',Same H H'->Q (.int (mw 4 a i st b)) H')
inductive spCTaT (C:Addr) (vs:List V) (H:Hp) (Q:VK) (E:XK):Prop
 |mk (co:Addr) (a:List Nat) (i:Nat) (st:List Nat) (H0:Hp) (b:Nat) (_:vs=[.ref co, .int (b:Int)]) (_:Co C H0 H co 4 a i st) (_:Tw2 a) (_:StT st) (_:i<a.length) (_:b<2) (_:st.length<=i) (_:b%2=1->st≠[]) (_:∀H',Co C H0 H' co 4 a (i+1) (stb st b)->Q .non H')
end BrS
namespace L2
variable{a:Addr}{c:Addr×Str×Stmt}{osl:Array (Option Value)}{R:List (Str×Addr)}{M:List (Str×Addr×Str×Stmt)}{G:List (Str×V)}{b:List Nat}{l:List Str}{P:List Value->Prop}{r:R2}{f:Str}{β:Type}{Q:VK}{μ:W3->Hp->Nat}{Pv U:W3->Hp->Prop}
def AllP{β:Type}(Q:Str->β->Prop):List (Str×β)->Prop
 |[]=>True
 |(x,b)::r=>Q x b/\AllP Q r
theorem AllP.map{Q R:Str->β->Prop}(h:∀x b,Q x b->R x b):∀ {l:List (Str×β)},AllP Q l->AllP R l
 |[],_=>trivial
 |(_,_)::_,z=>⟨h _ _ z.1,AllP.map h z.2⟩
theorem AllP.at{Q:Str->β->Prop}:∀ {l:List (Str×β)},AllP Q l->∀ (i:Nat) {x:Str} {b:β} (_:l[i]? =some (x,b):=by rfl),Q x b
 |(_,_)::_,z,0,_,_,e=>by cases e;exact z.1
 |(_,_)::_,z,i+1,_,_,e=>AllP.at z.2 i e
section
variable{P:Program}{q:Str}{st:Stmt}{N ps:List Str}{k:Nat}{f:Addr}
def FnN(K:W.Frag)(x:Str)(st:Stmt):Prop:=∃f fd,W.nsIn K mainGlobals x=some (some (.ref f))/\Fun K x x st f fd
def FnA(K:W.Frag)(mg:Str->Option Value)(x:Str)(st:Stmt):Prop:=∃f fd,mg x=some (.ref f)/\Fun K x x st f fd
def MtA(K:W.Frag)(q:Str)(c:Addr×Str×Stmt):Prop:=∃f fd,Meth K c.1 c.2.1 f/\Fun K c.2.1 q c.2.2 f fd
def ClN(K:W.Frag)(x:Str)(a:Addr):Prop:=W.nsIn K mainGlobals x=some (some (.ref a))/\FL K a=true
abbrev ClA(K:W.Frag)(mg:Str->Option Value)(x:Str)(a:Addr):Prop:=mg x=some (.ref a)/\ECls K a
def GlN(K:W.Frag)(x:Str)(v:V):Prop:=∃u,W.nsIn K mainGlobals x=some (some u)/\RelV v u
abbrev GlA(mg:Str->Option Value)(x:Str)(v:V):Prop:=∃u,mg x=some u/\RelV v u
section
variable{oc:Value}{od an:Option Addr}{kV doc pm cdv ct:Value}{F:List (Str×Stmt)}{m:Str}
def AllP.fn(i:W.nsIn K mainGlobals x=some (some (.ref f)))(l:K.lookup f=some ⟨oc,od, .func (W.fnOf x x (Ck st) (Bx st) (AW st) .none kV doc pm an cdv ct),osl⟩)(c:W.codeIn K cdv x=true)(k:W.keepIn K (.ref f)=true)(t:AllP (FnN K) F):AllP (FnN K) ((x,st)::F):=⟨⟨f,_,i,LJ l c k⟩,t⟩
def AllP.mt(i:W.findIn K (.ref C) m=some (some (.ref f)))(n:W.isFn K (.ref f)=true)(l:K.lookup f=some ⟨oc,od, .func (W.fnOf m q (Ck st) (Bx st) (AW st) .none kV doc pm an cdv ct),osl⟩)(c:W.codeIn K cdv q=true)(k:W.keepIn K (.ref f)=true)(t:AllP (MtA K) M):AllP (MtA K) ((q,C,m,st)::M):=⟨⟨f,_,⟨i,n,k⟩,LJ l c k⟩,t⟩
def AllP.cl(i:W.nsIn K mainGlobals x=some (some (.ref a)))(e:FL K a=true)(t:AllP (ClN K) R):AllP (ClN K) ((x,a)::R):=⟨⟨i,e⟩,t⟩
def AllP.tx{s:Str}{u:Tok}(i:W.nsIn K mainGlobals x=some (some (.str s u)))(e:s=⟨b.toArray⟩)(t:AllP (GlN K) G):AllP (GlN K) ((x,tx b)::G):=⟨⟨_,i,by rw[e];exact⟨_,rfl⟩⟩,t⟩
theorem AllP.int{s b:Int}{u:Tok}(i:W.nsIn K mainGlobals x=some (some (.int s u)))(e:s=b)(t:AllP (GlN K) G):AllP (GlN K) ((x, .int b)::G):=⟨⟨_,i,by rw[e];exact⟨_,rfl⟩⟩,t⟩
theorem AllP.ref(i:W.nsIn K mainGlobals x=some (some (.ref a)))(t:AllP (GlN K) G):AllP (GlN K) ((x, .ref a)::G):=⟨⟨_,i,rfl⟩,t⟩
def fnA(X:K.In h)(G:h.Ns mainGlobals mg)(z:AllP (FnN K) F):AllP (FnA K mg) F:=z.map λ_ _ ⟨f,fd,i,F⟩=>⟨f,fd,W.mg_of X G i,F⟩
def clA(X:K.In h)(G:h.Ns mainGlobals mg)(z:AllP (ClN K) R):AllP (ClA K mg) R:=z.map λ_ _ ⟨i,e⟩=>⟨W.mg_of X G i,S5 e⟩
def glA(X:K.In h)(b:h.Ns mainGlobals mg)(z:AllP (GlN K) G):AllP (GlA mg) G:=z.map λ_ _ ⟨u,i,e⟩=>⟨u,W.mg_of X b i,e⟩
end
def nbB(K:W.Frag)(l:List Str):Bool:=l.all λx=>W.nsIn K mainGlobals x==some none
def nbA(X:K.In h)(G:h.Ns mainGlobals mg)(z:nbB K l=true):∀x∈l,mg x=none:=λx a=>W.mg_none_of X G (beq_iff_eq.mp (List.all_eq_true.mp z x a))
def MU(K:W.Frag)(C:Addr)(l:List Str):Bool:=W.plainGet K C Str.empty&&W.hasDictIn K C&&W.plainOver K C&&(W.findIn K (.ref C) "__setattr__"==some (some (.builtin "object.__setattr__")))&&W.makesIn K C&&W.keepIn K (.ref C)&&
 l.all λx=>W.findIn K (.ref C) x==some none
structure Own (K:W.Frag) (mg:Str->Option Value) (x:Str) (C:Addr) (l:List Str):Prop where
 c:mg x=some (.ref C)
 cl:Cls K C
 ma:W.makesIn K C=true
 kp:W.keepIn K (.ref C)=true
 n:∀f∈l,NoAttr K C f
def Own.at(o:Own K mg x C l)(i:Nat){f:Str}(h:l[i]? =some f:=by rfl):NoAttr K C f:=o.n f (List.mem_of_getElem? h)
def Own.fl(o:Own K mg x C l)(i:Nat){d dx:Addr}{fs:List (Str×V)}{f:Str}{v:V}{R:V->Prop}(ob:H d=some (.ins C dx fs))(q:R v)(h:l[i]? =some f:=by rfl)(e:fs.lookup f=some v:=by rfl):
 ∃a j p b v',V.ref d= .ref a/\H a=some (.ins j p b)/\Cls K j/\NoAttr K j f/\b.lookup f=some v'/\R v':=⟨d,C,dx,fs,v,rfl,ob,o.cl,o.at i h,e,q⟩
def ownA(X:K.In h)(G:h.Ns mainGlobals mg)(y:W.nsIn K mainGlobals x=some (some (.ref C)))(z:MU K C l=true):Own K mg x C l:=by
 unfold MU at z;simp only[Bool.and_eq_true,beq_iff_eq,List.all_eq_true]at z;obtain⟨⟨⟨⟨⟨⟨a,b⟩,c⟩,d⟩,e⟩,f⟩,g⟩:=z;exact⟨W.mg_of X G y,⟨a,b,c,d⟩,e,f,g⟩
def scN{sc:Scope}(N:List Str)(a:sc.kind= .function:=by rfl)(b:sc.isCoroutine=false:=by rfl)(c:sc.isGenerator=false:=by rfl)(d:N.Nodup:=by decide +kernel)(e:N.take ps.length=ps:=by rfl)(f:∀x∈ps,sc.names.lookup x=some .local\/sc.names.lookup x=some .cell:=by decide +kernel)(g:∀y∈sc.names,y.2≠ .free:=by decide +kernel):FnScope N ps sc:=⟨a,b,c,d,e,f,g⟩
def us0{P:List Value->Prop}(h:P []):∀us,us.length=0->P us:=λus e=>by cases us with|nil=>exact h|cons a r=>cases e
def usS{P:List Value->Prop}(h:∀a us,us.length=n->P (a::us)):∀us,us.length=n+1->P us:=λus e=>by cases us with|nil=>cases e|cons a r=>exact h a r (Nat.succ.inj e)
def us1{P:List Value->Prop}(h:∀a,P [a]):∀us,us.length=1->P us:=usS λa=>us0 (h a)
def us2{P:List Value->Prop}(h:∀a b,P [a,b]):∀us,us.length=2->P us:=usS λa=>us1 (h a)
def us3{P:List Value->Prop}(h:∀a b c,P [a,b,c]):∀us,us.length=3->P us:=usS λa=>us2 (h a)
def us4{P:List Value->Prop}(h:∀a b c d,P [a,b,c,d]):∀us,us.length=4->P us:=usS λa=>us3 (h a)
def Ln(ps:List Str)(sp:Sp):Sp:=λvs H Q E=>vs.length=ps.length/\sp vs H Q E
def V5{vs:List V}{E:XK}(e:vs.length=ps.length)(h:sp vs H Q E):Ln ps sp vs H Q E:=⟨e,h⟩
abbrev FuV(P:Program)(w:World)(K:W.Frag)(mg:Str->Option Value)(base:Heap)(k:Nat)(x:Str)(ps:List Str)(sp:Sp):Prop:=FnU P w K mg base k x ps (Ln ps sp)
abbrev Af(P:Program)(w:World)(K:W.Frag)(mg:Str->Option Value)(base:Heap)(k:Nat)(x:Str)(ps:List Str)(sp:Sp):Prop:=FnUE P w K mg base k x ps (Ln ps sp)
abbrev MeV(P:Program)(w:World)(K:W.Frag)(mg:Str->Option Value)(base:Heap)(k:Nat)(C:Addr)(x:Str)(ps:List Str)(sp:Sp):Prop:=MeU P w K mg base k C x ps (Ln ps sp)
abbrev Mc(P:Program)(w:World)(K:W.Frag)(mg:Str->Option Value)(base:Heap)(k:Nat)(C:Addr)(x:Str)(ps:List Str)(sp:Sp):Prop:=MeUE P w K mg base k C x ps (Ln ps sp)
abbrev MkV(P:Program)(w:World)(K:W.Frag)(mg:Str->Option Value)(base:Heap)(k:Nat)(C:Addr)(ps:List Str)(sp:Sp):Prop:=MkU P w K mg base k C ps (Ln ps sp)
def Bnd(x q:Str)(st:Stmt)(ps:List Str):Prop:=∀ (kV a e:Value) (i:Option Addr) (b ct:Value) (d:List Value),d.length=ps.length->bindArgs (W.fnOf x q (Ck st) (Bx st) (AW st) .none kV a e i b ct) ⟨d,[]⟩=pure (ps.zip d)
def Bdy(P:Program)(w:World)(K:W.Frag)(mg:Str->Option Value)(base:Heap)(N:List Str)(q:Str)(st:Stmt)(k:Nat)(sp:Sp):Prop:=
 ∀ (nd:N.Nodup) (f:Addr) (a:Value) (A:Around) (outer:List Env) (s:Shared) (H:Hp) (vs:List V) (Q:VK) (E:XK),Room k (A.deeper (envOfC q (AW st) s.heap.objs.size f a))->sp vs H Q E->
   ∃t,PSs (Cw CX0 P w K mg base N q (AW st) f a A outer s H E).nox (Bx st) t/\t {nx:=λ_ b=>Q .non b,rt:=Q} (start N vs) H
def Mf(P:Program)(w:World)(K:W.Frag)(mg:Str->Option Value)(base:Heap)(N:List Str)(q:Str)(st:Stmt)(k:Nat)(sp:Sp):Prop:=
 ∀ (nd:N.Nodup) (f:Addr) (a:Value) (A:Around) (outer:List Env) (s:Shared) (H:Hp) (vs:List V) (Q:VK) (E:XK),Room k (A.deeper (envOfC q (AW st) s.heap.objs.size f a))->sp vs H Q E->
   ∃t,PSs (cxE P w K mg base N q st f a A outer s H E) (Bx st) t/\t {nx:=λ_ b=>Q .non b,rt:=Q} (start N vs) H
def FnA.u(p:FnA K mg x st)(S:FnScope N ps (AW st))(b:Bdy P w K mg base N x st k sp)
 (d:Bnd x x st ps:=by and_intros):FuV P w K mg base (k+1) x ps sp:=
 let⟨f,fd,m,F⟩:=p;⟨f,fd,F.ok S (λ_ _ _ _ h=>h.1) λa A outer s H vs Q E r h=>b S.nd f a A outer s H vs Q E r h.2,m,F.kp,F.binds d⟩
def FnA.uE(p:FnA K mg x st)(S:FnScope N ps (AW st))(b:Mf P w K mg base N x st k sp)
 (d:Bnd x x st ps:=by and_intros):Af P w K mg base (k+1) x ps sp:=
 let⟨f,fd,m,F⟩:=p;⟨f,fd,F.okE S (λ_ _ _ _ h=>h.1) λa A outer s H vs Q E r h=>b S.nd f a A outer s H vs Q E r h.2,m,F.kp,F.binds d⟩
def MtA.u{m:Str}(p:MtA K q (C,m,st))(S:FnScope N ps (AW st))(b:Bdy P w K mg base N q st k sp)
 (d:Bnd m q st ps:=by and_intros):MeV P w K mg base (k+1) C m ps sp:=
 let⟨f,fd,m,F⟩:=p;⟨f,fd,F.ok S (λ_ _ _ _ h=>h.1) λa A outer s H vs Q E r h=>b S.nd f a A outer s H vs Q E r h.2,m,F.binds d⟩
def MtA.uE{m:Str}(p:MtA K q (C,m,st))(S:FnScope N ps (AW st))(b:Mf P w K mg base N q st k sp)
 (d:Bnd m q st ps:=by and_intros):Mc P w K mg base (k+1) C m ps sp:=
 let⟨f,fd,m,F⟩:=p;⟨f,fd,F.okE S (λ_ _ _ _ h=>h.1) λa A outer s H vs Q E r h=>b S.nd f a A outer s H vs Q E r h.2,m,F.binds d⟩
def MtA.m(p:MtA K q (C,"__init__",st))(o:Own K mg x C l)(S:FnScope N ps (AW st))(b:Bdy P w K mg base N q st k sp)
 (d:Bnd "__init__" q st ps:=by and_intros):MkV P w K mg base (k+2) C ps sp:=
 let⟨f,fd,m,F⟩:=p;⟨⟨_,f,fd,Nat.le_refl _,F.ok S (λ_ _ _ _ h=>h.1) λa A outer s H vs Q E r h=>b S.nd f a A outer s H vs Q E r h.2,⟨o.ma,m.at_,m.fn,o.kp⟩,F.binds d⟩⟩
def WK(F:Fun K x q st f fd)(S:FnScope N ps (AW st))(b:Bdy P w K mg base N q st k sp):FnOk P w K mg base CX0 (k+1) f fd ps (Ln ps sp):=
 F.ok S (λ_ _ _ _ h=>h.1) λa A outer s H vs Q E r h=>b S.nd f a A outer s H vs Q E r h.2
def Us{fa:Addr}(p:FnA K mg "law" st)(d:mg "law"=some (.ref fa))(j:∀ (s:Shared) (kV a e:Value) (i:Option Addr) (b ct v:Value),BindsTo s (W.fnOf "law" "law" (Ck st) (Bx st) (AW st) .none kV a e i b ct) ⟨[v],[]⟩ [("script",v)])
 (ok:∀ (base:Heap) {f fd},Fun K "law" "law" st f fd->FnOk P w K mg base CX0 n f fd ["script"] sp):∃fd:FuncData,(∀ (s:Shared) (v:Value),BindsTo s fd ⟨[v],[]⟩ [("script",v)])/\∀base:Heap,K.In base->base.Ns mainGlobals mg->FnOk P w K mg base CX0 n fa fd ["script"] sp:=by
 obtain⟨f,fd,m,F⟩:=p
 cases d.symm.trans m
 have l:=F;obtain⟨y,z,kV,a,e,i,b,ct,o,rfl,B,r⟩:=F.ex;exact⟨_,λs v=>j s kV a e i b ct v,λbase _ _=>ok base l⟩
end
section
variable{o i a b:Expr}{td ty tb:TE}{t:TA}{p:Pos}{op:CmpOp}
def AO(i:Nat)(d:PE X e te)(nd:X.N.Nodup:=by assumption)(h:X.N[i]? =some x:=by rfl)(j:Loc X.env.scope x:=by exact Or.inl rfl)(l:swapsWith e (some (.Name x pos')) pos.line X.env=pure false:=by rfl)
 (hf:X.fn x=true\/X.env.scope.names.lookup x=some .local:=by first|exact .inl rfl|exact .inr rfl|assumption):PS X (.Assign [.Name x pos'] e pos) (Bb te (Aw i)):=Bz nd h j d l hf
def Ap(i:Nat)(nd:X.N.Nodup:=by assumption)(d:X.N[i]? =some x:=by rfl)(h:Loc X.env.scope x:=by exact Or.inl rfl)(hf:X.fn x=true\/X.env.scope.names.lookup x=some .local:=by first|exact .inl rfl|exact .inr rfl|assumption):PG X (.Name x pos) (Aw i):=Ah nd d h hf
def AG(K:W.Frag)(d:PE X a ta)(h:PE X b tb)(j:Ez b:=by exact λ_ _=>rfl)(l:X.K=K:=by rfl):PE X (.Subscript a b pos) (tOp (CK K) ta tb):=HG (HS K l) d h j
def Bp(d:X.A.units+1<cLine)(h:PE X o td)(j:PE X i ty)(l:ER i:=by exact λ_ _=>rfl):PE X (.Subscript o i pos) (G9 td ty):=SV d h j l
def Gn(P:Program)(w:World)(K:W.Frag)(d:PE X o td)(h:PE X i ty)(j:ER i:=by exact λ_ _=>rfl)(l:X.prog=P:=by rfl)(q:X.w=w:=by rfl)(v:X.K=K:=by rfl):PE X (.Subscript o i pos) (Gc P w K td ty):=Qt P w K d h j l q v
def BD(d:OpR X (compareOp op) r)(h:PE X a ta)(j:PE X b tb)(l:behindInMarks op b=false:=by exact LE _):PE X (.Compare a [op] [b] pos) (tOp r ta tb):=SW d h j l
def AR(d:OpR X (compareOp op) r)(h:PE X a ta)(j:PE X b tb)(l:behindInMarks op b=false:=by exact LE _):PT X (.Compare a [op] [b] pos) (EE (tOp r ta tb)):=R9 d h j l
def Aa(K:W.Frag)(d:X.mg "len"=none)(h:PA X [e] t)(hg:Gl X "len":=by rfl)(j:starEach [e] X.env=(false,eval e X.env)::starEach [] X.env:=by rfl)(l:(backTo pos (starEach [] X.env)).any (·.1)=false:=by rfl)(q:X.K=K:=by rfl):PE X (.Call (.Name "len" p) [e] [] pos) (tCB (FO K) t):=Aj (QG K q) hg d PySem.boot_len h (by decide) (by decide) j l
end
def WJ{G:Prop}(k:∀R:Prop,(G->R)->R):G:=k G id
section
variable{R:List V->Hp->Prop}{v w c:V}{tb:TE}{tr:TA}{u a b:TS}
def VN(h:te σ H λx d=>u D (σ.set i (some x)) d):Cc (Bb te (Aw i)) u D σ H:=h
def Vo(h:te σ H λx d=>D.nx (σ.set i (some x)) d):Bb te (Aw i) D σ H:=h
def Tf(e:σ[i]? =some (some v))(f:σ[j]? =some (some w))(h:r v w H Q):tOp r (BJ i) (BJ j) σ H Q:=⟨v,e,w,f,h⟩
def Tg(e:σ[i]? =some (some v))(h:r v c H Q):tOp r (BJ i) (tC c) σ H Q:=⟨v,e,h⟩
def VR(e:σ[i]? =some (some v))(h:tb σ H λy d=>r v y d Q):tOp r (BJ i) tb σ H Q:=⟨v,e,h⟩
def Ti(h:ta σ H λx d=>r x c d Q):tOp r ta (tC c) σ H Q:=h
def Vk(e:σ[i]? =some (some v))(h:R [v] H):CY (BJ i) tNil σ H R:=⟨v,e,h⟩
def WA(e:σ[i]? =some (some v))(h:tr σ H λd l=>R (v::d) l):CY (BJ i) tr σ H R:=⟨v,e,h⟩
def WB(h:ta σ H λx d=>R [x] d):CY ta tNil σ H R:=h
def Vb(h:te σ H λx d=>∃k,x= .bl k/\if k=true then a D σ d else b D σ d):De (EE te) a b D σ H:=h
end
def ES(U R:W3->Hp->Prop):Prop:=∀σ H,U σ H->R σ H
def Md(U R:VK):Prop:=∀v H,U v H->R v H
def Opn(U B:W3->Hp->Prop)(V:VK)(G:Ends->Prop):Prop:=∀R S T,ES U R->ES B S->Md V T->G ⟨R,T,S,R⟩
def Ur{R:W3->Hp->Prop}(i:ES U R)(h:U σ H):R σ H:=i _ _ h
section
variable{B:W3->Hp->Prop}{V':VK}{G:Ends->Prop}{c:Int}{l:List Nat}
def VQ(h:∀R S T,ES U R->ES B S->Md V' T->G ⟨R,T,S,R⟩):Opn U B V' G:=h
def Opn.go(h:Opn U B V' G):G ⟨U,V',B,U⟩:=h _ _ _ (λ_ _ z=>z) (λ_ _ z=>z) λ_ _ z=>z
theorem Jn(Pv:Nat->W3->Hp->Prop)(h0:Pv 0 σ H)(b:∀i σ H,i<n->Pv i σ H->Opn (Pv (i+1)) D.nx D.rt λD=>g (.int (lo+i)) σ H λσ2 d=>tb D σ2 d)(hd:∀σ H,Pv n σ H->D.nx σ H):Bu (Itr lo n) g tb D σ H:=Ss Pv h0 (λi σ H e p=>(b i σ H e p).go) hd
theorem F9(Pv:Nat->W3->Hp->Prop)(h0:Pv 0 σ H)(b:∀i σ H,i<=xs.length->Pv i σ H->SqL K H a xs)(d:∀i x σ H,xs[i]? =some x->Pv i σ H->Opn (Pv (i+1)) D.nx D.rt λD=>g x σ H λσ2 h=>tb D σ2 h)(hd:∀σ H,Pv xs.length σ H->D.nx σ H):Bu (Itl K a) g tb D σ H:=Su Pv h0 b (λi x σ H e p=>(d i x σ H e p).go) hd
def Jm{a:List Nat}(Pv:Nat->W3->Hp->Prop)(h0:Pv 0 σ H)(b:∀i c σ H,a[i]? =some c->Pv i σ H->Opn (Pv (i+1)) D.nx D.rt λD=>g (tx [c]) σ H λσ2 d=>tb D σ2 d)(hd:∀σ H,Pv a.length σ H->D.nx σ H):Bu (Its ⟨a.toArray⟩) g tb D σ H:=Sr Pv h0 (λi c σ H e p=>(b i c σ H e p).go) hd
theorem Io(Pv:Nat->W3->Hp->Prop)(h0:Pv 0 σ H)(b:∀i σ H,i<n->Pv i σ H->Opn (Pv (i+1)) D.nx D.rt λD=>g (.int (lo+i*c)) σ H λσ2 d=>tb D σ2 d)(hd:∀σ H,Pv n σ H->D.nx σ H):Bu (CB lo c n) g tb D σ H:=RC Pv h0 (λi σ H e p=>(b i σ H e p).go) hd
def JH{m:Nat}(h:Opn (WN Pv μ m) D.nx D.rt λD=>tb D σ H):
 ∃N:W3->Hp->Prop,(∀σ' b,N σ' b->∃d,d<m/\(d=μ σ' b/\Pv σ' b))/\tb {D with nx:=N,ct:=N,bk:=D.nx} σ H:=RT h.go
end
end L2
namespace Bk
variable{loose:List Str}{K:Params->W.Frag}{q:Program}{l:W.OpenLaw}{YP:World->Heap->Prop}
def top(i:Nat):Stmt:=PySem.Challenge.pw_bracketrows_k48_no_such_row.main.body.getD i (.Pass ⟨0,0,0,0⟩)
def LF:List (Str×Stmt):=("is_whole",top 20)::("check_kinds",top 21)::("is_line",top 22)::("check_line",top 23)::("matched",top 24)::("is_right",top 25)::("weighed_places",top 27)::("counted_places",top 28)::("pair_sum",top 29)::("no_sums",top 30)::("span_sums",top 31)::("whole_sum",top 32)::("check_filling",top 33)::("pairs_with_rest",top 34)::("bracket_sums",top 35)::("how_many",top 37)::("may_open",top 39)::("depths_before",top 40)::("depths_by_stop",top 41)::("depths",top 42)::("may_go_on",top 43)::("fewest_more",top 44)::("opens",top 46)::("nth_filling",top 48)::("is_right_filling",top 49)::("number_of",top 50)::("likelier",top 52)::("likeliest_pair",top 53)::("round_about",top 54)::("one_behind_the_other",top 55)::("likeliest_spans",top 56)::("first_likeliest",top 57)::("needs_change",top 61)::("places_to_change",top 62)::("fewest_changes",top 63)::("other_one",top 65)::("turned",top 66)::("filled",top 68)::("sure_places",top 69)::("is_name",top 79)::("is_number",top 80)::("has_form",top 81)::("parted",top 82)::("known_words",top 83)::("yes_or_no",top 84)::("shown",top 85)::("say_kinds",top 86)::("say_row",top 87)::("say_turn",top 88)::("say_behind",top 89)::("say_drop",top 90)::("say_show",top 91)::[("say_right",top 92),("say_may",top 93),("say_many",top 94),("say_nth",top 95),("say_number",top 96),("say_sure",top 97),("say_fewest",top 98),("say_more",top 99),("say_names",top 100),("_law_pool",top 104),("_law_draw",top 105),("_law_said",top 106),("_law_fits",top 107),("_law_kinds",top 108),("_law_is_row",top 109),("_law_some_word",top 110),("_law_drawn",top 111),("_law_changed",top 112),("_law_new_desk",top 113),("law",top 114)]
def LM(a b:Addr):List (Str×Addr×Str×Stmt):=[("Course.__init__",a,"__init__",inClass (top 47) 0),("Course.many_in_all",a,"many_in_all",inClass (top 47) 1),("Course.many_closing",a,"many_closing",inClass (top 47) 2),("Course.many_with",a,"many_with",inClass (top 47) 3),("Course.take",a,"take",inClass (top 47) 4),("Desk.__init__",b,"__init__",inClass (top 102) 0),("Desk.say",b,"say",inClass (top 102) 1),("Desk.names",b,"names",inClass (top 102) 2)]
def LN:List Str:=["ValueError","all","any","bool","enumerate","int","isinstance","len","list","max","range","reversed","set","sorted","str","sum","zip"]
def LG(a b d:Addr):List (Str×V):=[("OPENING",tx [40,91,123,60]),("CLOSING",tx [41,93,125,62]),("KINDS", .ref a),("BRACKETS",tx [40,41,91,93,123,125,60,62]),("UNKNOWN",tx [63]),("MOST_SIGNS", .int 40),("KEPT", .int 2),("CHANGED", .int 1),("DONE",tx [111,107]),("NOTHING",tx [110,111,110,101]),("FIRST_KINDS", .int 4),("LETTERS",tx [97,98,99,100,101,102,103,104,105,106,107,108,109,110,111,112,113,114,115,116,117,118,119,120,121,122]),("MOST_LETTERS", .int 8),("FIGURES",tx [48,49,50,51,52,53,54,55,56,57]),("MOST_FIGURES", .int 9),("FORMS", .ref b),("DEEDS", .ref d)]
def LC(cs:Cs):List (Str×Addr):=[("RowError",cs.RowError),("NoKinds",cs.NoKinds),("NoLine",cs.NoLine),("NotRight",cs.NotRight),("NoTree",cs.NoTree),("NoNumber",cs.NoNumber),("NoWeights",cs.NoWeights),("NoPlace",cs.NoPlace),("NoFilling",cs.NoFilling),("TooMany",cs.TooMany),("NoName",cs.NoName),("NoRow",cs.NoRow)]
structure Txt (P:Program) (w:World) (K:W.Frag) (mg:Str->Option Value) (aK:Addr) (cs:Cs) (aC aE aF aD:Addr):Prop where
 f:AllP (FnA K mg) LF
 m:AllP (MtA K) (LM aC aE)
 n:∀x∈LN,mg x=none
 g:AllP (GlA mg) (LG aK aF aD)
 c:AllP (ClA K mg) (LC cs)
 k:FTu K aK [tx [40,41],tx [91,93],tx [123,125],tx [60,62]]
 F:L9 P w K aF
 D:MA P w K mg aD
 C:Own K mg "Course" aC ["at","closings","places","rests","sums"]
 E:Own K mg "Desk" aE ["k","rows"]
 t:Lv K cs=true
section
variable{K:W.Frag}{aK aC aE aF aD:Addr}{cs:Cs}{k:Nat}(T:Txt P w K mg aK cs aC aE aF aD)
local macro_rules | `(tactic| walk_at"s") => `(tactic| first
  | with_reducible first | apply Vo | apply Vn | apply Rf | apply VJ | apply VT | apply VI | apply UN | apply UE | apply UD | apply V0 | apply VU | apply Vc | apply Vp | apply US | apply VP | apply Tj | apply Ry | apply Vg | apply Vf | apply Vh | apply VX | apply VW | apply Va | apply QX | apply V1 | apply QZ | apply Te | apply Rg | apply VY | apply UA | apply Vl | apply Rp | apply UR | apply Rr | apply Tz | apply Rm | apply UB | apply Ru | apply UC | apply T9 | apply VG | apply Lh | apply Rh | apply UM | apply Rw | apply UJ | apply UK | apply UL | apply VM | apply Ts | apply Vj | apply Vi | apply Re | apply VH | apply Rx | apply Ve | apply V6 | apply Tx | apply Tu | apply Tq | apply Tr | apply UG | apply UH | apply DX
  | ((with_reducible apply Rq); (first | assumption | exact small (by lia)))
  | ((with_reducible apply Vm); exact rfl)
  | ((with_reducible apply Rn); exact rfl)
  | ((with_reducible apply V2); (first | (exact (show (0 : Int) < _ by lia)) | (exact ⟨by lia, by lia⟩) | (exact ⟨by decide, by decide, by decide⟩)))
  | ((with_reducible apply Tp); (first | exact .inl ⟨by lia, by lia⟩ | exact .inr ⟨by lia, by lia⟩))
  | ((with_reducible apply K3); (first | assumption | exact small (by lia)))
  | ((with_reducible apply DT); (first | exact small (by lia) | exact small (by simp only [List.length_append, List.length_cons, List.length_nil]; lia)))
  | ((with_reducible apply Li); (first | assumption | exact small (by lia) | exact small (by simp only [List.length_append, List.length_cons, List.length_nil]; lia)))
  | (with_reducible apply VQ; intro _ _ _ _ _ _)
  | refine Ur (by assumption) ?_
  | fail)
local macro_rules | `(tactic| walk_at"s") => `(tactic| first
  | ((with_reducible apply Tf); exact rfl; exact rfl)
  | ((with_reducible apply VR); exact rfl)
  | with_reducible first | apply Ti | apply V4 | apply UQ | apply V9 | apply To | apply UF | apply UT | apply Tn | apply Tc | apply VZ | apply R1 | apply Vb | apply V8 | apply UI | apply VL | apply TZ | apply Vd | apply Td | apply WC | apply V3 | apply VS | apply UP | apply Rv | apply Ro
  | ((with_reducible apply V7); exact rfl)
  | fail)
local macro_rules | `(tactic| walk_at"s") => `(tactic| first
  | with_reducible apply s_c
  | ((with_reducible first | apply VF | apply Vk | apply WA | apply Tg | apply V5); exact rfl)
  | with_reducible first | apply WB | apply UO | apply VN | apply HC | apply VO | apply CI
  | ((with_reducible refine AL (xs := ?xs) (v := ?v) ?h ?e ?_); (case h => assumption); (case e => exact rfl))
  | fail)
local macro_rules | `(tactic| ext) => `(tactic| skip)
local macro_rules | `(tactic| ext) => `(tactic| first|(walk_at"s";ext)|fail)
local macro_rules | `(tactic| show $e:term) => `(tactic| (ext;refine $e))
local macro_rules | `(tactic| obtain ⟨$a, $b, $c, $x,*⟩ := $e:term) => `(tactic| (refine WJ λR out => ?_; rcases $e:term with ⟨$a, $b, $c, $x,*⟩ <;> (refine out ?_; clear out R)))
local macro_rules | `(tactic| and_intros) => `(tactic| exact λ_ _ _ _ _ _ => by first | exact us2 λ_ _ => rfl | exact us1 λ_ => rfl | exact us3 λ_ _ _ => rfl | exact us4 λ_ _ _ _ => rfl | exact us0 rfl)
include T
def Txt.N(i:Nat)(h:LN[i]? =some x:=by rfl):mg x=none:=T.n x (List.mem_of_getElem? h)
def Hs:FuV P w K mg base (k+1) "is_whole" ["thing"] (spWhole K):=FnA.u (T.f.at 0) (scN ["thing"]) λnd _ _ _ _ _ _ _ _ _ _ h=>by
 obtain⟨x,ty,rfl,a,e,q⟩:=h;refine⟨_,(AE (AI (E8 (Aj (Cz K) rfl (T.N 6) PyProof.Rows.boot_isinstance (AA (pv 0) (AA (DH (T.N 5) PyProof.Rows.boot_int) AB))) (DD (K8 (Aj (Cz K) rfl (T.N 6) PyProof.Rows.boot_isinstance (AA (pv 0) (AA (DH (T.N 3) PyProof.Rows.boot_bool) AB)))))))),?_⟩;ext;have d:ty="NoneType"\/ty="bool"\/ty="int"\/ty="str"\/ty="list"\/ty="tuple"\/ty="dict":=by simpa[Bf]using e
 rcases d with rfl|rfl|rfl|rfl|rfl|rfl|rfl
 ·refine BP (b:=false) a (by with_unfolding_all rfl) (CI (EO ?_));exact q
 ·refine BP (b:=true) a (by with_unfolding_all rfl) (CI (DN ?_));show BP (b:=true) a (by with_unfolding_all rfl) (CI ?_);exact q
 ·refine BP (b:=true) a (by with_unfolding_all rfl) (CI (DN ?_));show BP (b:=false) a (by with_unfolding_all rfl) (CI ?_);exact q
 ·refine BP (b:=false) a (by with_unfolding_all rfl) (CI (EO ?_));exact q
 ·refine BP (b:=false) a (by with_unfolding_all rfl) (CI (EO ?_));exact q
 ·refine BP (b:=false) a (by with_unfolding_all rfl) (CI (EO ?_));exact q
 ·refine BP (b:=false) a (by with_unfolding_all rfl) (CI (EO ?_));exact q
def Hf:Af P w K mg base (k+2) "check_kinds" ["k"] (QT K cs):=FnA.uE (T.f.at 1) (scN ["k"]) λnd _ _ _ _ _ H _ _ _ d h=>by
 refine⟨_,(AE (AS (PW.pt (BZ (BB (Ar K (AN (Hs T) d (AA (pv 0) AB)))) (Bi (BB (Ee CA CA AC (pv 0) (Aa K (T.N 7) (AA (AX (T.g.at 2)) AB))))))) (AE (C0 (T.c.at 1).2 (T.c.at 1).1 d.hd DG (AA Cm AB))) AT)),?_⟩;rcases h with⟨x,rfl,b,h2,q⟩|⟨v,rfl,⟨ty,hT,hp,j⟩,r⟩
 ·show IS ?_;show ifq rfl ?_;show ifp (decide_eq_true b) ?_;show A7 (.inr T.k.sq) ?_;show ifq (by simp;lia) ?_;ext;exact q
 ·show⟨v,ty,rfl,hT,hp,?_⟩;ext
  by_cases e:ty="int"
  ·subst e;obtain⟨i,rfl⟩:=hT.int_of rfl
   ·have j:=j i rfl;rw[decide_eq_true rfl];refine ifq rfl ?_;ext
    by_cases b:1<=i
    ·refine ifp (decide_eq_true b) ?_;show A7 (.inr T.k.sq) ?_;show ifp (by simp;lia) ?_;ext;exact⟨small (by decide),λy a=>r y H (Same.refl H) a⟩
    ·refine ifq (decide_eq_false b) ?_;show ifp rfl ?_;ext;exact⟨small (by decide),λy a=>r y H (Same.refl H) a⟩
  ·rw[decide_eq_false e];refine ifp rfl ?_;show ifp rfl ?_;ext;exact⟨small (by decide),λy a=>r y H (Same.refl H) a⟩
def IJ:Af P w K mg base (k+3) "is_line" ["k","thing"] (KB K cs):=FnA.uE (T.f.at 2) (scN ["k","thing","signs"]) λnd _ _ _ _ _ H _ _ _ L h=>by
 refine⟨_,(AD (Am (Ak (Hf T) L Bj (AA (pv 0) AB))) (AD (AS (PW.pt (BZ (BB (Ar K (Aj (Cz K) rfl (T.N 6) PyProof.Rows.boot_isinstance (AA (pv 1) (AA (DH (T.N 14) PyProof.Rows.boot_str) AB))))) (Bi (AR Ct (Aa K (T.N 7) (AA (pv 1) AB)) (AX (T.g.at 5)))))) (AE (AI Bq)) AT) (AD (Bz (i:=2) nd rfl (Or.inr rfl) (AJ AQ (AJ AQ (BS (Bc K) (AX (T.g.at 0)) BW (BV (pv 0))) (BS (Bc K) (AX (T.g.at 1)) BW (BV (pv 0)))) (AX (T.g.at 4)))) (AE (AI (Aj (Ds K rfl) rfl (T.N 1) PyProof.Rows.boot_all (AA (A1 (own:=["sign"]) (sel:=[2]) (Ax (osc:=(AW (top 22))) (N:=["k","thing","signs"]) (by decide +kernel)) rfl (B8 (pv 1)) (λ_ _ _ _ _=>(Ah (i:=0) (show(["sign","signs"]:List Str).Nodup from by decide +kernel) rfl (Or.inl rfl))) (Aq (by decide)) (λ_ _ _ _ _=>A2) (λ_ _ _ _ _=>(BD (Cp K) (pv 0) (pv 1) (by with_unfolding_all rfl)))) AB))))))),?_⟩;rcases h with⟨kk,x,rfl,h1,h2,hx⟩|⟨kv,v,rfl,hk,r⟩
 rotate_left
 ·ext;exact .inr ⟨kv,rfl,hk,r.pass (Same.refl H)⟩
 ·show .inl (Ii h1 h2 ?_);ext;rcases hx with⟨a,rfl,ha,q⟩|⟨ty,hT,hp,hs,q⟩
  ·refine BP (b:=true) (TyOf.str _) (by with_unfolding_all rfl) ?_;show ifq rfl ?_;show ifd (λM=>?_) (λM=>?_)
   ·ext;have e:AZ kk a=false:=by unfold AZ;rw[decide_eq_false (by lia),Bool.false_and]
    have:=q H (Same.refl H);rw[e]at this;exact this
   ·ext;rw[DW _ (by lia),DW _ (by lia)];have U:((([40,91,123,60]:List Nat)).take kk.toNat).length<=4:=by rw[List.length_take];exact Nat.min_le_right _ _
    have X:((([41,93,125,62]:List Nat)).take kk.toNat).length<=4:=by rw[List.length_take];exact Nat.min_le_right _ _
    first|refine DT (small (by lia)) ?_ |skip
    ext
    first|refine DT (small (by rw[List.length_append,List.length_singleton];lia)) ?_ |skip
    show CS (n:=a.length) (λD i l j=>l=((a.take i).map λc=>V.bl (decide (c∈sgn kk)))/\SameBut1 D H j) (λD p=>⟨rfl,SameBut1.of (AK p _)⟩) (λD i l j _ y _ _=>by simpa[Its]using y) (λD l j p d J ⟨e,B⟩=>⟨by simp[Its],?_⟩) ?_
    ·rw[List.take_length]at e;subst e;have Q:SqL K j D ((a.map λc=>decide (c∈sgn kk)).map V.bl):=by
      rw[List.map_map];exact SqL.of d
     refine EJ Q ?_;have R:((a.map λc=>decide (c∈sgn kk)).all id)=AZ kk a:=by
      unfold AZ;rw[decide_eq_true (by lia),Bool.true_and,List.all_map]
      rfl
     rw[R];exact q j λb o z=>B b o z (AM z p)
    ·rintro D i l j x Y p y d J ⟨e,B⟩ ⟨rfl,c,S,rfl⟩;have G:a[i]? =some c:=by simpa using S
     show Aw 0 (tx [c]) _ _ _;show DN ?_;show B6 y (small (by lia)) d J ⟨?_,B.trans SameBut1.upd⟩;rw[e,List.take_add_one,G];simp only[Option.toList_some,List.map_append,List.map_cons,List.map_nil]
     rfl
  ·have I:ty="NoneType"\/ty="bool"\/ty="int"\/ty="list"\/ty="tuple"\/ty="dict":=by
    have:ty="NoneType"\/ty="bool"\/ty="int"\/ty="str"\/ty="list"\/ty="tuple"\/ty="dict":=by simpa[Bf]using hp
    rcases this with z|z|z|z|z|z|z
    ·exact .inl z
    ·exact .inr (.inl z)
    ·exact .inr (.inr (.inl z))
    ·exact absurd z hs
    ·exact .inr (.inr (.inr (.inl z)))
    ·exact .inr (.inr (.inr (.inr (.inl z))))
    ·exact .inr (.inr (.inr (.inr (.inr z))))
   have fin:W.kitOne K (.type ty) (.type "str")=some false:=by
    rcases I with rfl|rfl|rfl|rfl|rfl|rfl<;>with_unfolding_all rfl
   refine BP (b:=false) hT fin ?_;show ifp rfl ?_;show ifp rfl ?_;ext;exact q
def B3:Af P w K mg base (k+4) "check_line" ["k","row"] (KC K cs spCheckLine):=FnA.uE (T.f.at 3) (scN ["k","row"]) λnd _ _ _ _ _ H _ _ _ b h=>by
 refine⟨_,(AE (AS (BB (Ar K (Ak (IJ T) b Bj (AA (pv 0) (AA (pv 1) AB))))) (AE (C0 (T.c.at 2).2 (T.c.at 2).1 b.hd DG (AA Cm AB))) AT)),?_⟩;rcases h with⟨kk,a,rfl,h1,h2,ha,q⟩|⟨kv,v,rfl,⟨hk,r⟩|⟨kk,rfl,h1,h2,hn,r⟩⟩
 ·have o:=BH ha;show .inl (Jg h1 h2 (by lia) (λe i=>?_));show ifq (by rw[ha];rfl) ?_;ext;exact q e i
 ·ext;exact .inr ⟨kv,v,rfl,hk,r.pass (Same.refl H)⟩
 ·show OX h1 h2 hn (λj d=>?_);show ifp rfl ?_;ext;exact⟨small (by decide),λy l=>r y j d (d.free l)⟩
def OT:FuV P w K mg base (k+1) "matched" ["row"] (spMatched):=FnA.u (T.f.at 4) (scN ["row","found","waiting","at","sign","start"]) λnd _ _ _ _ _ H _ _ _ hr h=>by
 obtain⟨a,rfl,ha,q,q'⟩:=h;have hu:=hr.units0;refine⟨_,(AD (AO 1 (AJ BO (Ac (AA AC AB)) (Aa K (T.N 7) (AA (pv 0) AB)))) (AD (AO 2 (Ac AB)) (AD (A8 PassesOwn.never rfl (Ql rfl (T.N 4) (AA (pv 0) AB)) (CP (n:=2) K rfl (A0 (Ap 3) (A0 (Ap 4) CF))) (AD (AS (AR (Cp K) (pv 4) (AX (T.g.at 0)) (by with_unfolding_all rfl)) (AD (Am (Av K PySem.F.plainAttrs_list PySem.F.slot_list_append PySem.F.type_list_append CD (pv 2) (AA (pv 3) AB))) (AE Nl)) AT) (AD (AS (PW.pt (BZ (BB (Ar K (pv 2))) (Bi (AR (EZ K) (AJ AQ (AG K (pv 0) (AG K (pv 2) (B2 By AC))) (pv 4)) (AX (T.g.at 2)) (by with_unfolding_all rfl))))) (AE (AI Ao)) AT) (AD (AO 5 (GQ K PySem.F.plainAttrs_list PySem.F.slot_list_pop PySem.F.type_list_pop Gq (pv 2))) (AD (B7 (pv 3) (CT (pv 1) (pv 5) Be)) (AE (B7 (pv 5) (CT (pv 1) (pv 3) Be)))))))) (AE (AI (BU (Ar K (pv 2)) Ao (pv 1))))))),?_⟩;show⟨small (show 1<=1000 by decide),λp0 G=>?_⟩;show EI AF (by lia) (by lia) (small (by simp;lia)) (λI J=>?_);rw[Int.toNat_natCast,Vu];show⟨small (show 0<=1000 by decide),λwa L=>?_⟩;ext;have sH:Same H (upd (upd (upd H p0 (.lst [.int 0])) I (.lst (List.replicate a.length (V.int 0)))) wa (.lst [])):=(AK G _).trans ((AK J _).trans (AK L _));have x:I≠wa:=AM AF L;have M:H I=none:=(AK G _).free J;have hHw:H wa=none:=(AK G _).free ((AK J _).free L);refine Sv (λi σ H'=>∃ (st ws:List Nat) (Q:List V) (o3 o4 o5:Option V),σ=[some (tx a),some (.ref I),some (.ref wa),o3,o4,o5]/\MI a i st ws Q/\H' I=some (.lst Q)/\H' wa=some (.lst (ws.reverse.map fun(w:Nat)=>V.int w))/\Same H H') ⟨[],[],List.replicate a.length (V.int 0),_,_,_,rfl,MI.start a (by simp),?_,AF,sH⟩ ?_ ?_
 ·rw[AH x,AF]
 ·intro i c σ Y tt hc ht z_;obtain⟨st,ws,Q,o3,o4,o5,rfl,m,R,S,U⟩:=z_;have hi:i<a.length:=(List.getElem?_eq_some_iff.mp hc).1;have Z:Same Y (upd Y tt (.tup [.int i,tx [c]])):=AK ht _;have hf2:=Z _ _ R;have v:=Z _ _ S;have hwl:ws.length<=40:=by
   have e1:=m.wk.len;have e2:=HJ m.rn;have:∀l:List Nat,hg l<=l.length:=by
    intro l
    induction l with
    |nil=>simp[hg]
    |cons d r ih=>rw[hg,List.length_cons];unfold sg;split<;>lia
   have e3:=this (a.take i);unfold BrM.ht at e2;rw[List.length_take]at e3;lia
  refine E5 (SqT.of AF) rfl ?_;show ifd (λho=>?_) (λho=>?_)
  ·show⟨.inl ⟨rfl,_,SqL.of v⟩,?_⟩;show⟨wa,_, .int i,rfl,rfl,v,DQ (by simp;lia),?_⟩;show⟨_,i::ws,Q,_,_,_,rfl,m.opens hc ho,?_,?_,?_⟩
   ·rw[AH x];exact hf2
   ·rw[AF];simp
   ·intro b o z;rw[AH (AM z hHw)];exact Z b o (U b o z)
  ·show D9 (SqL.of v) ?_;have ho:c∉opn:=ho;have hne:∀ (hn:¬ (∃w B r,ws=w::B/\st=c::r)),¬Rt a:=by
    intro hn hR;obtain⟨s',e⟩:=Qc hR (i+1);rw[Fy m.rn hc]at e;unfold BrM.stp at e;rw[if_neg ho]at e
    cases st with
    |nil=>cases e
    |cons d r=>
     simp only at e
     split at e
     ·rename_i hd
      cases ws with
      |nil=>have:=m.wk.len;simp at this
      |cons w B=>exact hn ⟨w,B,r,rfl,by rw[hd]⟩
     ·cases e
   cases ws with
   |nil=>
    refine ifp rfl ?_;ext;exact q' (hne (by rintro⟨_,_,_,z,_⟩;cases z)) _ (U.trans Z)
   |cons w B=>
    refine ifq (by simp) ?_;obtain⟨cw,r,hcw,hcwo,rfl,hwi⟩:=m.top;have hwa':w<a.length:=by lia
    have p:((w::B).reverse.map fun(w:Nat)=>V.int w)=(B.reverse.map fun(w:Nat)=>V.int w)++[V.int w]:=by simp
    have hl2:atI ((w::B).reverse.map fun(w:Nat)=>V.int w) (-1)=some (.int w):=by rw[p];exact Jz _ _
    walk_at"s";walk_at"s";walk_at"s";walk_at"s";walk_at"s";walk_at"s";show AL (SqL.of v) hl2 ?_;refine B1 (small (by lia)) (Ab hcw) ?_;show QY (.inr T.k.sq) rfl rfl ?_;have ek:inV (tx ([cw]++[c])) [tx [40,41],tx [91,93],tx [123,125],tx [60,62]]=decide (c=clo cw):=Q6 hcwo;rw[ek];show ifn (λX=>?_) (λX=>?_)
    ·ext;exact q' (hne (by rintro⟨_,_,_,_,z⟩;injection z with z _;exact X z.symm)) _ (U.trans Z)
    ·show⟨.inl ⟨rfl,_,SqL.of v⟩,?_⟩;refine⟨wa,_, .int w,rfl,rfl,v,?_,?_⟩
     ·rw[p];simp
     ·ext;have hf3:(upd (upd Y tt (.tup [.int i,tx [c]])) wa (.lst ((w::B).reverse.map fun(w:Nat)=>V.int w).dropLast)) I=some (.lst Q):=by rw[AH x];exact hf2
      have hxl:=m.len;refine Bh (j:=w) hf3 (by simp[ixN];lia) ?_;show Bh (j:=i) AF (by simp[ixN];lia) ?_;show⟨r,B,_,_,_,_,rfl,MI.closes (c:=c) (by rw[X];exact m) hc ho,AF,?_,?_⟩
      ·rw[AH x.symm,AH x.symm,AF,p];simp
      ·intro b o z;rw[AH (AM z M),AH (AM z M),AH (AM z hHw)];exact Z b o (U b o z)
 ·intro σ Y z_;obtain⟨st,ws,Q,o3,o4,o5,rfl,m,R,S,U⟩:=z_;have y:=m.rn;rw[List.take_length]at y;show D9 (SqL.of S) ?_;have hl:=m.wk.len
  cases ws with
  |nil=>
   refine ifq rfl ?_;ext
   cases st with
   |nil=>exact q y I Q Y M U R m.fin
   |cons d r=>simp at hl
  |cons w B=>
   refine ifp (by simp) ?_;show q' (λhR=>?_) Y U;have hR':run [] a=some []:=hR;rw[y]at hR'
   cases hR'
   simp at hl
def Ht:Af P w K mg base (k+5) "is_right" ["k","row"] (KC K cs spRightP):=FnA.uE (T.f.at 5) (scN ["k","row"]) λnd _ _ _ _ _ H _ _ _ e h=>by
 refine⟨_,(AD (Am (Ak (B3 T) e Bj (AA (pv 0) (AA (pv 1) AB)))) (AE (AI (BD PK (AN (OT T) e (AA (pv 1) AB)) Ao)))),?_⟩;rcases h with⟨kk,a,rfl,h1,h2,ha,q⟩|⟨kv,v,rfl,g⟩
 rotate_left
 ·ext;exact .inr ⟨kv,v,rfl,g.pass (Same.refl H)⟩
 have j:=BH ha;show .inl (B4 h1 h2 ha (λx i=>?_));show N1 j (λl r y b o d z B=>?_) (λp b d=>?_)
 ·ext;have:=q b (i.trans d);rw[decide_eq_true l]at this;exact this
 ·ext;have:=q b (i.trans d);rw[decide_eq_false p]at this;exact this
def Mo:FuV P w K mg base (k+1) "weighed_places" ["row","weights"] (spWeighed K):=FnA.u (T.f.at 6) (scN ["row","weights"]) λnd _ _ _ _ _ _ _ _ _ hr h=>by
 obtain⟨a,p,y,rfl,ha,Z,hw,q⟩:=h;have hu:=hr.units0;refine⟨_,(AE (AI (A1 (own:=["sign"]) (sel:=[1]) (Ax (osc:=(AW (top 27))) (N:=["row","weights"]) (by decide +kernel)) rfl (B8 (pv 0)) (λ_ _ _ _ _=>(Ah (i:=0) (show(["sign","weights"]:List Str).Nodup from by decide +kernel) rfl (Or.inr rfl))) (Aq (by decide)) (λ_ _ _ _ _=>A2) (λ_ _ _ _ _=>(BU (AR (Ad K hu) (pv 0) (AX (T.g.at 4))) (B5 (Om K) rfl (T.N 8) PyProof.Rows.boot_list (AA (pv 1) AB)) (A1 (own:=["bracket"]) (sel:=[0]) (Iz (osc:=(AW (top 27))) (N:=["sign","weights"]) rfl rfl (by decide +kernel)) rfl (B8 (BS (Bc K) (AX (T.g.at 3)) BW (BV (Aa K (T.N 7) (AA (pv 1) AB))))) (λ_ _ _ _ _=>(Ah (i:=0) (show(["bracket","sign"]:List Str).Nodup from by decide +kernel) rfl (Or.inl rfl))) (Aq (by decide)) (λ_ _ _ _ _=>A2) (λ_ _ _ _ _=>(B5 Ec rfl (T.N 5) PyProof.Rows.boot_int (AA (BD (Ad K hu) (pv 1) (pv 0)) AB))))))))),?_⟩;show GF (small (by lia)) (λD i G B=>∃d:Nat->Addr,G=(List.range i).map (λj=>V.ref (d j))/\∀j,j<i->B (d j)=some (iL (plw y (a.getD j 0)))/\d j≠D)
  (λD _=>⟨λ_=>D,rfl,λj v=>absurd v (by lia)⟩) (λD i G H1 H _ ⟨d,e,x⟩ L=>⟨d,e,λj v=>⟨L _ _ (x j v).1 (x j v).2,(x j v).2⟩⟩)
  (λD G B hD M _ I ⟨d,e,x⟩=>?_) ?_
 ·subst e;refine q D B hD I ⟨d,by rw[List.length_map];exact M,λi J=>?_⟩;rw[List.length_map]at J;have eg:(a.map (plw y)).getD i []=plw y (a.getD i 0):=by
   simp only[List.getD_eq_getElem?_getD,List.getElem?_map,List.getElem?_eq_getElem J];rfl
  rw[eg];exact(x i J).1
 ·rintro D i G B R hD J M hl I ⟨d,e,x⟩ r;have fin:∀l H6,B l=none->Same B H6->H6 l=some (iL (plw y (a.getD i 0)))->R (.ref l) H6:=by
   intro l H6 o s6 h6;have Q:l≠D:=λz=>by rw[z,M]at o;cases o
   refine r _ _ s6 ⟨λj=>if j=i then l else d j,?_,λj v=>?_⟩
   ·subst e;rw[List.range_succ,List.map_append];congr 1
    ·refine List.map_congr_left λj v=>?_;have:=List.mem_range.mp v;show V.ref (d j)=V.ref (if j=i then l else d j);rw[if_neg (by lia)]
    ·simp
   ·by_cases ej:j=i
    ·subst ej;simp only[if_true];exact⟨h6,Q⟩
    ·simp only[if_neg ej];obtain⟨a1,a2⟩:=x j (by lia);exact⟨s6 _ _ a1,a2⟩
  show ifd (λS=>?_) (λS=>?_)
  ·show Rj (I.seq Z) (λl o=>?_);refine fin l _ o (AK o _) ?_;have U:a.getD i 0=63:=by simpa using S
   rw[AF];unfold plw;rw[if_pos U]
  ·have X:¬ (a.getD i 0=63):=by simpa using S
   show A7 (.inl (I.seq Z)) ?_;ext;have el:(((y.map V.int).length:Nat):Int)=(y.length:Int):=by rw[List.length_map]
   rw[el,DW _ (by lia),Int.toNat_natCast];show JL (λb=> .int (if a.getD i 0=b then 1 else 0)) (small (by rw[List.length_take];exact Nat.le_trans (Nat.min_le_right _ _) (by decide))) (λD2 H Y s2 h2=>?_) (λi2 c H R2 hc2 s2 r2=>?_)
   ·refine fin D2 H Y s2 ?_;rw[h2];unfold plw;rw[if_neg X];show some (HO.lst _)=some (HO.lst (List.map V.int (List.map _ _)));rw[List.map_map]
    rfl
   ·ext;have eb:(if(decide ([a.getD i 0]=[c]))=true then(1:Int)else 0)=if a.getD i 0=c then 1 else 0:=by
     by_cases z:a.getD i 0=c<;>simp[z]
    rw[eb];exact r2 H (Same.refl _)
def ET:FuV P w K mg base (k+2) "counted_places" ["k","row"] (spCounted):=FnA.u (T.f.at 7) (scN ["k","row"]) λnd _ _ _ _ _ H _ _ _ j h=>by
 obtain⟨b,a,rfl,I,J,l,q⟩:=h;refine⟨_,(AE (AI (AN (Mo T) j (AA (pv 1) (AA (AJ BO (Ac (AA AC AB)) (AJ BO AC (pv 0))) AB))))),?_⟩;show⟨small (show 1<=1000 by decide),λz o=>?_⟩;ext;have e:(2*b).toNat=2*b.toNat:=by lia
 refine EI (xs:=[.int 1]) AF (by lia) (by lia) (small (by rw[List.length_singleton,e];lia)) (λp v=>?_);ext;have x:(List.replicate (2*b).toNat [V.int 1]).flatten=(ones b.toNat).map V.int:=by rw[e,Qf]
 rw[x]at*
 have i:Same H (upd (upd H z (.lst [.int 1])) p (.lst ((ones b.toNat).map V.int))):=(AK o _).trans (AK v _);refine Nd l (SqL.of AF) (by rw[List.length_replicate];lia) (λr y d B G=>?_);exact q r y (i.free d) (i.trans B) G
def Ho:FuV P w K mg base (k+1) "pair_sum" ["first","last"] (spPair):=FnA.u (T.f.at 8) (scN ["first","last"]) λnd _ _ _ _ _ _ _ _ _ l h=>by
 obtain⟨p,q,x,y,kk,rfl,d,o,z,M,hk,e,j,r⟩:=h;have Q:=l.units0;refine⟨_,(AE (AI (Aj (Eb K rfl) rfl (T.N 15) PyProof.Rows.boot_sum (AA (A1 (own:=["opening"]) (sel:=[0,1]) (Ax (osc:=(AW (top 29))) (N:=["first","last"]) (by decide +kernel)) rfl (Bv rfl (T.N 10) (AA AC (AA (Aa K (T.N 7) (AA (pv 0) AB)) (AA AC AB)))) (λ_ _ _ _ _=>(Ah (i:=0) (show(["opening","first","last"]:List Str).Nodup from by decide +kernel) rfl (Or.inl rfl))) (Aq (by decide)) (λ_ _ _ _ _=>A2) (λ_ _ _ _ _=>(AJ BR (AG K (pv 1) (pv 0)) (AG K (pv 2) (AJ AQ (pv 0) AC))))) AB)))),?_⟩;show A7 (.inl (SqL.of d)) ?_;ext;have B:(((x.map V.int).length:Nat):Int)=((2*kk:Nat):Int):=by rw[List.length_map,z]
 rw[B];refine⟨0,((2*kk:Nat):Int),2,rfl,⟨by decide,by decide,EY (by decide) (by decide) (by lia) (by lia)⟩,?_⟩;have G:rN 0 ((2*kk:Nat):Int) 2=kk:=by rw[E7];lia
 rw[G];refine IU (λi=> .int (x.getD (2*i) 0*y.getD (2*i+1) 0)) (small (by lia)) (λD a S b H=>?_) (λi a R U b I=>?_)
 ·have ns:SqL K a D (((List.range kk).map λi=>x.getD (2*i) 0*y.getD (2*i+1) 0).map V.int):=by rw[List.map_map];exact SqL.of H
  refine FH ns ?_;rw[IW];exact r a b
 ·ext;have J:(0+((i:Nat):Int)*2)=((2*i:Nat):Int):=by lia
  rw[J];refine AL (SqL.of (b _ _ d)) (v:= .int (x.getD (2*i) 0)) (Ab (int_at (by lia))) ?_;ext;have L:(((2*i:Nat):Int)+1)=((2*i+1:Nat):Int):=by lia
  rw[L];refine AL (SqL.of (b _ _ o)) (v:= .int (y.getD (2*i+1) 0)) (Ab (int_at (by lia))) ?_;refine BX (A4 (e.at _).1 (e.at _).2 DR) (A4 (j.at _).1 (j.at _).2 DR) ?_;exact I a (Same.refl _)
def II:FuV P w K mg base (k+1) "no_sums" ["many"] (spNoSums):=FnA.u (T.f.at 9) (scN ["many"]) λnd _ _ _ _ _ H _ _ _ hr h=>by
 obtain⟨n,rfl,hn,q⟩:=h;have hu:=hr.units0;refine⟨_,(AE (AI (A1 (own:=["start"]) (sel:=[0]) (Ax (osc:=(AW (top 30))) (N:=["many"]) (by decide +kernel)) rfl (CM rfl (T.N 10) (AA (AJ AQ (pv 0) AC) AB)) (λ_ _ _ _ _=>(Ah (i:=0) (show(["start","many"]:List Str).Nodup from by decide +kernel) rfl (Or.inl rfl))) (Aq (by decide)) (λ_ _ _ _ _=>A2) (λ_ _ _ _ _=>(AJ BO (Ac (AA AC AB)) (AJ AQ (pv 1) AC)))))),?_⟩;show⟨_,rfl,by lia,by lia,?_⟩;have J:((n:Int)+1).toNat=n+1:=by lia
 rw[J];refine GG (small (by lia)) (λD i G o=>∃a:Nat->Addr,G=(List.range i).map (λj=>V.ref (a j))/\(∀j,j<i->o (a j)=some (.lst (rwl n λ_=>0))/\H (a j)=none/\a j≠D)/\∀j v,j<i->v<i->a j=a v->j=v)
  (λD _=>⟨λ_=>D,rfl,λj b=>absurd b (by lia),λj _ b=>absurd b (by lia)⟩) (λD i G H1 H2 _ ⟨a,e,d,y⟩ L=>⟨a,e,λj b=>⟨L _ _ (d j b).1 (d j b).2.2,(d j b).2⟩,y⟩)
  (λD G o Z M _ Q ⟨a,e,d,y⟩=>?_) ?_
 ·subst e;exact q D a o ⟨Z,λi I=>(d i (by lia)).2.1,λi I=>(d i (by lia)).2.2,λi j I b=>y i j (by lia) (by lia),M,λi I=>(d i (by lia)).1,Q⟩
 ·rintro D i G o R Z I M hl Q ⟨a,e,d,y⟩ r;show⟨small (show 1<=1000 by decide),λz hz=>?_⟩;show EI (xs:=[.int 0]) AF (by lia) (by lia) (small (by rw[List.length_singleton,J];lia)) (λp B=>?_);have S:p≠z:=λw=>by rw[w,AF]at B;cases B
  have l:o p=none:=by rw[AH S]at B;exact B
  have U:p≠D:=λw=>by rw[w,M]at l;cases l
  have sp:Same o (upd (upd o z (.lst [.int 0])) p (.lst (List.replicate ((n:Int)+1).toNat [V.int 0]).flatten)):=(AK hz _).trans (AK B _);refine r _ _ sp ⟨λj=>if j=i then p else a j,?_,?_,?_⟩
  ·subst e;rw[List.range_succ,List.map_append];congr 1
   ·refine List.map_congr_left λj b=>?_;have:=List.mem_range.mp b;show V.ref (a j)=V.ref (if j=i then p else a j);rw[if_neg (by lia)]
   ·simp
  ·intro j b
   by_cases ej:j=i
   ·subst ej;simp only[if_true];refine⟨?_,?_,U⟩
    ·rw[AF,J,Qe]
    ·exact Q.free l
   ·simp only[if_neg ej];obtain⟨a1,a2,a3⟩:=d j (by lia);exact⟨sp _ _ a1,a2,a3⟩
  ·intro j v b hj' x;have nq:∀j,j<i->a j≠p:=λj b w=>by have:=(d j b).1;rw[w,l]at this;cases this
   by_cases X:j=i<;>by_cases Y:v=i
   ·lia
   ·simp only[if_pos X,if_neg Y]at x;exact absurd x.symm (nq v (by lia))
   ·simp only[if_neg X,if_pos Y]at x;exact absurd x (nq j (by lia))
   ·simp only[if_neg X,if_neg Y]at x;exact y j v (by lia) (by lia) x
def EV:FuV P w K mg base (k+2) "span_sums" ["places"] (spSpansT):=FnA.u (T.f.at 10) (scN ["places","many","sums","start","end","first_part","stop"]) λnd _ _ _ _ _ _ _ _ _ B h=>by
 obtain⟨p,a,rfl,M,Q,q⟩:=h;have Y:=B.units0;obtain⟨pa,o,x⟩:=id Q;refine⟨_,(AD (AO 1 (Aa K (T.N 7) (AA (pv 0) AB))) (AD (AO 2 (AN (II T) B (AA (pv 1) AB))) (AD (A8 PassesOwn.never rfl (Bv rfl (T.N 10) (AA (pv 1) (AA (B2 By AC) (AA (B2 By AC) AB)))) (Ap 3) (AD (B7 AC (CT (AG K (pv 2) (pv 3)) (pv 3) Be)) (AE (A8 PassesOwn.never rfl (Bv rfl (T.N 10) (AA (AJ AQ (pv 3) AC) (AA (pv 1) (AA AC AB)))) (Ap 4) (AD (AO 5 (AJ BR (AN (Ho T) B (AA (AG K (pv 0) (pv 3)) (AA (AG K (pv 0) (pv 4)) AB))) (AG K (AG K (pv 2) (AJ AQ (pv 3) AC)) (pv 4)))) (AE (A8 PassesOwn.never rfl (Bv rfl (T.N 10) (AA (AJ AQ (pv 4) AC) (AA (AJ AQ (pv 1) AC) (AA AC AB)))) (Ap 6) (AE (Dz (AG K (pv 2) (pv 3)) (pv 6) (Dq K) (AJ BR (pv 5) (AG K (AG K (pv 2) (AJ AQ (pv 4) AC)) (pv 6))) Cq Be))))))))) (AE (AI (pv 2)))))),?_⟩;show A7 (.inl (SqL.of o)) ?_;have R:((((List.range (Pl4 a).length).map λi=>V.ref (pa i)).length:Nat):Int)=(a.length:Int):=by rw[List.length_map,List.length_range,List.length_map]
 rw[R];rcases M with rfl|rfl
 ·show Fe (n:=0) (by decide) (λG r S e=>?_);show⟨_,-1,-1,rfl,⟨by decide,by decide,by decide⟩,?_⟩;refine unr 1 (Bl (by decide) ?_);refine Eo (st:=0) rfl rfl (Nat.le_refl _) e λL l=>?_;show⟨_,_,2,rfl,⟨by decide,by decide,by decide⟩,?_⟩;refine unr 0 ⟨Nat.le_of_ble_eq_true rfl,?_⟩;refine⟨Nat.le_of_ble_eq_true rfl,?_⟩;ext;exact q G r L (l.congr λi j H I=>by
   obtain rfl:i=0:=by simpa using H
   obtain rfl:j=0:=by simpa using I
   rfl)
 show Fe (n:=2) (by decide) (λG r S e=>?_);show⟨_,-1,-1,rfl,⟨by decide,by decide,by decide⟩,?_⟩;refine unr 3 (Bl (by decide) ?_);refine Eo (st:=2) rfl rfl (by decide) e λL l=>?_;show⟨_,_,2,rfl,⟨by decide,by decide,by decide⟩,?_⟩;refine unr 0 ⟨Nat.le_of_ble_eq_true rfl,?_⟩;refine Bl (by decide) ?_;refine Eo (st:=1) rfl rfl (by decide) l λZ y=>?_;show⟨_,_,2,rfl,⟨by decide,by decide,by decide⟩,?_⟩;refine unr 0 ⟨Nat.le_of_ble_eq_true rfl,?_⟩;refine Bl (by decide) ?_;refine Eo (st:=0) rfl rfl (by decide) y λH4 d=>?_;clear e l y;show⟨_,_,2,rfl,⟨by decide,by decide,by decide⟩,?_⟩;refine unr 1 (Bl (by decide) ?_);show AL (SqL.of (d.sm _ _ o)) (v:= .ref (pa 0)) rfl ?_;show AL (SqL.of (d.sm _ _ o)) (v:= .ref (pa 1)) rfl ?_;show Jb (k:=4) (d.sm _ _ (x 0 (by decide))) (d.sm _ _ (x 1 (by decide))) rfl rfl (by decide) (Do (k:=4) (a:=[40,63]) (by decide) _ (by simp)).2 (Do (k:=4) (a:=[40,63]) (by decide) _ (by simp)).2 (λH6 U=>?_);have b:=d.same U;show AL (SqL.of b.top) (v:= .ref (r 1)) rfl ?_;show AL (SqL.of (b.row 1 (by decide))) (v:= .int 1) rfl ?_;have z1:∀z:Int,0<=z->z<=1->z.natAbs<big:=λz h0 X=>A4 h0 X (by unfold big;decide +kernel);refine BX (z1 _ (by decide) (by decide)) (z1 _ (by decide) (by decide)) ?_;show⟨_,_,2,rfl,⟨by decide,by decide,by decide⟩,?_⟩;refine unr 1 (Bl (by decide) ?_);show AL (SqL.of b.top) (v:= .ref (r 0)) rfl ?_;show EB (SqL.of (b.row 0 (by decide))) (j:=2) (v:= .int 0) rfl ?_;show AL (SqL.of b.top) (v:= .ref (r 2)) rfl ?_;show AL (SqL.of (b.row 2 (by decide))) (v:= .int 1) rfl ?_;refine BX (z1 _ (by decide) (by decide)) (z1 _ (by decide) (by decide)) ?_;refine DX ?_;refine Bh (b.row 0 (by decide)) (j:=2) (Bn (by rw[C8];decide)) ?_;have J:=b.set (i:=0) (j:=2) (v:=1) (by decide);refine⟨Nat.le_of_ble_eq_true rfl,?_⟩;refine⟨Nat.le_of_ble_eq_true rfl,?_⟩;refine⟨Nat.le_of_ble_eq_true rfl,?_⟩;show q G r _ (J.congr λi j H I=>?_);have:∀i,i<3->∀j,j<3->(if i=0/\j=2 then 1 else if i=0/\j=0 then 1 else if i=1/\j=1 then 1 else if i=2/\j=2 then 1 else(0:Int))=TQ3 i j:=by decide
 exact this i (Nat.lt_succ_of_le H) j (Nat.lt_succ_of_le I)
def EU:FuV P w K mg base (k+1) "whole_sum" ["sums"] (spWholeSum):=FnA.u (T.f.at 11) (scN ["sums"]) λnd _ _ _ _ _ _ _ _ _ _ h=>by
 obtain⟨b,d,e,n,a,rfl,tb,q⟩:=h;refine⟨_,(AE (AI (AG K (AG K (pv 0) AC) (B2 By AC)))),?_⟩;show AL (SqL.of tb.top) (Ab (j:=0) (tb.at (Nat.zero_le _))) ?_;show AL (SqL.of (tb.row 0 (Nat.zero_le _))) (v:= .int (a 0 n)) (D6 ?_ ?_) ?_
 ·rw[C8];lia
 ·rw[C8];exact Dy (Nat.le_refl _)
 exact q
def Mu:Af P w K mg base (k+2) "check_filling" ["sums"] (spCheckFillE cs):=FnA.uE (T.f.at 12) (scN ["sums"]) λnd _ _ _ _ _ H _ _ _ a h=>by
 have d:=a.units0;refine⟨_,(AE (AS (AR (Ad K d) (AN (EU T) a (AA (pv 0) AB)) AC) (AE (C0 (T.c.at 8).2 (T.c.at 8).1 a.hd DG (AA Cm AB))) AT)),?_⟩;obtain⟨l,sa,o,n,e,rfl,tb,⟨b,q⟩|⟨i,r⟩⟩:=h
 ·show Dn tb ?_;show ifq (decide_eq_false b) ?_;ext;exact q
 ·show Dn tb ?_;show ifp (decide_eq_true i) ?_;ext;exact⟨small (by decide),λy j=>r y H (Same.refl H) j⟩
def Ml:FuV P w K mg base (k+2) "pairs_with_rest" ["places","sums"] (spPairsW):=FnA.u (T.f.at 13) (scN ["places","sums","many","outer","found","start","end","pair","within","outside","stop"]) λnd _ _ _ _ s H _ _ _ hr h=>by
 obtain⟨p,ss,ps,kk,ads,H0,rfl,hP,hn,hk,hl,R,q⟩:=h;have hu:=hr.units0;have hsm:∀l∈ps,Sm l:=λl z=>(hl l z).2;obtain⟨pa,X,hpa⟩:=id hP;refine⟨_,(AD (AO 2 (Aa K (T.N 7) (AA (pv 0) AB))) (AD (AO 3 (AN (II T) hr (AA (pv 2) AB))) (AD (B7 AC (CT (AG K (pv 3) AC) (pv 2) Be)) (AD (AO 4 (Ac AB)) (AD (A8 PassesOwn.never rfl (CM rfl (T.N 10) (AA (pv 2) AB)) (Ap 5) (AE (A8 PassesOwn.never rfl (Bv rfl (T.N 10) (AA (AJ AQ (pv 5) AC) (AA (pv 2) (AA AC AB)))) (Ap 6) (AD (AO 7 (AN (Ho T) hr (AA (AG K (pv 0) (pv 5)) (AA (AG K (pv 0) (pv 6)) AB)))) (AD (AO 8 (AG K (AG K (pv 1) (AJ AQ (pv 5) AC)) (pv 6))) (AD (AO 9 AC) (AD (A8 PassesOwn.never rfl (Bv rfl (T.N 10) (AA (AJ AQ (pv 6) AC) (AA (AJ AQ (pv 2) AC) (AA AC AB)))) (Ap 10) (AD (Dz (AG K (pv 3) (AJ AQ (pv 6) AC)) (pv 10) (Dq K) (AJ BR (AJ BR (AG K (AG K (pv 3) (pv 5)) (pv 10)) (pv 7)) (pv 8)) Cq Be) (AE (EC (i:=9) nd rfl (Or.inl rfl) (AJ BR (AG K (AG K (pv 3) (pv 5)) (pv 10)) (AG K (AG K (pv 1) (AJ AQ (pv 6) AC)) (pv 10))) Cq)))) (AD (Dz (AG K (pv 3) (AJ AQ (pv 5) AC)) (pv 6) (Dq K) (AJ BR (pv 7) (pv 9)) Cq Be) (AE (Am (Av K PySem.F.plainAttrs_list PySem.F.slot_list_append PySem.F.type_list_append CD (pv 4) (AA (BY (AA (pv 5) (AA (pv 6) (AA (AJ BR (pv 8) (pv 9)) AB)))) AB)))))))))))) (AE (AI (pv 4)))))))),?_⟩;show A7 (.inl (SqL.of X)) ?_;have en:((((List.range ps.length).map λi=>V.ref (pa i)).length:Nat):Int)=(ps.length:Int):=by rw[List.length_map,List.length_range]
 rw[en];generalize hN:ps.length=n at*
 show Fe (by lia) (λs' M H1 Q=>?_);have place:∀ {H':Hp} {i:Nat},Same H H'->i<n->∃l,H' (pa i)=some (iL l)/\l.length=2*kk/\Sm l/\∀b,PP ps i b=l.getD b 0:=by
  intro H' i sH hi;have e:ps[i]? =some ps[i]:=List.getElem?_eq_getElem (by lia);have eg:ps.getD i []=ps[i]:=by rw[List.getD_eq_getElem?_getD,e];rfl
  refine⟨ps[i],?_,(hl _ (List.getElem_mem _)).1,(hl _ (List.getElem_mem _)).2,λb=>by show(ps.getD i []).getD b 0=_;rw[eg]⟩;have:=sH _ _ (hpa i (by lia));rw[eg]at this;exact this
 have pix:∀ {i:Nat},i<n->((List.range n).map λi=>V.ref (pa i))[i]? =some (.ref (pa i)):=fun{i} hi=>by rw[List.getElem?_map,List.getElem?_range hi];rfl
 have Y:∀ {j:Nat} {T:Nat->Int},j<=n->ixN (rwl n T).length (j:Int)=some j:=fun{j T} hj=>Bn (by rw[C8];lia);show AL (SqL.of Q.top) (Ab (j:=0) (Q.at (Nat.zero_le _))) ?_;show Bh (Q.row 0 (Nat.zero_le _)) (j:=n) (Y (Nat.le_refl _)) ?_;have J:=Q.set (i:=0) (j:=n) (v:=1) (Nat.zero_le _);obtain⟨I,e3⟩:∃T:Nat->Nat->Int,T=λa b=>if a=0/\b=n then(1:Int)else 0:=⟨_,rfl⟩
 have ok2:∀a b,0<=I a b/\I a b<=1:=λa b=>by rw[e3];dsimp only;split<;>decide
 rw[<-e3]at J;generalize upd H1 (M 0) _=H2 at*
 show⟨small (show 0<=1000 by decide),λF0 L=>?_⟩;have t3:=AK L (.lst []);have g3:(upd H2 F0 (.lst [])) F0=some (.lst []):=AF;have B:=J.same t3;have Z:H F0=none:=J.sm.free L;have nFs:F0≠s':=λz=>by rw[z,J.top]at L;cases L
 have nFa:∀i,i<=n->F0≠M i:=λi hi z=>by rw[z,J.row i hi]at L;cases L
 generalize upd H2 F0 _=H3 at*
 clear Q J t3;ext;rcases hn with rfl|rfl
 ·refine⟨_,rfl,by decide,by decide,?_⟩;refine unr 0 ⟨Nat.le_refl _,?_⟩;ext;exact q F0 [] H3 Z B.sm g3 λ_ z=>nomatch z
 refine⟨_,rfl,by decide,by decide,?_⟩;refine unr 2 (LZ (by decide) ?_);show⟨_,_,2,rfl,⟨by decide,by decide,by decide⟩,?_⟩;refine unr 1 (Bl (by decide) ?_);ext;obtain⟨x,hx,lx,sx,ex⟩:=place B.sm (show 0<2 by decide);obtain⟨y,hy,ly,sy,ey⟩:=place B.sm (show 1<2 by decide);refine AL (SqL.of (B.sm _ _ X)) (v:= .ref (pa 0)) rfl ?_;show AL (SqL.of (B.sm _ _ X)) (v:= .ref (pa 1)) rfl ?_;show Jb hx hy lx ly hk sx sy (λH6 s6=>?_);have epr:sm kk (λo=>x.getD (2*o) 0*y.getD (2*o+1) 0)=pr (PP ps) kk 0 1:=by
  unfold pr;exact JR kk λo _=>by rw[ex,ey]
 rw[epr];have G:=UZ hk hsm 0 1;generalize pr (PP ps) kk 0 1=S at*
 have b1:=L7 1 1;have b2:=L7 2 2;have d:=B.same s6;have gF6:=s6 _ _ g3;have tS:=λi (h:i<=2)=>d.sm _ _ (R.row i h);clear B g3;show AL (SqL.of (d.sm _ _ R.top)) (v:= .ref (ads 1)) rfl ?_;show AL (SqL.of (tS 1 (by decide))) (v:= .int (TQ3 1 1)) rfl ?_;generalize TQ3 1 1=w' at*
 show⟨_,_,2,rfl,⟨by decide,by decide,by decide⟩,?_⟩;refine unr 1 (Bl (by decide) ?_);show AL (SqL.of d.top) (v:= .ref (M 2)) rfl ?_;show EB (SqL.of (d.row 2 (by decide))) (j:=2) (v:= .int (I 2 2)) rfl ?_;show AL (SqL.of d.top) (v:= .ref (M 0)) rfl ?_;show AL (SqL.of (d.row 0 (by decide))) (v:= .int (I 0 2)) rfl ?_;have U:=ok2 0 2;have z1:(1:Int).natAbs<big:=by unfold big;decide +kernel
 show BX (A4 U.1 U.2 z1) (A4 G.1 G.2 DU) ?_;ext;have bq:0<=I 0 2*S/\I 0 2*S<=4*(top30*top30):=⟨Int.mul_nonneg U.1 G.1,Int.le_trans (Int.mul_le_mul_of_nonneg_right U.2 G.1) (by rw[Int.one_mul];exact G.2)⟩;refine BX (A4 bq.1 bq.2 DU) (A4 b1.1 b1.2 D5) ?_;refine DX ?_;generalize I 2 2+I 0 2*S*w'=v1;refine Bh (d.row 2 (by decide)) (j:=2) (Y (Nat.le_refl _)) ?_;obtain⟨T7,r,e7⟩:∃T:Nat->Nat->Int,Tb H (upd H6 (M 2) (.lst ((rwl 2 (I 2)).set 2 (.int v1)))) s' M 2 T/\T 0 2=I 0 2:=⟨_,d.set (i:=2) (j:=2) (v:=v1) (by decide),rfl⟩;have gF7:(upd H6 (M 2) (.lst ((rwl 2 (I 2)).set 2 (.int v1)))) F0=some (.lst []):=by rw[AH (nFa 2 (by decide))];exact gF6
 have tS7:=λi (h:i<=2)=>r.sm _ _ (R.row i h);have tS0:=r.sm _ _ R.top;generalize upd H6 (M 2) _=H7 at*
 show AL (SqL.of r.top) (v:= .ref (M 0)) rfl ?_;show AL (SqL.of (r.row 0 (by decide))) (v:= .int (T7 0 2)) rfl ?_;rw[e7];show AL (SqL.of tS0) (v:= .ref (ads 2)) rfl ?_;show AL (SqL.of (tS7 2 (by decide))) (v:= .int (TQ3 2 2)) rfl ?_;generalize TQ3 2 2=w2 at*
 refine BX (A4 U.1 U.2 z1) (A4 b2.1 b2.2 D5) ?_;have bo:0<=0+I 0 2*w2/\0+I 0 2*w2<=cap:=by
  rw[Int.zero_add];exact⟨Int.mul_nonneg U.1 b2.1,Int.le_trans (Int.mul_le_mul_of_nonneg_right U.2 b2.1) (by rw[Int.one_mul];exact b2.2)⟩
 ext;generalize 0+I 0 2*w2=ou at*
 refine⟨Nat.le_of_ble_eq_true rfl,?_⟩;show AL (SqL.of r.top) (v:= .ref (M 1)) rfl ?_;show EB (SqL.of (r.row 1 (by decide))) (j:=1) (v:= .int (T7 1 1)) rfl ?_;show BX (A4 G.1 G.2 DU) (A4 bo.1 bo.2 D5) ?_;refine DX ?_;generalize T7 1 1+S*ou=v2;refine Bh (r.row 1 (by decide)) (j:=1) (Y (by decide)) ?_;have tb8:=r.set (i:=1) (j:=1) (v:=v2) (by decide);have gF8:(upd H7 (M 1) (.lst ((rwl 2 (T7 1)).set 1 (.int v2)))) F0=some (.lst []):=by rw[AH (nFa 1 (by decide))];exact gF7
 have s8:=tb8.sm;generalize upd H7 (M 1) _=H8 at*
 show⟨.inl ⟨rfl,_,SqL.of gF8⟩,?_⟩;show BX (A4 b1.1 b1.2 D5) (A4 bo.1 bo.2 D5) ?_;have br:0<=w'*ou/\w'*ou<=cap*cap:=⟨Int.mul_nonneg b1.1 bo.1,Int.mul_le_mul b1.2 bo.2 bo.1 WL⟩;generalize w'*ou=re at*
 show⟨small (show 3<=1000 by decide),λT' hT=>?_⟩;have gF9:=AK hT (.tup [.int 0, .int 1, .int re]) _ _ gF8;have s9:=s8.trans (AK hT (.tup [.int 0, .int 1, .int re]));have nTF:T'≠F0:=λz=>by rw[z,gF8]at hT;cases hT
 show⟨F0,_,_,rfl,rfl,gF9,DQ (by decide),?_⟩;refine⟨Nat.le_of_ble_eq_true rfl,?_⟩;refine LZ (by decide) ?_;show⟨_,_,2,rfl,⟨by decide,by decide,by decide⟩,?_⟩;refine unr 0 ⟨Nat.le_of_ble_eq_true rfl,?_⟩;refine⟨Nat.le_of_ble_eq_true rfl,?_⟩;show q F0 _ _ Z (λb o z=>?_) AF (FpW.more (s:=0) (e:=1) (λ_ z=>nomatch z) (by rw[AH nTF];exact AF) ⟨by decide,by decide,br⟩);rw[AH (AM z Z)];exact s9 b o z
def Mw:FuV P w K mg base (k+3) "bracket_sums" ["places","sums"] (spBrSumsW):=FnA.u (T.f.at 14) (scN ["places","sums","found","start","end","rest","opening","weight"]) λnd _ _ _ _ _ H _ _ _ hr h=>by
 obtain⟨p,ss,ps,kk,ads,H0,rfl,hP,hn,hk,hl,tbS,q⟩:=h;have hu:=hr.units0;have hsm:∀l∈ps,Sm l:=λl z=>(hl l z).2;obtain⟨pa,Q,hpa⟩:=id hP;refine⟨_,(AD (Fb (i:=2) nd rfl (Or.inl rfl) (own:=["place"]) (sel:=[]) (Ax (osc:=(AW (top 35))) (N:=["places","sums","found","start","end","rest","opening","weight"]) (by decide +kernel)) rfl (C7 K (pv 0)) (λ_ _ _ _ _=>(Ah (i:=0) (show(["place"]:List Str).Nodup from by decide +kernel) rfl (Or.inl rfl))) (Aq (by decide)) (λ_ _ _ _ _=>A2) (λ_ _ _ _ _=>(AJ BO (Ac (AA AC AB)) (Aa K (T.N 7) (AA (pv 0) AB))))) (AD (A8 PassesOwn.never rfl (C7 K (AN (Ml T) hr (AA (pv 0) (AA (pv 1) AB)))) (CP (n:=3) K rfl (A0 (Ap 3) (A0 (Ap 4) (A0 (Ap 5) CF)))) (AE (A8 PassesOwn.never rfl (Bv rfl (T.N 10) (AA AC (AA (Aa K (T.N 7) (AA (AG K (pv 0) (pv 3)) AB)) (AA AC AB)))) (Ap 6) (AD (AO 7 (AJ BR (AJ BR (AG K (AG K (pv 0) (pv 3)) (pv 6)) (AG K (AG K (pv 0) (pv 4)) (AJ AQ (pv 6) AC))) (pv 5))) (AD (Dz (AG K (pv 2) (pv 3)) (pv 6) (Dq K) (pv 7) Cq Be) (AE (Dz (AG K (pv 2) (pv 4)) (AJ AQ (pv 6) AC) (Dq K) (pv 7) Cq Be))))))) (AE (AI (pv 2))))),?_⟩;have place:∀ {B:Hp} {i:Nat},Same H B->i<ps.length->∃l,B (pa i)=some (iL l)/\l.length=2*kk/\Sm l/\∀b,PP ps i b=l.getD b 0:=by
  intro B i sH S;have e:ps[i]? =some ps[i]:=List.getElem?_eq_getElem (by lia);have eg:ps.getD i []=ps[i]:=by rw[List.getD_eq_getElem?_getD,e];rfl
  refine⟨ps[i],?_,(hl _ (List.getElem_mem _)).1,(hl _ (List.getElem_mem _)).2,λb=>by show(ps.getD i []).getD b 0=_;rw[eg]⟩;have:=sH _ _ (hpa i (by lia));rw[eg]at this;exact this
 have Z:∀ {i:Nat},i<ps.length->((List.range ps.length).map λi=>V.ref (pa i))[i]? =some (.ref (pa i)):=fun{i} S=>by rw[List.getElem?_map,List.getElem?_range S];rfl
 have U:((List.range ps.length).map λi=>V.ref (pa i)).length=ps.length:=by rw[List.length_map,List.length_range]
 show⟨p,rfl,⟨_,SqL.of Q⟩,?_⟩;refine QM (small (by rw[U];lia)) Q (λD i ys B=>∃d:Nat->Addr,ys=(List.range i).map (λj=>V.ref (d j))/\(∀j,j<i->B (d j)=some (.lst (rw2 (2*kk) λ_=>0))/\H (d j)=none/\d j≠D)/\∀j j',j<i->j'<i->d j=d j'->j=j')
  (λD _=>⟨λ_=>D,rfl,λj I=>absurd I (by lia),λj _ I=>absurd I (by lia)⟩) (λD i ys H1 H2 _ ⟨d,e,M,h2⟩ s12=>⟨d,e,λj I=>⟨s12 _ _ (M j I).1 (M j I).2.2,(M j I).2⟩,h2⟩)
  (λD ys B hD hy _ sH ⟨d,e,M,h2⟩=>?_) ?_
 rotate_left
 ·rintro D i x ys B R hD hx hy hl' sH ⟨d,e,M,h2⟩ r;have S:i<ps.length:=by
   have:=(List.getElem?_eq_some_iff.mp hx).1;rw[U]at this;exact this
  rw[Z S]at hx
  cases hx
  obtain⟨l,gl,ll,_,_⟩:=place sH S;show⟨small (show 1<=1000 by decide),λz hz=>?_⟩;show A7 (.inl (SqL.of (AK hz _ _ _ gl))) ?_;have el:(((l.map V.int).length:Nat):Int)=((2*kk:Nat):Int):=by rw[List.length_map,ll]
  rw[el];refine EI (k:=((2*kk:Nat):Int)) (xs:=[.int 0]) AF (by lia) (by lia) (small (by rw[List.length_singleton,Int.toNat_natCast];lia)) (λp' X=>?_);have hpz:p'≠z:=λw=>by rw[w,AF]at X;cases X
  have hp2:B p'=none:=by rw[AH hpz]at X;exact X
  have hpD:p'≠D:=λw=>by rw[w,hy]at hp2;cases hp2
  have sp:Same B (upd (upd B z (.lst [.int 0])) p' (.lst (List.replicate ((2*kk:Nat):Int).toNat [V.int 0]).flatten)):=(AK hz _).trans (AK X _);refine r _ _ sp ⟨λj=>if j=i then p' else d j,?_,?_,?_⟩
  ·subst e;rw[List.range_succ,List.map_append];congr 1
   ·refine List.map_congr_left λj I=>?_;have:=List.mem_range.mp I;show V.ref (d j)=V.ref (if j=i then p' else d j);rw[if_neg (by lia)]
   ·simp
  ·intro j I
   by_cases ej:j=i
   ·subst ej;simp only[if_true];refine⟨?_,?_,hpD⟩
    ·rw[AF,Int.toNat_natCast,O3]
    ·exact sH.free hp2
   ·simp only[if_neg ej];obtain⟨a1,a2,a3⟩:=M j (by lia);exact⟨sp _ _ a1,a2,a3⟩
  ·intro j j' I hj' ee;have nq:∀j,j<i->d j≠p':=λj I w=>by have:=(M j I).1;rw[w,hp2]at this;cases this
   by_cases e1:j=i<;>by_cases e2:j'=i
   ·lia
   ·simp only[if_pos e1,if_neg e2]at ee;exact absurd ee.symm (nq j' (by lia))
   ·simp only[if_neg e1,if_pos e2]at ee;exact absurd ee (nq j (by lia))
   ·simp only[if_neg e1,if_neg e2]at ee;exact h2 j j' (by lia) (by lia) ee
 rw[U]at e M h2;subst e;have tw0:Tw H B D d ps.length (2*kk) (λ_ _=>0):=⟨hD,λi S=>(M i (by lia)).2.1,λi S=>(M i (by lia)).2.2,λi j S I=>h2 i j (by lia) (by lia),hy,λi S=>(M i (by lia)).1,sH⟩;clear M h2 hD hy;show⟨p,ss,ps,kk,ads,H0,rfl,hP.same sH,hn,hk,hl,tbS.same sH,λF0 J H2 hF0 s2 gF fp=>?_⟩;have tw1:=tw0.same s2;have nFa:∀i,i<ps.length->F0≠d i:=λi S z=>by rw[z,tw0.row i S]at hF0;cases hF0
 clear tw0;show⟨F0,rfl,⟨_,SqL.of gF⟩,?_⟩;refine F9 (xs:=J) (λm σ B=>∃ (T:Nat->Nat->Int) (o3 o4 o5 o6 o7:Option V),σ=[some (.ref p),some (.ref ss),some (.ref D),o3,o4,o5,o6,o7]/\Tw H B D d ps.length (2*kk) T/\B F0=some (.lst J)/\FpW ps.length B J) ⟨_,_,_,_,_,_,rfl,tw1,gF,fp⟩ (λm σ B _ ⟨_,_,_,_,_,_,_,_,g,_⟩=>SqL.of g) ?_ ?_
 rotate_left
 ·intro σ H3 z_;obtain⟨T,o3,o4,o5,o6,o7,rfl,tw,g3,fp3⟩:=z_;ext;exact q D d T H3 tw
 clear tw1 gF fp;intro m x σ H3 hx z_;obtain⟨T3,o3,o4,o5,o6,o7,rfl,tw3,g3,fp3⟩:=z_;obtain⟨T,st,en,re,rfl,gT,hlt,G,br⟩:=fp3 x (List.mem_of_getElem? hx);have y:st<ps.length:=by lia
 show⟨T,_,rfl,SqT.of gT,rfl,?_⟩;obtain⟨l1,gl1,ll1,sm1,e1⟩:=place tw3.sm y;show AL (SqL.of (tw3.sm _ _ Q)) (Ab (Z y)) ?_;show A7 (.inl (SqL.of gl1)) ?_;have el:(((l1.map V.int).length:Nat):Int)=((2*kk:Nat):Int):=by rw[List.length_map,ll1]
 rw[el];show⟨0,_,2,rfl,⟨by decide,by decide,EY (by lia) (by lia) (by lia) (by lia)⟩,?_⟩;have er:rN 0 ((2*kk:Nat):Int) 2=kk:=by rw[E7];lia
 rw[er];refine Io (λo σ B=>∃ (T:Nat->Nat->Int) (o6 o7:Option V),σ=[some (.ref p),some (.ref ss),some (.ref D),some (.int (st:Int)),some (.int (en:Int)),some (.int re),o6,o7]/\Tw H B D d ps.length (2*kk) T/\B F0=some (.lst J)/\FpW ps.length B J) ⟨_,_,_,rfl,tw3,g3,fp3⟩ ?_ ?_
 rotate_left
 ·intro σ H4 z_;obtain⟨T4,o6,o7,rfl,a,g4,fp4⟩:=z_;ext;exact⟨_,_,_,_,_,_,rfl,a,g4,fp4⟩
 clear tw3 g3 fp3 gl1 gT;intro o σ H4 ho z_;obtain⟨T4,o6,o7,rfl,a,g4,fp4⟩:=z_;have e0:(0:Int)+(o:Int)*2=((2*o:Nat):Int):=by lia
 have e2:((2*o:Nat):Int)+1=((2*o+1:Nat):Int):=by lia
 rw[e0];obtain⟨l1,gl1,ll1,sm1,e1⟩:=place a.sm y;obtain⟨l2,gl2,ll2,sm2,e3⟩:=place a.sm G;have gx:l1[2*o]? =some (l1.getD (2*o) 0):=by rw[List.getD_eq_getElem?_getD,List.getElem?_eq_getElem (by lia)];rfl
 have gy:l2[2*o+1]? =some (l2.getD (2*o+1) 0):=by rw[List.getD_eq_getElem?_getD,List.getElem?_eq_getElem (by lia)];rfl
 have bx:=sm1.at (2*o);have Y:=sm2.at (2*o+1);show AL (SqL.of (a.sm _ _ Q)) (Ab (Z y)) ?_;show AL (SqL.of gl1) (Ab (by rw[List.getElem?_map,gx];rfl)) ?_;show AL (SqL.of (a.sm _ _ Q)) (Ab (Z G)) ?_;ext
 first|rw[e2]|skip
 refine AL (SqL.of gl2) (Ab (by rw[List.getElem?_map,gy];rfl)) ?_;refine BX (A4 bx.1 bx.2 DR) (A4 Y.1 Y.2 DR) ?_;show BX (A4 (Int.mul_nonneg bx.1 Y.1) (Int.le_trans (Int.mul_le_mul bx.2 Y.2 Y.1 (by decide)) (by decide:top30*top30<=4*(top30*top30))) DU) (A4 br.1 br.2 RO) ?_;generalize l1.getD (2*o) 0*l2.getD (2*o+1) 0*re=w;show AL (SqL.of a.top) (Ab (a.at y)) ?_;show EB (SqL.of (a.row st y)) (KM (j:=2*o) (by lia)) ?_;ext
 first|refine DX ?_ |skip
 refine Bh (a.row st y) (j:=2*o) (Bn (by rw[KL];lia)) ?_;obtain⟨T5,L⟩:=Exists.intro _ (a.set (i:=st) (j:=2*o) (v:=T4 st (2*o)+w) y);have g5:(upd H4 (d st) (.lst ((rw2 (2*kk) (T4 st)).set (2*o) (.int (T4 st (2*o)+w))))) F0=some (.lst J):=by rw[AH (nFa st y)];exact g4
 have fp5:=fp4.lst (o:= .lst ((rw2 (2*kk) (T4 st)).set (2*o) (.int (T4 st (2*o)+w)))) (a.row st y);generalize upd H4 (d st) _=H5 at*
 show AL (SqL.of L.top) (Ab (L.at G)) ?_;ext
 first|rw[e2]|skip
 refine EB (SqL.of (L.row en G)) (KM (j:=2*o+1) (by lia)) ?_;ext
 first|refine DX ?_ |skip
 refine Bh (L.row en G) (j:=2*o+1) (Bn (by rw[KL];lia)) ?_;ext;exact⟨_,_,_,rfl,L.set G,by rw[AH (nFa en G)];exact g5,fp5.lst (L.row en G)⟩
def Nx:Af P w K mg base (k+5) "how_many" ["k","row"] (spManyT):=FnA.uE (T.f.at 15) (scN ["k","row"]) λnd _ _ _ _ _ _ _ _ _ b h=>by
 obtain⟨a,rfl,d,q⟩:=h;refine BC ⟨_,(AD (Am (Ak (B3 T) b A9 (AA (pv 0) (AA (pv 1) AB)))) (AE (AI (AN (EU T) b (AA (AN (EV T) b (AA (AN (ET T) b (AA (pv 0) (AA (pv 1) AB))) AB)) AB))))),?_⟩;show .inl (B4 (by decide) (by decide) d.row (λv i=>?_));show EX (k:=4) (by decide) (by decide) (BH d.row) (λr x j l o=>?_);show⟨r,a,rfl,d,o,λy z p tb=>?_⟩;show Dn tb ?_;have e:TQ3 0 a.length=1:=by rcases d with rfl|rfl<;>rfl
 rw[e];exact q p ((i.trans l).trans tb.sm)
def Nv:FuV P w K mg base (k+1) "may_open" ["place"] (spMayOpen K):=FnA.u (T.f.at 16) (scN ["place"]) λnd _ _ _ _ _ _ _ _ _ d h=>by
 obtain⟨p,l,rfl,e,q⟩:=h;have i:=d.units0;refine⟨_,(AE (AI (Aj (QI K rfl) rfl (T.N 2) PyProof.Rows.boot_any (AA (Ud K (pv 0) AC) AB)))),?_⟩;show⟨rfl,p,_,rfl,SqL.of e,λr a=>?_⟩;have b:=AK a (.lst (A6 (l.map V.int)));rw[Ir _ _ _ (Nat.le_refl _)]at b⊢;refine⟨r,A6 l,rfl,SqL.of AF,?_⟩;exact q _ b
def Mt:FuV P w K mg base (k+2) "depths_before" ["places","sums","shorter","stop"] (spBeforeW):=FnA.u (T.f.at 17) (scN ["places","sums","shorter","stop","found"]) λnd _ _ _ _ _ H _ _ _ hr h=>by
 obtain⟨pp,sp,sh,v,a,H0,ad,j,L,rfl,hP,hT,hL,hLj,hja,ha,hk4,hD,q⟩:=h;have hu:=hr.units0;refine⟨_,(AD (Nk (i:=4) nd rfl (Or.inl rfl) (own:=["start","depth"]) (sel:=[0,3,1,2]) (P7 (osc:=(AW (top 40))) (N:=["places","sums","shorter","stop","found"]) (by decide +kernel)) rfl (CM rfl (T.N 10) (AA (pv 3) AB)) (by decide) (λ_ _ _ _ _=>(Ah (i:=0) (show(["start","depth","places","stop","sums","shorter"]:List Str).Nodup from by decide +kernel) rfl (Or.inl rfl))) (λ_ _ _ _ _=>D3 (PW.pt (Gk (Ar K (AN (Nv T) hr (AA (AG K (pv 2) (pv 0)) AB))) (GL (AR Ct (AG K (AG K (pv 4) (AJ AQ (pv 0) AC)) (pv 3)) AC))))) (λ_ _ _ _ _=>(C7 K (AG K (pv 5) (pv 0)))) (λ_ _ _ _ _=>(Ah (i:=1) (show(["start","depth","places","stop","sums","shorter"]:List Str).Nodup from by decide +kernel) rfl (Or.inl rfl))) (λ_ _ _ _ _=>A2) (λ_ _ _ _ _=>(AJ AQ (pv 1) AC))) (AD (AS (AR Ct (AG K (AG K (pv 1) AC) (pv 3)) AC) (AE (Am (Av K PySem.F.plainAttrs_list PySem.F.slot_list_append PySem.F.type_list_append CD (pv 4) (AA AC AB)))) AT) (AE (AI (Qn K (T.N 12) (T.N 13) hr rfl (pv 4)))))),?_⟩;show⟨_,rfl,by lia,by lia,?_⟩;rw[Int.toNat_natCast];obtain⟨pa,hp0,hpa⟩:=id hP;obtain⟨la,hl0,M⟩:=id hL;have hn:(a.map (plw (ones v))).length=a.length:=List.length_map ..;rw[hn]at hp0 hpa;rw[hLj]at hl0 M;have hcap:((List.range j).flatMap (fT v a j L)).length<=2520:=Nat.le_trans (GW (j:=j) hD j) (by lia);refine P8 (λi=>(fT v a j L i).map V.int) (λD H1 I d J=>?_) (λD i H1 N I hi d J hN=>?_)
 rotate_left
 ·have e0:(0:Int)+(i:Int)=(i:Int):=by lia
  rw[e0];have ea:a[i]? =some (a.getD i 0):=by rw[List.getD_eq_getElem?_getD,List.getElem?_eq_getElem (by lia)];rfl
  have gp:H1 (pa i)=some (iL (plw (ones v) (a.getD i 0))):=by
   have:=d _ _ (hpa i (by lia));rw[List.getD_eq_getElem?_getD,List.getElem?_map,ea]at this;exact this
  have gl:H1 (la i)=some (iL (L.getD i [])):=d _ _ (M i hi);show AL (SqL.of (d _ _ hp0)) (Ab (by rw[List.getElem?_map,List.getElem?_range (by lia)];rfl)) ?_;show⟨pa i,_,rfl,gp,λH2 B=>?_⟩;ext;have nD:∀b o,H b=some o->b≠D:=λb o z=>AM z I
  cases Z:(A6 (plw (ones v) (a.getD i 0))).any λn=>n !=0 with
  |false=>
   refine ifq rfl (ifq rfl ?_);refine hN H2 (d.trans B) ?_;rw[B _ _ J];have:fT v a j L i=[]:=by unfold fT;rw[if_neg (by rw[Z];simp)]
   rw[this];simp
  |true=>
   refine ifp rfl ?_;ext;have e1:((i:Int)+1)=((i+1:Nat):Int):=by lia
   rw[e1];have Q:=hT.same (d.trans B);refine AL (SqL.of Q.top) (Ab (Q.at (i:=i+1) (by lia))) ?_;show AL (SqL.of (Q.row (i+1) (by lia))) (Ab (Dy (j:=j) (by lia))) ?_;ext
   by_cases S:0<TQ3 (i+1) j
   ·refine ifp (by simpa using S) ?_;have ef:fT v a j L i=(L.getD i []).map (· +1):=by unfold fT;rw[if_pos ⟨Z,S⟩]
    rw[ef]at hN;have hn63:(L.getD i []).length<=63:=by
     have:=(GV (k:=v) (a:=a) (j:=j) hD i).1;rw[ef,List.length_map]at this;exact this
    have hpre:((List.range i).flatMap (fT v a j L)).length<=2520:=Nat.le_trans (GW (j:=j) hD i) (by lia);unfold D8;show AL (SqL.of (B _ _ (d _ _ hl0))) (Ab (by rw[List.getElem?_map,List.getElem?_range (by lia)];rfl)) ?_;refine⟨la i,rfl,⟨_,SqL.of (B _ _ gl)⟩,?_⟩;refine Pq (λx=>match x with| .int z=> .int (z+1)|y=>y) (B _ _ gl) (nD _ _ (M i hi)) (B _ _ J) ?_ (λi2 x H3 R G s3 r=>?_) (λH3 s3 h3=>?_)
    ·rw[Jo,List.length_map,List.length_map,sizeLine_eq];lia
    ·rw[List.getElem?_map]at G;obtain⟨z,hz,rfl⟩:=Option.map_eq_some_iff.mp G;ext;exact r
    ·refine hN H3 (λb o z=>s3 b o (B b o (d b o z)) (nD b o z)) ?_;rw[h3,List.map_map,List.map_map];rfl
   ·refine ifq (by simpa using S) ?_;refine hN H2 (d.trans B) ?_;rw[B _ _ J];have:fT v a j L i=[]:=by unfold fT;rw[if_neg (λz=>S z.2)]
    rw[this];simp
 rw[Jo]at J;have l:=λx=>S0 (k:=v) (a:=a) (j:=j) hD (x:=x);have U:=hT.same d;show AL (SqL.of U.top) (show atI _ (0:Int)=some (V.ref (ad 0))from Ab (j:=0) (U.at (i:=0) (by lia))) ?_;show AL (SqL.of (U.row 0 (by lia))) (Ab (Dy (j:=j) (by lia))) ?_;ext
 by_cases S:0<TQ3 0 j
 ·refine ifp (by simpa using S) ?_;show⟨.inl ⟨rfl,_,SqL.of J⟩,?_⟩;show⟨D,_,_,rfl,rfl,J,by rw[List.length_map,sizeLine_eq];lia,?_⟩;show⟨D,(List.range j).flatMap (fT v a j L)++[0],rfl,SqL.of (by rw[AF,List.map_append];rfl),by rw[List.length_append];simp only[List.length_singleton];lia,λx G=>?_,λp ns hp X Z Y=>?_⟩
  ·rcases List.mem_append.mp G with z|z
   ·have:=l x z;lia
   ·rw[List.mem_singleton.mp z];lia
  ·have hne:∀b o,H b=some o->b≠D:=λb o z=>AM z I;have hpn:H p=none:=by
    by_cases e:p=D
    ·rw[e];exact I
    ·rw[AH e]at hp;exact d.free hp
   refine q p ns _ hpn (λb o z=>?_) AF ⟨X,λx=>?_,Y⟩
   ·rw[AH (AM z hpn),AH (hne b o z)];exact d b o z
   ·intro G;rcases List.mem_append.mp ((Z x).mp G)with z|z
    ·exact l x z
    ·rw[List.mem_singleton.mp z];lia
 ·refine ifq (by simpa using S) ?_;show⟨D,(List.range j).flatMap (fT v a j L),rfl,SqL.of J,by lia,λx G=>?_,λp ns hp X Z Y=>?_⟩
  ·have:=l x G;lia
  ·exact q p ns _ (d.free hp) (d.trans (AK hp _)) AF ⟨X,λx G=>l x ((Z x).mp G),Y⟩
def Mr:FuV P w K mg base (k+3) "depths_by_stop" ["k","row"] (spByStopW):=FnA.u (T.f.at 18) (scN ["k","row","places","sums","found","stop"]) λnd _ _ _ _ _ H _ _ _ x h=>by
 obtain⟨a,rfl,Q,q⟩:=h;have R:a.length<=40:=BH Q.row;have hu:=x.units0;refine⟨_,(AD (AO 2 (AN (ET T) x (AA (pv 0) (AA (pv 1) AB)))) (AD (AO 3 (AN (EV T) x (AA (pv 2) AB))) (AD (AO 4 (Ac AB)) (AD (A8 PassesOwn.never rfl (CM rfl (T.N 10) (AA (AJ AQ (Aa K (T.N 7) (AA (pv 1) AB)) AC) AB)) (Ap 5) (AE (Am (Av K PySem.F.plainAttrs_list PySem.F.slot_list_append PySem.F.type_list_append CD (pv 4) (AA (AN (Mt T) x (AA (pv 2) (AA (pv 3) (AA (pv 4) (AA (pv 5) AB))))) AB))))) (AE (AI (pv 4))))))),?_⟩;show EX (k:=4) (by decide) (by decide) R (λS H1 Z s1 U=>?_);show⟨S,a,rfl,Q,U,λsp ad0 H2 tb=>?_⟩;have G:=U.same tb.sm;show⟨small (show 0<=1000 by decide),λo d=>?_⟩;have s3:=AK d (.lst []);show⟨_,rfl,by lia,by lia,?_⟩;have et:((a.length:Int)+1).toNat=a.length+1:=by lia
 rw[et];have e:Same H H2:=s1.trans tb.sm;have r:H o=none:=e.free d;refine Jn (λj σ H'=>∃ (y:Nat->Addr) (L:List (List Int)) (I:Option V),σ=[some (.int 4),some (tx a),some (.ref S),some (.ref sp),some (.ref o),I]/\PlA H2 H' o y L/\L.length=j/\∀i l,L[i]? =some l->DLw i l)
  ⟨λ_=>0,[],_,rfl,⟨d,(λ_ z=>absurd z (Nat.not_lt_zero _)),AF,(λ_ z=>absurd z (Nat.not_lt_zero _)),s3⟩,rfl,λi l z=>by simp at z⟩ ?_ ?_
 ·intro j σ X hj J;obtain⟨y,L,I,rfl,b,v,B⟩:=J;have ej:(0:Int)+(j:Int)=(j:Int):=by lia
  rw[ej];show⟨.inl ⟨rfl,_,SqL.of b.top⟩,?_⟩;show⟨_,_,_,4,a,_,_,j,L,rfl,G.same b.sm,tb.same b.sm,b.pls,v,by lia,R,by lia,B,λp ns H4 hp Y gp dl=>?_⟩;show⟨o,_,_,rfl,rfl,Y _ _ b.top,by simp only[List.length_map,List.length_range];rw[sizeLine_eq];lia,?_⟩;show⟨_,L++[ns],_,rfl,b.push Y hp gp,by simp[v],λi l z=>?_⟩
  by_cases c:i<L.length
  ·rw[List.getElem?_append_left c]at z;exact B i l z
  ·rw[List.getElem?_append_right (by lia)]at z;have M:i=L.length:=by
    have:=(List.getElem?_eq_some_iff.mp z).1;simp at this;lia
   subst M;simp at z;subst z;rw[v];exact dl
 ·intro σ X J;obtain⟨y,L,I,rfl,b,v,B⟩:=J;ext;exact q o X y L ⟨r,λi M=>e.free (b.fa i M),b.top,b.row,e.trans b.sm⟩ v B
def Ic:Af P w K mg base (k+5) "depths" ["k","row"] (spDepthsW):=FnA.uE (T.f.at 19) (scN ["k","row"]) λnd _ _ _ _ _ _ _ _ _ e h=>by
 obtain⟨a,rfl,i,q⟩:=h;have b:=i.row;have B:=e.units0;have G:=BH b;refine BC ⟨_,(AD (Am (Ak (B3 T) e A9 (AA (pv 0) (AA (pv 1) AB)))) (AE (AI (AG K (AN (Mr T) e (AA (pv 0) (AA (pv 1) AB))) (B2 By AC))))),?_⟩;show .inl (B4 (by decide) (by decide) b (λH j=>?_));show⟨a,rfl,i,λr l o L d p x=>?_⟩;ext;have y:L[a.length]? =some (L.getD a.length []):=by rw[List.getD_eq_getElem?_getD,List.getElem?_eq_getElem (by lia)];rfl
 have z:=x _ _ y;refine AL (SqL.of d.top) (v:= .ref (o a.length)) (D6 (by simp;lia) (by simp only[List.length_map,List.length_range];rw[p,List.getElem?_map,List.getElem?_range (by lia)];rfl)) ?_;exact q _ _ l (j.free (d.fa _ (by lia))) (j.trans d.sm) (d.row _ (by lia)) z
def NW:Af P w K mg base (k+6) "may_go_on" ["k","row"] (spGoOnW):=FnA.uE (T.f.at 20) (scN ["k","row"]) λnd _ _ _ _ _ _ _ _ _ b h=>by
 obtain⟨a,rfl,d,q⟩:=h;have j:=b.units0;refine BC ⟨_,(AE (AI (BD Ct (Aa K (T.N 7) (AA (Ak (Ic T) b A9 (AA (pv 0) (AA (pv 1) AB))) AB)) AC))),?_⟩;show⟨a,rfl,d,λp ns e l i gp o=>?_⟩;show A7 (.inl (SqL.of gp)) ?_;ext;rw[List.length_map];exact q _ e i
def M8:Af P w K mg base (k+6) "fewest_more" ["k","row"] (spFewestW):=FnA.uE (T.f.at 21) (scN ["k","row","found"]) λnd _ _ _ _ _ _ _ _ _ b h=>by
 obtain⟨a,rfl,j,q⟩:=h;have l:=b.units0;refine BC ⟨_,(AD (AO 2 (Ak (Ic T) b A9 (AA (pv 0) (AA (pv 1) AB)))) (AE (AI (BU (Ar K (pv 2)) (AG K (pv 2) AC) Ao)))),?_⟩;show⟨a,rfl,j,λp ns d o e gp i=>?_⟩;ext
 cases ns with
 |nil=>
  refine D9 (SqL.of gp) ?_;refine ifq rfl ?_;ext;exact q [] d e i
 |cons x r=>
  refine D9 (SqL.of gp) ?_;refine ifp rfl ?_;show AL (SqL.of gp) (Dc _ _) ?_;exact q (x::r) d e i
def Jc:FuV P w K mg base (k+1) "opens" ["bracket"] (spOpens):=FnA.u (T.f.at 22) (scN ["bracket"]) λnd _ _ _ _ _ _ _ _ _ a h=>by
 obtain⟨b,rfl,q⟩:=h;have d:=a.units0;refine⟨_,(AE (AI (BD (Ad K d) (AJ DF (pv 0) AC) AC))),?_⟩;ext;have e:decide ((b:Int)%2=0)=decide (b%2=0):=decide_eq_decide.mpr (by lia);rw[e];exact q
def Ha:MkV P w K mg base (k+4) aC ["self","k","row"] (spCInitT aC):=MtA.m (T.m.at 0) T.C (scN ["self","k","row"]) λnd _ _ _ _ _ H _ _ _ hr h=>by
 obtain⟨co,l,a,H0,rfl,ha,hco,h0co,s0,q⟩:=h;have hro:=ha.row;have hu:=hr.units0;have hl:=BH hro;refine⟨_,(AD (CO K (pv 0) (AN (ET T) hr (AA (pv 1) (AA (pv 2) AB)))) (AD (CO K (pv 0) (AN (EV T) hr (AA (AU K (pv 0)) AB))) (AD (CO K (pv 0) AC) (AD (CO K (pv 0) (Ac AB)) (AE (CO K (pv 0) (Ac (AA (A1 (own:=["row_sums"]) (sel:=[]) (Ax (osc:=(AW (inClass (top 47) 0))) (N:=["self","k","row"]) (by decide +kernel)) rfl (C7 K (AU K (pv 0))) (λ_ _ _ _ _=>(Ah (i:=0) (show(["row_sums"]:List Str).Nodup from by decide +kernel) rfl (Or.inl rfl))) (Aq (by decide)) (λ_ _ _ _ _=>A2) (λ_ _ _ _ _=>(AG K (pv 0) (B2 By AC)))) AB)))))))),?_⟩;show EX (k:=4) (by decide) (by decide) hl (λv H1 hpl s1 hP1=>?_);ext;have I:=s1 _ _ hco;refine⟨co,aC,l,[],rfl,I,T.C.cl,(T.C.at 2),by show 0<1000;decide,?_⟩;have g2:(upd H1 co (.ins aC l (Al "places" (.ref v) []))) co=some (.ins aC l [("places", .ref v)]):=AF;have sb2:SameBut1 co H1 (upd H1 co (.ins aC l (Al "places" (.ref v) []))):=SameBut1.upd;generalize upd H1 co _=G2 at*
 have npl:v≠co:=λz=>by rw[z,hco]at hpl;cases hpl
 have J:∀b xs,H1 b=some (.lst xs)->G2 b=some (.lst xs):=λb xs z=>sb2 _ _ z λe=>by rw[e,I]at z;cases z
 have hP2:Pls G2 v (a.map (plw (ones 4))):=by
  obtain⟨pd,h1,h2⟩:=hP1;exact⟨pd,J _ _ h1,λi hi=>J _ _ (h2 i hi)⟩
 show T.C.fl 2 g2 ?_;show⟨_,a,rfl,ha,hP2,λsm ad B d=>?_⟩;have d:=d.congr (S8 ha);have g3:=d.sm _ _ g2;have hP3:=hP2.same d.sm;show⟨co,aC,l,_,rfl,g3,T.C.cl,(T.C.at 4),by show 1<1000;decide,?_⟩;have g4:(upd B co (.ins aC l (Al "sums" (.ref sm) [("places", .ref v)]))) co=some (.ins aC l [("places", .ref v),("sums", .ref sm)]):=AF;have sb4:SameBut1 co B (upd B co (.ins aC l (Al "sums" (.ref sm) [("places", .ref v)]))):=SameBut1.upd;generalize upd B co _=G4 at*
 show⟨co,aC,l,_,rfl,g4,T.C.cl,(T.C.at 0),by show 2<1000;decide,?_⟩;have g5:(upd G4 co (.ins aC l (Al "at" (.int 0) [("places", .ref v),("sums", .ref sm)]))) co=some (.ins aC l [("places", .ref v),("sums", .ref sm),("at", .int 0)]):=AF;have sb5:=sb4.trans (SameBut1.upd (p:=co) (H:=G4) (o:= .ins aC l (Al "at" (.int 0) [("places", .ref v),("sums", .ref sm)])));generalize upd G4 co _=G5 at*
 show⟨small (show 0<=1000 by decide),λcl G=>?_⟩;have U:cl≠co:=λz=>by rw[z,g5]at G;cases G
 have t6:=AK G (.lst []);have gc6:(upd G5 cl (.lst [])) cl=some (.lst []):=AF;have g6:=t6 _ _ g5;have sb6:=sb5.trans (SameBut1.of (p:=co) t6);have L:B cl=none:=by
  cases e:B cl with
  |none=>rfl
  |some o=>rw[sb5 _ _ e U]at G;cases G
 generalize upd G5 cl _=G6 at*
 show⟨co,aC,l,_,rfl,g6,T.C.cl,(T.C.at 1),by show 3<1000;decide,?_⟩;have g7:(upd G6 co (.ins aC l (Al "closings" (.ref cl) [("places", .ref v),("sums", .ref sm),("at", .int 0)]))) co=some (.ins aC l [("places", .ref v),("sums", .ref sm),("at", .int 0),("closings", .ref cl)]):=AF;have X:=sb6.trans (SameBut1.upd (p:=co) (H:=G6) (o:= .ins aC l (Al "closings" (.ref cl) [("places", .ref v),("sums", .ref sm),("at", .int 0)])));have gc7:(upd G6 co (.ins aC l (Al "closings" (.ref cl) [("places", .ref v),("sums", .ref sm),("at", .int 0)]))) cl=some (.lst []):=by rw[AH U];exact gc6
 generalize upd G6 co _=G7 at*
 have nsm:sm≠co:=λz=>by have:=d.fs;rw[z,g2]at this;cases this
 show T.C.fl 4 g7 ?_;ext;have M:=X _ _ d.top nsm;have nad:∀i,i<=a.length->ad i≠co:=λi hi z=>by have:=d.fa i hi;rw[z,g2]at this;cases this
 refine⟨sm,rfl,⟨_,SqL.of M⟩,?_⟩;refine QO (λi=>V.ref (ad i)) (λi=>V.int (W 4 a i [])) (small (by lia)) M (λD H8 hD s8 hy=>?_) (λi H8 R hi s8 r=>?_)
 rotate_left
 ·have row8:=s8 _ _ (X _ _ (d.row i (by lia)) (nad i (by lia)));show AL (SqL.of row8) (D6 (by rw[C8];lia) (by rw[C8,Nat.add_sub_cancel];exact Dy (Nat.le_refl _))) ?_;have e:tbl (pa_ 4 a) 4 i a.length=W 4 a i []:=by unfold tbl W;rw[if_pos (by lia)]
  have:=r H8 (Same.refl _);rw[<-e]at this;exact this
 have hy:H8 D=some (iL (CJ 4 a [])):=by rw[hy];unfold iL CJ;rw[List.map_map];rfl
 have g8:=s8 _ _ g7;have gc8:=s8 _ _ gc7;have Y:=X.trans (SameBut1.of (p:=co) s8);show⟨small (show 1<=1000 by decide),λrs y=>?_⟩;have Z:rs≠co:=(AM g8 y).symm;have nrl:cl≠rs:=AM gc8 y;have nrD:D≠rs:=AM hy y;have nDc:D≠co:=(AM g7 hD).symm;have nDl:D≠cl:=(AM gc7 hD).symm;have Q:B rs=none:=by
  cases e:B rs with
  |none=>rfl
  |some o=>rw[Y _ _ e Z]at y;cases y
 have t9:=AK y (.lst [.ref D]);show⟨co,aC,l,_,rfl,by rw[AH Z.symm];exact g8,T.C.cl,(T.C.at 3),by show 4<1000;decide,?_⟩;have low:∀b o,H0 b=some o->B b=some o/\b≠co:=λb o z=>by
  have hb:b≠co:=AM z h0co;exact⟨d.sm _ _ (sb2 _ _ (s1 _ _ (s0 _ _ z)) hb),hb⟩
 have S:∀ {b:Addr},B b=none->H0 b=none:=fun{b} z=>by
  cases e:H0 b with
  |none=>rfl
  |some o=>rw[(low b o e).1]at z;cases z
 refine q _ ⟨l,v,sm,cl,rs,G2,B,ad,[D],?_⟩;refine{ob:=(by rw[AF];rfl),pls:=hP3,tb:=d,keep:=λb o z hb=>?_,nco:=λxs z=>(by rw[g3]at z;cases z),ncl:=L,nrs:=Q,ne:=nrl,clo:=?_,res:=?_,ral:=rfl,rows:=λj x hx=>?_,h0:=λb o z=>?_,h0co:=h0co,h0cl:=S L,h0rs:=S Q,len:=hl,hk:=(by lia)}
 ·rw[AH hb];exact t9 _ _ (Y _ _ z hb)
 ·rw[AH U,AH nrl];exact gc8
 ·rw[AH Z,AF];rfl
 ·cases j with
  |zero=>
   have hx:D=x:=Option.some.inj hx;subst hx;exact⟨by rw[AH nDc,AH nrD];exact hy,nDl,nrD⟩
  |succ j=>simp at hx
 ·obtain⟨z1,z2⟩:=low b o z;rw[AH z2];exact t9 _ _ (Y _ _ z1 z2)
def Mh:MeV P w K mg base (k+2) aC "many_in_all" ["self"] (spCAll aC):=MtA.u (T.m.at 1) (scN ["self"]) λnd _ _ _ _ _ _ _ _ _ b h=>by
 obtain⟨co,d,a,i,st,e,rfl,⟨j,l,sm,cl,o,Hz,Hb,p,r,c⟩,q⟩:=h;have v:=b.units0;refine⟨_,(AE (AI (AN (EU T) b (AA (AU K (pv 0)) AB)))),?_⟩;show T.C.fl 4 c.ob ?_;show Dn c.tbH ?_;exact q
def HZ:MeV P w K mg base (k+1) aC "many_closing" ["self","start","closing"] (spCClT aC):=MtA.u (T.m.at 2) (scN ["self","start","closing","rest"]) λnd _ _ _ _ _ _ _ _ _ Z h=>by
 obtain⟨co,a,i,st,H0,b,rfl,⟨dx,pl,sm,cl,rs,Hz,Hb,ad,ra,c⟩,U,x,y,q⟩:=h;obtain⟨z,f2,f3⟩:=Ku U x;have hl2:a.length<=2:=by have:=U.len;lia
 have hu:=Z.units0;have hl:=c.len;have hk:=c.hk;obtain⟨x0,B,G⟩:=c.top;refine⟨_,(AD (Bz (i:=3) nd rfl (Or.inr rfl) (AG K (AU K (pv 0)) (B2 By AC))) (AE (AI (Aj (Eb K rfl) rfl (T.N 15) PyProof.Rows.boot_sum (AA (A1 (own:=["end"]) (sel:=[3,2,1,0]) (Ax (osc:=(AW (inClass (top 47) 2))) (N:=["self","start","closing","rest"]) (by decide +kernel)) rfl (Bv rfl (T.N 10) (AA (pv 1) (AA (Aa K (T.N 7) (AA (AU K (pv 0)) AB)) (AA AC AB)))) (λ_ _ _ _ _=>(Ah (i:=0) (show(["end","rest","closing","start","self"]:List Str).Nodup from by decide +kernel) rfl (Or.inl rfl))) (Aq (by decide)) (λ_ _ _ _ _=>A2) (λ_ _ _ _ _=>(AJ BR (AJ BR (AG K (AG K (AU K (pv 4)) (pv 3)) (pv 0)) (AG K (AG K (AU K (pv 4)) (pv 0)) (pv 2))) (AG K (pv 1) (AJ AQ (pv 0) AC))))) AB))))),?_⟩;show T.C.fl 3 c.ob ?_;show AL (SqL.of c.res) B ?_;show T.C.fl 2 c.ob ?_;obtain⟨px,H,p⟩:=KR c.plH;rw[List.length_map]at p;show A7 (.inl (SqL.of H)) ?_;rw[p];show⟨_,_,_,rfl,⟨by decide,by decide,EY (by lia) (by lia) (by lia) (by lia)⟩,?_⟩;rw[show rN (b:Int) (a.length:Int) 2=(a.length-b+1)/2 by rw[E7];lia];refine IU (λe=>V.int (tbl (pa_ 4 a) 4 b (b+2*e)*pa_ 4 a (b+2*e) 1*W 4 a (b+2*e+1) st)) (small (by lia)) (λD I hD j X=>?_) (λe I R he j r=>?_)
 ·have em:((List.range ((a.length-b+1)/2)).map λe=>V.int (tbl (pa_ 4 a) 4 b (b+2*e)*pa_ 4 a (b+2*e) 1*W 4 a (b+2*e+1) st))=((List.range ((a.length-b+1)/2)).map λe=>tbl (pa_ 4 a) 4 b (b+2*e)*pa_ 4 a (b+2*e) 1*W 4 a (b+2*e+1) st).map V.int:=by rw[List.map_map];rfl
  rw[em]at X;show FH (SqL.of X) ?_;rw[f3 b (Nat.lt_succ_of_le y)];exact q I j
 obtain⟨d,eE⟩:∃d:Nat,d=b+2*e:=⟨_,rfl⟩;have e2:((b:Int)+(e:Int)*2)=(d:Int):=by lia
 have Y:d<a.length:=by lia
 rw[<-eE]at r;rw[e2];have v:=j _ _ c.ob;have o:=c.tbH;obtain⟨ps,px1,J,L,lps,M⟩:=K6 c.plH (i:=d) (by rw[List.length_map];exact Y);have Q:(a.map (plw (ones 4))).getD d []∈a.map (plw (ones 4)):=by
  rw[List.getD_eq_getElem?_getD,List.getElem?_eq_getElem (by rw[List.length_map];exact Y)];exact List.getElem_mem _
 have hll:=(Do hk _ Q).1;show T.C.fl 4 v ?_;show AL (SqL.of (j _ _ o.top)) (Ab (o.at (i:=b) y)) ?_;show AL (SqL.of (j _ _ (o.row b y))) (Ab (Dy (by lia))) ?_;show T.C.fl 2 v ?_;show AL (SqL.of (j _ _ J)) (Ab L) ?_;ext;have S:(((a.map (plw (ones 4))).getD d []).map V.int)[1]? =some (.int (pa_ 4 a d 1)):=by
  rw[List.getElem?_map,List.getElem?_eq_getElem (show 1<((a.map (plw (ones 4))).getD d []).length by lia)];show some (V.int _)=some (V.int (((a.map (plw (ones 4))).getD d []).getD 1 0));rw[List.getD_eq_getElem?_getD (l:=(a.map (plw (ones 4))).getD d []),List.getElem?_eq_getElem (show 1<((a.map (plw (ones 4))).getD d []).length by lia)]
  rfl
 refine AL (SqL.of (j _ _ M)) (Ab S) ?_;show BX (Em (z _ (by lia) _ (by lia)).1) (Em (z _ (by lia) 1 (by decide)).2.2.1) ?_;ext;have e3:((d:Int)+1)=((d+1:Nat):Int):=by lia
 rw[e3];refine AL (SqL.of (j _ _ G)) (Ab (KN (by lia))) ?_;show BX (Em (z _ (by lia) _ (by lia)).2.1) (Em (f2 _ (by lia))) ?_;exact r I (Same.refl _)
def FX:MeV P w K mg base (k+2) aC "many_with" ["self","bracket"] (spCWiT aC):=MtA.u (T.m.at 3) (scN ["self","bracket"]) λnd _ _ _ _ _ H _ _ _ B h=>by
 obtain⟨co,a,i,st,Z,b,rfl,R,G,r,S,hb,q⟩:=h;obtain⟨f1,f2,f3⟩:=Ku G r;have hl2:a.length<=2:=by have:=G.len;lia
 obtain⟨dx,pl,sm,cl,rs,Hz,Hb,ad,ra,c⟩:=id R;have U:=B.units0;have hl:=c.len;have hk:=c.hk;obtain⟨ps,px1,I,J,lps,L⟩:=K6 c.plH (i:=i) (by rw[List.length_map];exact S);have M:(a.map (plw (ones 4))).getD i []∈a.map (plw (ones 4)):=by
  rw[List.getD_eq_getElem?_getD,List.getElem?_eq_getElem (by rw[List.length_map];exact S)];exact List.getElem_mem _
 have hll:=(Do hk _ M).1;have Q:(((a.map (plw (ones 4))).getD i []).map V.int)[b]? =some (.int (pa_ 4 a i b)):=by
  rw[List.getElem?_map,List.getElem?_eq_getElem (show b<((a.map (plw (ones 4))).getD i []).length by lia)];show some (V.int _)=some (V.int (((a.map (plw (ones 4))).getD i []).getD b 0));rw[List.getD_eq_getElem?_getD (l:=(a.map (plw (ones 4))).getD i []),List.getElem?_eq_getElem (show b<((a.map (plw (ones 4))).getD i []).length by lia)]
  rfl
 refine⟨_,(AD (AS (AR (Ad K U) (AG K (AG K (AU K (pv 0)) (AU K (pv 0))) (pv 1)) AC) (AE (AI AC)) AT) (AD (AS (Ar K (AN (Jc T) B (AA (pv 1) AB))) (AE (AI (DE T.C.cl (HZ T) B (pv 0) (AA (AJ AQ (AU K (pv 0)) AC) (AA (AJ AQ (pv 1) AC) AB))))) AT) (AD (AS (PW.pt (BZ (BB (Ar K (AU K (pv 0)))) (Bi (AR (CU K U) (AG K (AU K (pv 0)) (B2 By AC)) (pv 1))))) (AE (AI AC)) AT) (AE (AI (AG K (AG K (AU K (pv 0)) (B2 By AC)) (AJ AQ (AU K (pv 0)) AC))))))),?_⟩;show T.C.fl 2 c.ob ?_;show T.C.fl 0 c.ob ?_;show AL (SqL.of I) (Ab J) ?_;show AL (SqL.of L) (Ab Q) ?_;ext
 by_cases v:pa_ 4 a i b=0
 ·refine ifp (decide_eq_true v) ?_;ext;have e:mw 4 a i st b=0:=by
   unfold mw
   split
   ·rw[v,Int.zero_mul]
   ·cases st with
    |nil=>rfl
    |cons o j=>
     show(if 2*o+1=b then pa_ 4 a i b*W 4 a (i+1) j else 0)=0
     split
     ·rw[v,Int.zero_mul]
     ·rfl
  have:=q H (Same.refl H);rw[e]at this;exact this
 have X:pa_ 4 a i b=1:=((f1 i (by lia) b (by lia)).2.2.2).resolve_left v;refine ifq (decide_eq_false v) ?_;show Ib ?_;ext;have Y:((i:Int)+1)=((i+1:Nat):Int):=by lia
 by_cases d:b%2=0
 ·refine ifp (decide_eq_true d) ?_;show⟨co,dx,_,rfl,c.ob,rfl,?_⟩;show T.C.fl 0 c.ob ?_;ext;obtain rfl:b=0:=by lia
  rw[Y];refine⟨co,a,i,st,Z,i+1,rfl,R,G,r,by lia,λH' j=>?_⟩;have:=q H' j;unfold mw at this;rw[if_pos d,X,Int.one_mul]at this;exact this
 refine ifq (decide_eq_false d) ?_;show T.C.fl 1 c.ob ?_;refine D9 (SqL.of c.clo) ?_
 cases st with
 |nil=>
  show ifp rfl ?_;refine ifp rfl ?_;ext;have:=q H (Same.refl H);unfold mw at this;rw[if_neg d]at this;exact this
 |cons o j=>
  have ee:(Bm (o::j)).isEmpty=false:=by rw[Dr];simp
  rw[ee];show ifq rfl ?_;show T.C.fl 1 c.ob ?_;show AL (SqL.of c.clo) (P9 o j) ?_;ext
  by_cases y:2*o+1=b
  ·refine ifq (by rw[show(2*(o:Int)+1)=(b:Int) by lia];simp) ?_;show T.C.fl 3 c.ob ?_;ext;obtain⟨x1,z⟩:∃x,ra[j.length]? =some x:=⟨_,List.getElem?_eq_getElem (by rw[c.ral,List.length_cons];lia)⟩;have p:=(c.rows _ x1 z).1;rw[List.length_cons,show j.length+1-j.length=1 by lia,List.drop_one,List.tail_cons]at p;refine AL (SqL.of c.res) (RR (by rw[List.length_map,c.ral,List.length_cons];lia) (by rw[List.length_map,c.ral,List.length_cons,List.getElem?_map,show j.length+1+1-2=j.length by lia,z];rfl)) ?_;show T.C.fl 0 c.ob ?_;ext;rw[Y];refine AL (SqL.of p) (Ab (KN (by lia))) ?_;have:=q H (Same.refl H);unfold mw at this;rw[if_neg d]at this;simp only[if_pos y,X,Int.one_mul]at this;exact this
  ·refine ifp (by rw[Bool.not_eq_true',decide_eq_false_iff_not];lia) ?_;ext;have:=q H (Same.refl H);unfold mw at this;rw[if_neg d]at this;simp only[if_neg y]at this;exact this
def Hg:MeV P w K mg base (k+2) aC "take" ["self","bracket"] (spCTaT aC):=MtA.u (T.m.at 4) (scN ["self","bracket","rest"]) λnd _ _ _ _ s H _ _ _ Z h=>by
 obtain⟨co,a,i,st,U,b,rfl,hC,h2,hS,hi,hb,hst,hne,q⟩:=h;obtain⟨p,y,sm,cl,rs,Hz,Hb,M,ra,c⟩:=id hC;have hu:=Z.units0;have hl:=c.len;have hk:=c.hk;refine⟨_,(AD (OM K Kk (pv 0) AC) (AE (AS (Ar K (AN (Jc T) Z (AA (pv 1) AB))) (AD (Fb (i:=2) nd rfl (Or.inl rfl) (own:=["start"]) (sel:=[0,1]) (Ax (osc:=(AW (inClass (top 47) 4))) (N:=["self","bracket","rest"]) (by decide +kernel)) rfl (CM rfl (T.N 10) (AA (AJ AQ (Aa K (T.N 7) (AA (AU K (pv 0)) AB)) AC) AB)) (λ_ _ _ _ _=>(Ah (i:=0) (show(["start","self","bracket"]:List Str).Nodup from by decide +kernel) rfl (Or.inl rfl))) (Aq (by decide)) (λ_ _ _ _ _=>A2) (λ_ _ _ _ _=>(DE T.C.cl (HZ T) Z (pv 1) (AA (pv 0) (AA (AJ AQ (pv 2) AC) AB))))) (AD (Am (Av K PySem.F.plainAttrs_list PySem.F.slot_list_append PySem.F.type_list_append CD (AU K (pv 0)) (AA (pv 2) AB))) (AE (Am (Av K PySem.F.plainAttrs_list PySem.F.slot_list_append PySem.F.type_list_append CD (AU K (pv 0)) (AA (AJ AQ (pv 1) AC) AB)))))) (AD (Am (GQ K PySem.F.plainAttrs_list PySem.F.slot_list_pop PySem.F.type_list_pop Gq (AU K (pv 0)))) (AE (Am (GQ K PySem.F.plainAttrs_list PySem.F.slot_list_pop PySem.F.type_list_pop Gq (AU K (pv 0))))))))),?_⟩;show⟨co,aC,p,_,_,(rfl),c.ob,T.C.cl,(T.C.at 0),rfl,?_⟩;show .inl ⟨_,_,rfl,rfl,?_⟩;refine⟨p,_,c.ob,by show 5<1000;decide,?_⟩;have e1:(((i+1:Nat):Int))=(i:Int)+1:=by lia
 have d:CoS aC U (upd H co (.ins aC p (Al "at" (.int ((i:Int)+1)) (cf y sm cl rs i)))) co 4 a (i+1) st p y sm cl rs Hz Hb M ra:=by
  have c0:=c.at (i+1);have e0:cf y sm cl rs (((i+1:Nat):Int))=Al "at" (.int ((i:Int)+1)) (cf y sm cl rs i):=by rw[e1];rfl
  rw[e0]at c0;exact c0
 generalize upd H co _=G1 at*
 have hC1:Co aC U G1 co 4 a (i+1) st:=⟨p,y,sm,cl,rs,Hz,Hb,M,ra,d⟩;show Ib ?_;ext
 by_cases G:b%2=0
 ·obtain rfl:b=0:=by lia
  have I:stb st 0=0::st:=rfl;rw[I]at q;refine ifp (decide_eq_true G) ?_;show T.C.fl 2 d.ob ?_;obtain⟨px,gpl,Q⟩:=KR d.plH;rw[List.length_map]at Q;show A7 (.inl (SqL.of gpl)) ?_;rw[Q];show⟨_,rfl,by lia,by lia,?_⟩;rw[show((a.length:Int)+1).toNat=a.length+1 by lia];refine JM (λs=>V.int (W 4 a s (0::st))) (small (by lia)) (λD X hD v hy=>?_) (λj X R hj v r=>?_)
  rotate_left
  ·have ej:(0:Int)+(j:Int)=(j:Int):=by lia
   rw[ej];show⟨co,p,_,rfl,v _ _ d.ob,rfl,?_⟩;ext;exact⟨co,a,i+1,st,U,j,rfl,hC1.same v,h2,hS,by lia,λH3 s3=>r H3 s3⟩
  have hy:X D=some (iL (CJ 4 a (0::st))):=by rw[hy];unfold iL CJ;rw[List.map_map];rfl
  have nDc:D≠cl:=(AM d.clo hD).symm;have nDr:D≠rs:=(AM d.res hD).symm;have J:=v _ _ d.ob;have l:=v _ _ d.res;have B:=v _ _ d.clo;show T.C.fl 3 J ?_;refine⟨.inl ⟨rfl,_,SqL.of l⟩,?_⟩;show⟨rs,_, .ref D,rfl,rfl,l,by rw[List.length_map,d.ral,sizeLine_eq];lia,?_⟩;have c2:CoS aC U X co 4 a (i+1) st p y sm cl rs Hz Hb M ra:=by
   exact{ob:=J,pls:=d.pls,tb:=d.tb,keep:=λb o z n=>v _ _ (d.keep b o z n),nco:=d.nco,ncl:=d.ncl,nrs:=d.nrs,ne:=d.ne,clo:=B,res:=l,ral:=d.ral,rows:=λj x hx=>⟨v _ _ (d.rows j x hx).1,(d.rows j x hx).2⟩,h0:=d.h0.trans v,h0co:=d.h0co,h0cl:=d.h0cl,h0rs:=d.h0rs,len:=d.len,hk:=d.hk}
  have Y:=c2.push hy nDc nDr;have L:=c2.nl l;show T.C.fl 1 (by rw[AH L.symm];exact J) ?_;have e:(upd X rs (.lst (ra.map V.ref++[.ref D]))) cl=some (.lst (Bm st)):=by rw[AH d.ne];exact B
  refine⟨.inl ⟨rfl,_,SqL.of e⟩,?_⟩;show⟨cl,_,_,rfl,rfl,e,by unfold Bm;rw[List.length_map,List.length_reverse,sizeLine_eq];lia,?_⟩;show q _ ⟨p,y,sm,cl,rs,Hz,Hb,M,ra++[D],?_⟩;have ea:(ra++[D]).map V.ref=ra.map V.ref++[.ref D]:=by rw[List.map_append];rfl
  rw[ea,Dr]at Y;exact Y
 have I:stb st b=st.tail:=by unfold stb;rw[if_neg G]
 rw[I]at q;refine ifq (decide_eq_false G) ?_
 cases st with
 |nil=>exact absurd rfl (hne (by lia))
 |cons o s'=>
  have Y:=d.pop;have L:=d.nl d.res;have S:=d.ral;rw[List.length_cons]at S;obtain⟨xl,hxl⟩:∃x,(ra.map V.ref)[(ra.map V.ref).length-1]? =some x:=⟨_,List.getElem?_eq_getElem (by rw[List.length_map];lia)⟩;show T.C.fl 3 d.ob ?_;refine⟨.inl ⟨rfl,_,SqL.of d.res⟩,?_⟩;refine⟨rs,_,xl,rfl,rfl,d.res,hxl,?_⟩;have edl:(ra.map V.ref).dropLast=ra.dropLast.map V.ref:=by rw[List.map_dropLast]
  rw[edl];show T.C.fl 1 (by rw[AH L.symm];exact d.ob) ?_;have e:(upd G1 rs (.lst (ra.dropLast.map V.ref))) cl=some (.lst (Bm (o::s'))):=by rw[AH d.ne];exact d.clo
  refine⟨.inl ⟨rfl,_,SqL.of e⟩,?_⟩;refine⟨cl,_, .int (2*(o:Int)+1),rfl,rfl,e,by rw[Dr];simp,?_⟩;have ecl:(Bm (o::s')).dropLast=Bm s':=by rw[Dr,List.dropLast_concat]
  rw[ecl];ext;exact q _ ⟨p,y,sm,cl,rs,Hz,Hb,M,ra.dropLast,Y⟩
def M5:Af P w K mg base (k+5) "nth_filling" ["k","row","i"] (spNthT cs):=FnA.uE (T.f.at 23) (scN ["k","row","i","course","left","found","bracket"]) λnd _ _ _ _ _ H _ _ _ l h=>by
 obtain⟨a,n,rfl,p,n0,h⟩:=h;have hu:=l.units0;have hl:a.length<=2:=by rcases p with rfl|rfl<;>decide
 refine⟨_,(AD (Am (Ak (B3 T) l Bj (AA (pv 0) (AA (pv 1) AB)))) (AD (AO 3 (K9 (Ha T) l T.C.c (AA (pv 0) (AA (pv 1) AB)))) (AD (AS (PW.pt (BZ (BB (Ar K (AN (Hs T) l (AA (pv 2) AB)))) (Bi (BB (Ee CA HH AC (pv 2) (KZ T.C.cl (Mh T) l (pv 3))))))) (AE (C0 (T.c.at 5).2 (T.c.at 5).1 l.hd DG (AA Cm AB))) AT) (AD (AO 4 (pv 2)) (AD (AO 5 (pxt [])) (AD (PS.nox (JY PassesOwn.never (AR HH (Aa K (T.N 7) (AA (pv 5) AB)) (Aa K (T.N 7) (AA (pv 1) AB))) (AD (AO 6 AC) (AD (JY PassesOwn.never (AR Lu (pv 4) (DE T.C.cl (FX T) l (pv 3) (AA (pv 6) AB))) (AD (EC (i:=4) nd rfl (Or.inl rfl) (DE T.C.cl (FX T) l (pv 3) (AA (pv 6) AB)) U2) (AE (EC (i:=6) nd rfl (Or.inl rfl) AC Cq)))) (AD (Am (DE T.C.cl (Hg T) l (pv 3) (AA (pv 6) AB))) (AE (EC (i:=5) nd rfl (Or.inl rfl) (AG K (AX (T.g.at 3)) (pv 6)) Kk))))))) (AE (AI (pv 5))))))))),?_⟩;show .inl (B4 (by decide) (by decide) p.row (λd s1=>?_));ext;intro co v G R hne;have s2:Same d (upd (upd d v (.own co)) co (.ins aC v [])):=λx o z=>by rw[AH (AM z G),AH (AM z R)];exact z
 show⟨co,v,a,d,rfl,p,AF,G,s2,λH2 B=>?_⟩;refine⟨rfl,?_⟩;have same:∀ {H':Hp} {i st},Co aC d H' co 4 a i st->Same H H':=fun{H' i st} C=>by
  obtain⟨_,_,_,_,_,_,_,_,_,c⟩:=C;exact s1.trans c.h0
 have obj:∀ {H':Hp} {i st},Co aC d H' co 4 a i st->∃v S sm cl U,H' co=some (.ins aC v (cf S sm cl U i)):=fun{H' i st} C=>by
  obtain⟨v,S,sm,cl,U,_,_,_,_,c⟩:=C;exact⟨v,S,sm,cl,U,c.ob⟩
 have B:Co aC d H2 co 4 a 0 []:=B;show IS ?_;show ifq rfl ?_;show ifp (decide_eq_true n0) ?_;ext;obtain⟨X,pl2,sm2,cl2,rs2,Y⟩:=obj B;refine⟨co,X,_,rfl,Y,rfl,?_⟩;show⟨co,4,a,0,[],d,rfl,B,?_⟩;rw[p.all];ext;rcases h with⟨rfl,q⟩|⟨hn,rf⟩
 rotate_left
 ·refine ifp (by rw[decide_eq_false (by lia)];rfl) ?_;ext;exact⟨small (by decide),λy hy=>rf y H2 (same B) ((same B).free hy)⟩
 refine ifq rfl ?_;show JG (λσ H'=>∃ (bs st:List Nat) (o6:Option V),σ=[some (.int 4),some (tx a),some (.int 0),some (.ref co),some (.int 0),some (tx (brt bs)),o6]/\Co aC d H' co 4 a bs.length st/\Sta a bs st/\bs.length<=a.length)
  (λσ _=>match σ with|[_,_,_,_,_,some (.str x),_]=>a.length-x.cps.toList.length|_=>0) ⟨[],[],_,rfl,B, .inl ⟨rfl,rfl⟩,Nat.zero_le _⟩ ?_
 intro σ H3 Z;obtain⟨bs,st,o6,rfl,C3,I,hbl⟩:=Z;have hbt:(brt bs).length=bs.length:=by unfold brt;rw[List.length_map]
 show ifd (λhc=>?_) (λhc=>?_)
 rotate_left
 ·ext;exact q bs H3 (same C3) (by lia)
 refine JH ?_;have j:bs.length<a.length:=by lia
 obtain⟨hs',hb2,hsl,J⟩:=I.next p j;show JG (λσ H'=>∃b:Nat,σ=[some (.int 4),some (tx a),some (.int 0),some (.ref co),some (.int 0),some (tx (brt bs)),some (.int (b:Int))]/\Co aC d H' co 4 a bs.length st/\b<=bs.length)
  (λσ _=>match σ with|[_,_,_,_,_,_,some (.int b)]=>10-b.toNat|_=>0) ⟨0,rfl,C3,Nat.zero_le _⟩ ?_
 intro σ H4 Z;obtain⟨b,rfl,C4,hb⟩:=Z;obtain⟨dx4,pl4,sm4,cl4,rs4,ob4⟩:=obj C4;have hv:=I.mw p j hb;show⟨co,dx4,_,rfl,ob4,rfl,?_⟩;show⟨co,a,bs.length,st,d,b,rfl,C4,p,I.st,j,by lia,λH5 s5=>?_⟩;have Q:=C4.same s5;rw[hv];ext;obtain⟨L,pl5,sm5,cl5,rs5,M⟩:=obj Q
 by_cases e:b=bs.length
 ·subst e;rw[if_pos rfl];refine ifq rfl ?_;show⟨co,L,_,rfl,M,rfl,?_⟩;show⟨co,a,bs.length,st,d,bs.length,rfl,Q,p,I.st,j,by lia,hsl,J,λH6 C6=>?_⟩;ext;have hbr:brs[bs.length]? =some (brs.getD bs.length 0):=by
   match bs.length,hb2 with
   |0,_=>rfl
   |1,_=>rfl
  refine B1 (a:=brs) (small (show 8<=1000 by decide)) (Ab hbr) ?_;show .inr ⟨brt bs,[brs.getD bs.length 0],rfl,rfl,small (by rw[hbt,List.length_singleton];lia),?_⟩;have ebt:brt bs++[brs.getD bs.length 0]=brt (bs++[bs.length]):=by unfold brt;rw[List.map_append];rfl
  have r:(bs++[bs.length]).length=bs.length+1:=by rw[List.length_append,List.length_singleton]
  rw[ebt];show⟨⟨bs++[bs.length],stb st bs.length,_,rfl,by rw[r];exact C6,hs',by lia⟩,?_⟩;show a.length-(brt (bs++[bs.length])).toArray.toList.length<a.length-(brt bs).toArray.toList.length;have h2:(brt (bs++[bs.length])).length=bs.length+1:=by unfold brt;rw[List.length_map,r]
  simp only[List.toList_toArray];lia
 ·rw[if_neg e];refine ifp rfl ?_;refine JH ?_;show⟨co,L,_,rfl,M,rfl,?_⟩;show⟨co,a,bs.length,st,d,b,rfl,Q,p,I.st,j,by lia,λH6 s6=>?_⟩;rw[hv,if_neg e];ext;have eb:((b:Int)+1)=((b+1:Nat):Int):=by lia
  rw[eb];refine⟨⟨b+1,rfl,Q.same s6,by lia⟩,?_⟩;show 10-((b+1:Nat):Int).toNat<10-((b:Nat):Int).toNat;lia
def Mj:Af P w K mg base (k+6) "is_right_filling" ["k","row","thing"] (spIsFillE K):=FnA.uE (T.f.at 24) (scN ["k","row","thing"]) λnd _ _ _ _ _ H _ _ _ y h=>by
 obtain⟨l,a,x,rfl,k1,k4,z,U⟩:=h;have X:=y.units0;have hl:=BH z;refine BC ⟨_,(AD (AS (PW.pt (BZ (BB (Ar K (Ak (IJ T) y A9 (AA (pv 0) (AA (pv 2) AB))))) (BZ (AR (CU K X) (Aa K (T.N 7) (AA (pv 2) AB)) (Aa K (T.N 7) (AA (pv 1) AB))) (Bi (BB (Ar K (Ak (Ht T) y A9 (AA (pv 0) (AA (pv 2) AB))))))))) (AE (AI Bq)) AT) (AE (AI (Aj (Ds K rfl) rfl (T.N 1) PyProof.Rows.boot_all (AA (A1 (own:=["sign","bracket"]) (sel:=[]) (Ax (osc:=(AW (top 49))) (N:=["k","row","thing"]) (by decide +kernel)) rfl (KW rfl (T.N 16) (AA (pv 1) (AA (pv 2) AB))) (λ_ _ _ _ _=>(CP (n:=2) K rfl (A0 (Ah (i:=0) (show(["sign","bracket"]:List Str).Nodup from by decide +kernel) rfl (Or.inl rfl)) (A0 (Ah (i:=1) (show(["sign","bracket"]:List Str).Nodup from by decide +kernel) rfl (Or.inl rfl)) CF)))) (E9 (Cj Bw (Ew Bw Cr) (Aq (by decide)) (Cj Bw Cr (Aq (by decide)) FA))) (λ_ _ _ _ _=>A2) (λ_ _ _ _ _=>(BD (Cp K) (pv 0) (BY (AA (AX (T.g.at 4)) (AA (pv 1) AB))) (by with_unfolding_all rfl)))) AB))))),?_⟩;ext;rcases U with⟨b,rfl,hb,q⟩|⟨ty,B,G,hs,q⟩
 rotate_left
 ·refine .inl ⟨l,x,rfl,k1,k4, .inr ⟨ty,B,G,hs,?_⟩⟩;show ifp rfl ?_;show ifp rfl ?_;ext;exact q H (Same.refl H)
 refine .inl (Jg k1 k4 hb (λM o=>?_));ext
 by_cases j:AZ l b=true
 rotate_left
 ·have j:AZ l b=false:=by simpa using j
  have e:BQ l a b=false:=by unfold BQ;rw[j];rfl
  rw[e]at q;refine ifp (by rw[j];rfl) ?_;show ifp rfl ?_;ext;exact q M o
 have Y:=BH j;refine ifq (by rw[j];rfl) ?_;ext
 by_cases I:b.length=a.length
 rotate_left
 ·have e:BQ l a b=false:=by unfold BQ;rw[decide_eq_false I,Bool.and_false];rfl
  rw[e]at q;refine ifp (by rw[decide_eq_false (by lia)];rfl) ?_;show ifp rfl ?_;ext;exact q M o
 refine ifq (by rw[decide_eq_true (by lia)];rfl) ?_;show .inl (IH k1 k4 j (λZ Q=>?_));ext
 by_cases v:Rt b
 rotate_left
 ·have e:BQ l a b=false:=by unfold BQ;rw[decide_eq_false v,Bool.and_false];rfl
  rw[e]at q;rw[decide_eq_false v];refine ifp rfl ?_;ext;exact q Z (o.trans Q)
 rw[decide_eq_true v];refine ifq rfl ?_;show JK (λc d=> .bl (decide (c=63)||decide (c=d))) I (small (by lia)) (λD J hD S hy=>?_) (λi c d Ta J R hc hd S B r=>?_)
 ·ext;have L:SqL K J D (((List.range a.length).map λi=>(decide (a.getD i 0=63)||decide (a.getD i 0=b.getD i 0))).map V.bl):=by rw[List.map_map];exact SqL.of hy
  refine EJ L ?_;have e:(((List.range a.length).map λi=>(decide (a.getD i 0=63)||decide (a.getD i 0=b.getD i 0))).all id)=BQ l a b:=by
   unfold BQ;rw[j,decide_eq_true I,decide_eq_true v,Bool.true_and,Bool.true_and,Bool.true_and,List.all_map]
   rfl
  rw[e];exact q J ((o.trans Q).trans S)
 ·refine E5 (SqT.of B) rfl ?_;show⟨small (show 2<=1000 by decide),λp G=>?_⟩;refine HD (.inr (SqT.of AF)) rfl rfl ?_;rw[WI];exact r _ (AK G _)
def NV:Af P w K mg base (k+7) "number_of" ["k","row","filling"] (spNumberT cs):=FnA.uE (T.f.at 25) (scN ["k","row","filling","course","number","sign","bracket"]) λnd _ _ _ _ _ _ _ _ _ G h=>by
 obtain⟨a,b,rfl,p,hb,h⟩:=h;have hu:=G.units0;have hl:a.length<=2:=by rcases p with rfl|rfl<;>decide
 refine⟨_,(AD (Am (Ak (B3 T) G Bj (AA (pv 0) (AA (pv 1) AB)))) (AD (AS (BB (Ar K (Ak (Mj T) G Bj (AA (pv 0) (AA (pv 1) (AA (pv 2) AB)))))) (AE (C0 (T.c.at 3).2 (T.c.at 3).1 G.hd DG (AA Cm AB))) AT) (AD (Bz (i:=3) nd rfl (Or.inr rfl) (K9 (Ha T) G T.C.c (AA (pv 0) (AA (pv 1) AB)))) (AD (AO 4 AC) (AD (PS.nox (A8 PassesOwn.never rfl (B8 (pv 2)) (Ap 5) (AD (AO 6 (Av K PySem.F.plainAttrs_str PySem.F.slot_str_index PySem.F.type_str_index F7 (AX (T.g.at 3)) (AA (pv 5) AB))) (AD (EC (i:=4) nd rfl (Or.inl rfl) (Aj (Eb K rfl) rfl (T.N 15) PyProof.Rows.boot_sum (AA (A1 (own:=["earlier"]) (sel:=[3]) (Ax (osc:=(AW (top 50))) (N:=["k","row","filling","course","number","sign","bracket"]) (by decide +kernel)) rfl (CM rfl (T.N 10) (AA (pv 6) AB)) (λ_ _ _ _ _=>(Ah (i:=0) (show(["earlier","course"]:List Str).Nodup from by decide +kernel) rfl (Or.inl rfl))) (Aq (by decide)) (λ_ _ _ _ _=>A2) (λ_ _ _ _ _=>(DE T.C.cl (FX T) G (pv 1) (AA (pv 0) AB)))) AB)) Cq) (AE (Am (DE T.C.cl (Hg T) G (pv 3) (AA (pv 6) AB)))))))) (AE (AI (pv 4)))))))),?_⟩;show .inl (B4 (by decide) (by decide) p.row (λH1 s1=>?_));show⟨4,a,_,rfl,by decide,by decide,p.row, .inl ⟨b,rfl,hb,λv s2=>?_⟩⟩;rcases h with⟨hf,q⟩|⟨hf,rf⟩
 rotate_left
 ·rw[hf];show ifp rfl ?_;ext;have s3:=s1.trans s2;exact⟨small (by decide),λy hy=>rf y v s3 (s3.free hy)⟩
 rw[hf];obtain rfl:=Sx p hf;have hbt:(brt (List.range a.length)).length=a.length:=by unfold brt;rw[List.length_map,List.length_range]
 ext
 first|refine ifq rfl ?_ |skip
 ext;intro co H M hdx hne;have s3:Same v (upd (upd v H (.own co)) co (.ins aC H [])):=λx o z=>by rw[AH (AM z M),AH (AM z hdx)];exact z
 show⟨co,H,a,v,rfl,p,AF,M,s3,λH3 C3=>?_⟩;refine⟨rfl,?_⟩;have C3:Co aC v H3 co 4 a 0 []:=C3;have obj:∀ {Q:Hp} {i st},Co aC v Q co 4 a i st->∃H pl sm cl rs,Q co=some (.ins aC H (cf pl sm cl rs i)):=fun{Q i st} C=>by
  obtain⟨H,pl,sm,cl,rs,_,_,_,_,c⟩:=C;exact⟨H,pl,sm,cl,rs,c.ob⟩
 show Jm (λj σ Q=>∃ (st:List Nat) (o5 o6:Option V),σ=[some (.int 4),some (tx a),some (tx (brt (List.range a.length))),some (.ref co),some (.int 0),o5,o6]/\Co aC v Q co 4 a j st/\Sta a (List.range j) st) ⟨[],_,_,rfl,C3, .inl ⟨rfl,rfl⟩⟩ ?_ ?_
 rotate_left
 ·intro σ H4 z_;obtain⟨st,o5,o6,rfl,C4,_⟩:=z_;ext;obtain⟨_,_,_,_,_,_,_,_,_,c⟩:=C4;exact q H4 ((s1.trans s2).trans c.h0)
 intro j c σ H4 hc z_;obtain⟨st,o5,o6,rfl,C4,hs⟩:=z_;have S:j<a.length:=by rw[<-hbt];exact(List.getElem?_eq_some_iff.mp hc).1
 have d:(List.range j).length=j:=List.length_range;obtain⟨U,I,X,B⟩:=hs.next p (by rw[d];exact S);rw[d]at U I X B;have Y:DM brs c=some j:=by
  unfold brt at hc;rw[List.getElem?_map,List.getElem?_range S]at hc
  cases hc
  exact(show∀j,j<2->DM brs (brs.getD j 0)=some j from by decide +kernel) j I
 show HE (l:=brs) Y ?_;show⟨_,rfl,by lia,by lia,?_⟩;rw[Int.toNat_natCast];refine JM (λ_=>V.int 0) (small (by lia)) (λD H5 hD s5 hy=>?_) (λe H5 R he s5 r=>?_)
 rotate_left
 ·have ee:(0:Int)+(e:Int)=(e:Int):=by lia
  rw[ee];have Z:=C4.same s5;obtain⟨J,pl5,sm5,cl5,rs5,L⟩:=obj Z;show⟨co,J,_,rfl,L,rfl,?_⟩;show⟨co,a,j,st,v,e,rfl,Z,p,hs.st,S,by lia,λH6 s6=>?_⟩;have hv:=hs.mw p (by rw[d];exact S) (b:=e) (by rw[d];lia);rw[d,if_neg (by lia)]at hv;rw[hv];exact r H6 s6
 have Z:=C4.same s5;have em:((List.range j).map λ_=>V.int 0)=((List.range j).map λ_=>(0:Int)).map V.int:=by rw[List.map_map];rfl
 rw[em]at hy;show FH (SqL.of hy) ?_;have ez:((List.range j).map λ_=>(0:Int)).sum=0:=(show∀j,j<2->((List.range j).map λ_=>(0:Int)).sum=0 from by decide) j I;rw[ez];ext;obtain⟨J,pl5,sm5,cl5,rs5,L⟩:=obj Z;refine⟨co,J,_,rfl,L,rfl,?_⟩;show⟨co,a,j,st,v,j,rfl,Z,p,hs.st,S,by lia,X,B,λH6 C6=>?_⟩;ext;exact⟨_,_,_,rfl,C6,by rw[List.range_succ];exact U⟩
def Hq:FuV P w K mg base (k+1) "likelier" ["one","other"] (spLikelier):=FnA.u (T.f.at 26) (scN ["one","other"]) λnd _ _ _ _ _ H _ Q _ U h=>by
 obtain⟨G,I,o1,o2,rfl,d,e,hd,q⟩:=h;have J:=U.units0;refine⟨_,(AD (AS (PW.pt (BZ (AR Bo (pv 0) Ao) (Bi (AR Bo (pv 1) Ao)))) (AE (AI (BU (AR Bo (pv 1) Ao) (pv 0) (pv 1)))) AT) (AD (AS (AR (Ad K J) (AG K (pv 0) AC) (AG K (pv 1) AC)) (AE (AI (BU (AR (Uk K J) (AG K (pv 0) AC) (AG K (pv 1) AC)) (pv 0) (pv 1)))) AT) (AE (AI (BU (AR Ct (AG K (pv 0) AC) (AG K (pv 1) AC)) (pv 0) (pv 1)))))),?_⟩;rcases o1 with _|⟨w,l⟩<;>rcases o2 with _|⟨x,m⟩
 ·cases(show G= .non from d)
  cases(show I= .non from e)
  show ifp rfl ?_
  first|refine ifp rfl ?_ |skip
  show ifp rfl ?_;ext;exact q _ _ (Same.refl H) (.inl ⟨rfl,rfl⟩)
 ·obtain⟨L,o,p,_,_,i,M⟩:=e
  cases(show G= .non from d)
  subst p;show ifp rfl ?_
  first|refine ifp rfl ?_ |skip
  show ifq rfl ?_;ext;exact q _ _ (Same.refl H) (.inr ⟨rfl,rfl⟩)
 ·obtain⟨R,r,y,_,_,j,S⟩:=d
  cases(show I= .non from e)
  subst y;show ifq rfl ?_;show ifp rfl ?_
  first|refine ifp rfl ?_ |skip
  show ifp rfl ?_;ext;exact q _ _ (Same.refl H) (.inl ⟨rfl,rfl⟩)
 ·obtain⟨R,r,y,_,_,j,S⟩:=d;obtain⟨L,o,p,_,_,i,M⟩:=e;subst y p;obtain⟨b,z⟩:=hd w l x m rfl rfl;have q:∀v H',Same H H'->((v= .ref R/\(if w=x then(if l<m then some (w,l)else some (x,m))else if w>x then some (w,l)else some (x,m))=some (w,l))\/(v= .ref L/\(if w=x then(if l<m then some (w,l)else some (x,m))else if w>x then some (w,l)else some (x,m))=some (x,m)))->Q v H':=q;show ifq rfl ?_;show ifq rfl ?_
  first|refine ifq rfl ?_ |skip
  show A5 (SqT.of j) (v:= .int w) rfl ?_;show A5 (SqT.of i) (v:= .int x) rfl ?_;show ifd (λB=>?_) (λB=>?_)
  ·show A5 (SqT.of j) (v:= .ref r) rfl ?_;show A5 (SqT.of i) (v:= .ref o) rfl ?_;refine⟨r,o,l,m,rfl,rfl,SqL.of S,SqL.of M,b,z,?_⟩;ext;rw[if_pos B]at q;refine ifd (λa=>?_) (λa=>?_)
   ·ext;exact q _ _ (Same.refl H) (.inl ⟨rfl,if_pos a⟩)
   ·ext;exact q _ _ (Same.refl H) (.inr ⟨rfl,if_neg a⟩)
  ·show A5 (SqT.of j) (v:= .int w) rfl ?_;show A5 (SqT.of i) (v:= .int x) rfl ?_;ext;rw[if_neg B]at q;refine ifd (λa=>?_) (λa=>?_)
   ·ext;exact q _ _ (Same.refl H) (.inl ⟨rfl,if_pos a⟩)
   ·ext;exact q _ _ (Same.refl H) (.inr ⟨rfl,if_neg a⟩)
def Mp:FuV P w K mg base (k+2) "likeliest_pair" ["first","last"] (spLPairW):=FnA.u (T.f.at 27) (scN ["first","last","best","opening","weight"]) λnd _ _ _ _ _ H _ _ _ U h=>by
 obtain⟨p1,p2,x,y,kk,rfl,X,h2,lx,ly,hk,sx,sy,q⟩:=h;have hu:=U.units0;refine⟨_,(AD (AO 2 Ao) (AD (A8 PassesOwn.never rfl (Bv rfl (T.N 10) (AA AC (AA (Aa K (T.N 7) (AA (pv 0) AB)) (AA AC AB)))) (Ap 3) (AD (AO 4 (AJ BR (AG K (pv 0) (pv 3)) (AG K (pv 1) (AJ AQ (pv 3) AC)))) (AE (AS (AR Ct (pv 4) AC) (AE (AO 2 (AN (Hq T) U (AA (pv 2) (AA (BY (AA (pv 4) (AA (Ac (AA (pv 3) (AA (AJ AQ (pv 3) AC) AB))) AB))) AB))))) AT)))) (AE (AI (pv 2))))),?_⟩;show A7 (.inl (SqL.of X)) ?_;rw[List.length_map,lx];show⟨0,_,2,rfl,⟨by decide,by decide,EY (by lia) (by lia) (by lia) (by lia)⟩,?_⟩;have er:rN 0 ((2*kk:Nat):Int) 2=kk:=by rw[E7];lia
 rw[er];refine Io (λt σ Y=>∃ (v:V) (o:O) (M Q:Option V),σ=[some (.ref p1),some (.ref p2),some v,M,Q]/\Same H Y/\Bt (λb=>H b=none) Y v o/\LPw t o) ⟨.non,none,_,_,rfl,Same.refl H,rfl,λw l e=>by cases e⟩ ?_ ?_
 rotate_left
 ·intro σ j R;obtain⟨v,o,M,Q,rfl,i,r,I⟩:=R;ext;exact q v o j i r I
 intro t σ j ht R;obtain⟨v,o,M,Q,rfl,i,r,I⟩:=R;have e0:(0:Int)+(t:Int)*2=((2*t:Nat):Int):=by lia
 have Z:((2*t:Nat):Int)+1=((2*t+1:Nat):Int):=by lia
 rw[e0];ext;have gx:x[2*t]? =some (x.getD (2*t) 0):=by rw[List.getD_eq_getElem?_getD,List.getElem?_eq_getElem (by lia)];rfl
 have gy:y[2*t+1]? =some (y.getD (2*t+1) 0):=by rw[List.getD_eq_getElem?_getD,List.getElem?_eq_getElem (by lia)];rfl
 refine AL (SqL.of (i _ _ X)) (Ab (by rw[List.getElem?_map,gx];rfl)) ?_;ext
 first|rw[Z]|skip
 refine AL (SqL.of (i _ _ h2)) (Ab (by rw[List.getElem?_map,gy];rfl)) ?_;have J:=sx.at (2*t);have d:=sy.at (2*t+1);refine BX (A4 J.1 J.2 DR) (A4 d.1 d.2 DR) ?_;have bw:0<=x.getD (2*t) 0*y.getD (2*t+1) 0/\x.getD (2*t) 0*y.getD (2*t+1) 0<=top30*top30:=⟨Int.mul_nonneg J.1 d.1,Int.mul_le_mul J.2 d.2 d.1 (by decide)⟩;generalize x.getD (2*t) 0*y.getD (2*t+1) 0=wt at*
 have up:LPw (t+1) o:=λw l e=>let⟨b,p,hp,e⟩:=I w l e;⟨b,p,by lia,e⟩;show ifd (λS=>?_) (λS=>?_)
 ·have S:0<wt:=S;ext;rw[Z];refine⟨small (show 2<=1000 by decide),λa ha=>?_⟩;have t1:=AK ha (.lst [.int ((2*t:Nat):Int), .int ((2*t+1:Nat):Int)]);have k1:(upd j a (.lst [.int ((2*t:Nat):Int), .int ((2*t+1:Nat):Int)])) a=_:=AF;generalize upd j a _=H2 at*
  show⟨small (show 2<=1000 by decide),λT hT=>?_⟩;have t2:=AK hT (.tup [.int wt, .ref a]);have k2:(upd H2 T (.tup [.int wt, .ref a])) T=_:=AF;have B:=t2 _ _ k1;have L:=t1.trans t2;have fT:j T=none:=t1.free hT;generalize upd H2 T _=H3 at*
  show⟨v, .ref T,o,some (wt,[2*t,2*t+1]),rfl,(r.same L).imp (λ_ _ _ _=>trivial),⟨T,a,rfl,trivial,trivial,k2,B⟩,?_,λv' H4 G hv=>?_⟩
  ·intro w l x' m e e'
   cases e'
   obtain⟨_,p,hp,rfl⟩:=I w l e;exact⟨rfl,λz=>by have:=(List.cons.inj z).1;lia⟩
  rcases hv with⟨rfl,_⟩|⟨rfl,_⟩
  ·ext;exact⟨_,_,_,_,rfl,(i.trans L).trans G,r.same (L.trans G),up⟩
  ·ext;exact⟨_,some (wt,[2*t,2*t+1]),_,_,rfl,(i.trans L).trans G,⟨T,a,rfl,i.free fT,i.free ha,G _ _ k2,G _ _ B⟩,λw l e=>by cases e;exact⟨bw,t,by lia,rfl⟩⟩
 ·ext;exact⟨v,o,_,_,rfl,i,r,up⟩
def M4:FuV P w K mg base (k+1) "round_about" ["pair","within"] (spRound):=FnA.u (T.f.at 28) (scN ["pair","within","opening","closing"]) λnd _ _ _ _ _ H _ _ _ hr h=>by
 obtain⟨v1,v2,o1,o2,rfl,o,R,p,z1,z2,q⟩:=h;have hu:=hr.units0;refine⟨_,(AD (AS (PW.pt (BZ (AR Bo (pv 0) Ao) (Bi (AR Bo (pv 1) Ao)))) (AE (AI Ao)) AT) (AD (B7 (AG K (pv 0) AC) (SL (n:=2) K rfl (A0 (Ap 2) (A0 (Ap 3) CF)))) (AE (AI (BY (AA (AJ BR (AG K (pv 0) AC) (AG K (pv 1) AC)) (AA (AJ AQ (AJ AQ (Ac (AA (pv 2) AB)) (AG K (pv 1) AC)) (Ac (AA (pv 3) AB))) AB))))))),?_⟩;rcases o1 with _|⟨w,l⟩
 ·cases(show v1= .non from o)
  show ifp rfl ?_
  first|refine ifp rfl ?_ |skip
  ext;exact q _ _ (Same.refl H) rfl
 rcases o2 with _|⟨x,m⟩
 ·obtain⟨T1,r,y,_,_,z,S⟩:=o
  cases(show v2= .non from R)
  subst y;show ifq rfl ?_;show ifp rfl ?_
  first|refine ifp rfl ?_ |skip
  ext;exact q _ _ (Same.refl H) rfl
 ·obtain⟨T1,r,y,_,_,z,S⟩:=o;obtain⟨T2,a2,e2,_,_,U,g2⟩:=R;subst y e2;obtain⟨b1,l1⟩:=z1 w l rfl;obtain⟨b2,l2⟩:=z2 x m rfl;obtain⟨a,b,rfl⟩:∃a b,l=[a,b]:=by
   match l,p w l rfl with
   |[a,b],_=>exact⟨a,b,rfl⟩
  show ifq rfl ?_;show ifq rfl ?_
  first|refine ifq rfl ?_ |skip
  show A5 (SqT.of z) (v:= .ref r) rfl ?_;refine⟨r,[.int (a:Int), .int (b:Int)],rfl,SqL.of S,rfl,?_⟩;show A5 (SqT.of z) (v:= .int w) rfl ?_;show A5 (SqT.of U) (v:= .int x) rfl ?_;refine BX b1 b2 ?_;show⟨small (show 1<=1000 by decide),λB G=>?_⟩;have j:=AK G (.lst [.int (a:Int)]);have k1:(upd H B (.lst [.int (a:Int)])) B=_:=AF;generalize upd H B _=X at*
  show A5 (SqT.of (j _ _ U)) (v:= .ref a2) rfl ?_;refine DB k1 (j _ _ g2) (small (by rw[List.length_map];simp;lia)) (λI J=>?_);have Y:=AK J (.lst ([.int (a:Int)]++nL m));have k2:(upd X I (.lst ([.int (a:Int)]++nL m))) I=_:=AF;generalize upd X I _=Z at*
  show⟨small (show 1<=1000 by decide),λL M=>?_⟩;have Q:=AK M (.lst [.int (b:Int)]);have k3:(upd Z L (.lst [.int (b:Int)])) L=_:=AF;generalize upd Z L _=H3 at*
  refine DB (Q _ _ k2) k3 (small (by simp;lia)) (λd e=>?_);have t4:=AK e (.lst (([.int (a:Int)]++nL m)++[.int (b:Int)]));have k4:(upd H3 d (.lst (([.int (a:Int)]++nL m)++[.int (b:Int)]))) d=_:=AF;generalize upd H3 d _=H4 at*
  ext;have i:=(j.trans Y).trans (Q.trans t4);refine⟨small (show 2<=1000 by decide),λT hT=>?_⟩;have t5:=AK hT (.tup [.int (w*x), .ref d]);refine q _ _ (i.trans t5) ⟨T,d,rfl,i.free hT,((j.trans Y).trans Q).free e,AF,?_⟩;rw[t5 _ _ k4];show some (HO.lst _)=some (HO.lst (nL ([a]++m++[b])));simp[nL]
def Mg:FuV P w K mg base (k+1) "one_behind_the_other" ["first","second"] (spBehindO):=FnA.u (T.f.at 29) (scN ["first","second"]) λnd _ _ _ _ _ H _ _ _ B h=>by
 obtain⟨G,I,o1,o2,rfl,a,e,z1,z2,q⟩:=h;have U:=B.units0;refine⟨_,(AD (AS (PW.pt (BZ (AR Bo (pv 0) Ao) (Bi (AR Bo (pv 1) Ao)))) (AE (AI Ao)) AT) (AE (AI (BY (AA (AJ BR (AG K (pv 0) AC) (AG K (pv 1) AC)) (AA (AJ AQ (AG K (pv 0) AC) (AG K (pv 1) AC)) AB)))))),?_⟩;rcases o1 with _|⟨w,l⟩
 ·cases(show G= .non from a)
  show ifp rfl ?_
  first|refine ifp rfl ?_ |skip
  ext;exact q _ _ (Same.refl H) rfl
 rcases o2 with _|⟨x,m⟩
 ·obtain⟨J,i,b,_,_,d,j⟩:=a
  cases(show I= .non from e)
  subst b;show ifq rfl ?_;show ifp rfl ?_
  first|refine ifp rfl ?_ |skip
  ext;exact q _ _ (Same.refl H) rfl
 ·obtain⟨J,i,b,_,_,d,j⟩:=a;obtain⟨X,L,M,_,_,o,Q⟩:=e;subst b M;obtain⟨R,Y⟩:=z1 w l rfl;obtain⟨S,Z⟩:=z2 x m rfl;show ifq rfl ?_;show ifq rfl ?_
  first|refine ifq rfl ?_ |skip
  show A5 (SqT.of d) (v:= .int w) rfl ?_;show A5 (SqT.of o) (v:= .int x) rfl ?_;refine BX R S ?_;show A5 (SqT.of d) (v:= .ref i) rfl ?_;show A5 (SqT.of o) (v:= .ref L) rfl ?_;refine DB j Q (small (by rw[List.length_map,List.length_map];lia)) (λc p=>?_);have r:=AK p (.lst (nL l++nL m));show⟨small (show 2<=1000 by decide),λT y=>?_⟩;have z:=AK y (.tup [.int (w*x), .ref c]);refine q _ _ (r.trans z) ⟨T,c,rfl,r.free y,p,AF,?_⟩;rw[z _ _ AF,<-List.map_append]
def Mm:FuV P w K mg base (k+3) "likeliest_spans" ["places"] (spSpansLW):=FnA.u (T.f.at 30) (scN ["places","many","best","start","end","part","stop","found"]) λnd _ _ _ _ _ H _ _ _ hr h=>by
 obtain⟨p,ps,kk,rfl,hP,hn,hk,hl,q⟩:=h;have hu:=hr.units0;have hsm:∀l∈ps,Sm l:=λl z=>(hl l z).2;obtain⟨pa,X,hpa⟩:=id hP;refine⟨_,(AD (Bz (i:=1) nd rfl (Or.inr rfl) (Aa K (T.N 7) (AA (pv 0) AB))) (AD (Fb (i:=2) nd rfl (Or.inl rfl) (own:=["start"]) (sel:=[1]) (Ax (osc:=(AW (top 56))) (N:=["places","many","best","start","end","part","stop","found"]) (by decide +kernel)) rfl (CM rfl (T.N 10) (AA (AJ AQ (pv 1) AC) AB)) (λ_ _ _ _ _=>(Ah (i:=0) (show(["start","many"]:List Str).Nodup from by decide +kernel) rfl (Or.inl rfl))) (Aq (by decide)) (λ_ _ _ _ _=>A2) (λ_ _ _ _ _=>(AJ BO (Ac (AA Ao AB)) (AJ AQ (pv 1) AC)))) (AD (A8 PassesOwn.never rfl (Bv rfl (T.N 10) (AA (pv 1) (AA (B2 By AC) (AA (B2 By AC) AB)))) (Ap 3) (AD (B7 (BY (AA AC (AA (Ac AB) AB))) (CT (AG K (pv 2) (pv 3)) (pv 3) Be)) (AE (A8 PassesOwn.never rfl (Bv rfl (T.N 10) (AA (AJ AQ (pv 3) AC) (AA (pv 1) (AA AC AB)))) (Ap 4) (AD (AO 5 (AN (M4 T) hr (AA (AN (Mp T) hr (AA (AG K (pv 0) (pv 3)) (AA (AG K (pv 0) (pv 4)) AB))) (AA (AG K (AG K (pv 2) (AJ AQ (pv 3) AC)) (pv 4)) AB)))) (AE (A8 PassesOwn.never rfl (Bv rfl (T.N 10) (AA (AJ AQ (pv 4) AC) (AA (AJ AQ (pv 1) AC) (AA AC AB)))) (Ap 6) (AD (AO 7 (AN (Mg T) hr (AA (pv 5) (AA (AG K (AG K (pv 2) (AJ AQ (pv 4) AC)) (pv 6)) AB)))) (AE (B7 (AN (Hq T) hr (AA (AG K (AG K (pv 2) (pv 3)) (pv 6)) (AA (pv 7) AB))) (CT (AG K (pv 2) (pv 3)) (pv 6) Be))))))))))) (AE (AI (pv 2)))))),?_⟩;show A7 (.inl (SqL.of X)) ?_;have en:((((List.range ps.length).map λi=>V.ref (pa i)).length:Nat):Int)=(ps.length:Int):=by rw[List.length_map,List.length_range]
 rw[en];generalize hN:ps.length=n at*
 show⟨_,rfl,by lia,by lia,?_⟩;have en:((n:Int)+1).toNat=n+1:=by lia
 rw[en];refine GG (small (by lia)) (λD i ys L=>∃a:Nat->Addr,ys=(List.range i).map (λj=>V.ref (a j))/\(∀j,j<i->L (a j)=some (.lst (rwv n λ_=> .non))/\H (a j)=none/\a j≠D)/\∀j Y,j<i->Y<i->a j=a Y->j=Y)
  (λD _=>⟨λ_=>D,rfl,λj J=>absurd J (by lia),λj _ J=>absurd J (by lia)⟩) (λD i ys H1 H2 _ ⟨a,e,d,h2⟩ s12=>⟨a,e,λj J=>⟨s12 _ _ (d j J).1 (d j J).2.2,(d j J).2⟩,h2⟩)
  (λs' ys H1 hD hy _ sH ⟨a,e,d,h2⟩=>?_) ?_
 rotate_left
 ·rintro D i ys L R hD Z hy hl sH ⟨a,e,d,h2⟩ r;show⟨small (show 1<=1000 by decide),λz hz=>?_⟩;show EI (xs:=[.non]) AF (by lia) (by lia) (small (by rw[List.length_singleton,en];lia)) (λp hp=>?_);have hpz:p≠z:=λw=>by rw[w,AF]at hp;cases hp
  have B:L p=none:=by rw[AH hpz]at hp;exact hp
  have hpD:p≠D:=λw=>by rw[w,hy]at B;cases B
  have sp:Same L (upd (upd L z (.lst [.non])) p (.lst (List.replicate ((n:Int)+1).toNat [V.non]).flatten)):=(AK hz _).trans (AK hp _);refine r _ _ sp ⟨λj=>if j=i then p else a j,?_,?_,?_⟩
  ·subst e;rw[List.range_succ,List.map_append];congr 1
   ·refine List.map_congr_left λj J=>?_;have:=List.mem_range.mp J;show V.ref (a j)=V.ref (if j=i then p else a j);rw[if_neg (by lia)]
   ·simp
  ·intro j J
   by_cases ej:j=i
   ·subst ej;simp only[if_true];refine⟨?_,?_,hpD⟩
    ·rw[AF,en];congr 2;unfold rwv;have:∀m:Nat,(List.replicate m [V.non]).flatten=(List.range m).map λ_=>V.non:=by
      intro m
      induction m with
      |zero=>rfl
      |succ m ih=>rw[List.replicate_succ',List.flatten_append,ih,List.range_succ,List.map_append];rfl
     exact this (n+1)
    ·exact sH.free B
   ·simp only[if_neg ej];obtain⟨a1,a2,a3⟩:=d j (by lia);exact⟨sp _ _ a1,a2,a3⟩
  ·intro j Y J hj' he
   by_cases ej:j=i<;>by_cases ej':Y=i
   ·lia
   ·simp only[if_pos ej,if_neg ej']at he;have:=(d Y (by lia)).1;rw[<-he,B]at this;cases this
   ·simp only[if_neg ej,if_pos ej']at he;have:=(d j (by lia)).1;rw[he,B]at this;cases this
   ·simp only[if_neg ej,if_neg ej']at he;exact h2 j Y (by lia) (by lia) he
 subst e;have tb1:Tv H H1 H1 s' a n (λ_ _=> .non):=⟨hD,λi Z=>(d i (by lia)).2.1,λi Z=>(d i (by lia)).2.2,λi j Z J=>h2 i j (by lia) (by lia),λi Z=>by rw[(d i (by lia)).1];simp,hy,λi Z=>(d i (by lia)).1,sH,λb z=>z⟩;clear d h2 hy hD;ext;rcases hn with rfl|rfl
 ·refine⟨_,-1,-1,rfl,⟨by decide,by decide,by decide⟩,?_⟩;refine unr 1 (Bl (by decide) ?_);refine Et (st:=0) rfl rfl (Nat.le_refl _) tb1 λv0 H2 G b2 _=>?_;show⟨_,_,2,rfl,⟨by decide,by decide,by decide⟩,?_⟩;refine unr 0 ⟨Nat.le_of_ble_eq_true rfl,?_⟩;refine⟨Nat.le_of_ble_eq_true rfl,?_⟩;ext;exact q s' (a 0) [] [] v0 (some (1,[])) H2 G.sm G.top (G.row 0 (by decide)) (b2.imp λ_ _ _ _=>trivial) λw l e=>by cases e;exact⟨rfl,λ_ h=>nomatch h⟩
 have place:∀ {L:Hp} {i:Nat},Same H L->i<2->∃l,L (pa i)=some (iL l)/\l.length=2*kk/\Sm l:=by
  intro L i sH Z;have e:ps[i]? =some ps[i]:=List.getElem?_eq_getElem (by lia);have eg:ps.getD i []=ps[i]:=by rw[List.getD_eq_getElem?_getD,e];rfl
  refine⟨ps[i],?_,hl _ (List.getElem_mem _)⟩;have:=sH _ _ (hpa i Z);rw[eg]at this;exact this
 refine⟨_,-1,-1,rfl,⟨by decide,by decide,by decide⟩,?_⟩;refine unr 3 (Bl (by decide) ?_);refine Et (st:=2) rfl rfl (Nat.le_refl _) tb1 λv2 H2 G b2 _=>?_;show⟨_,_,2,rfl,⟨by decide,by decide,by decide⟩,?_⟩;refine unr 0 ⟨Nat.le_of_ble_eq_true rfl,?_⟩;refine Bl (by decide) ?_;refine Et (st:=1) rfl rfl (by decide) G λv1 H3 tb3 b3 k3=>?_;show⟨_,_,2,rfl,⟨by decide,by decide,by decide⟩,?_⟩;refine unr 0 ⟨Nat.le_of_ble_eq_true rfl,?_⟩;refine Bl (by decide) ?_;refine Et (st:=0) rfl rfl (by decide) tb3 λv0 H4 I _ k4=>?_;have b3:=b3.keep k4;have b2:=(b2.keep k3).keep k4;clear k3 k4 tb1 G tb3;show⟨_,_,2,rfl,⟨by decide,by decide,by decide⟩,?_⟩;refine unr 1 (Bl (by decide) ?_);ext;obtain⟨x,hx,lx,sx⟩:=place I.sm (show 0<2 by decide);obtain⟨y,hy,ly,sy⟩:=place I.sm (show 1<2 by decide);refine AL (SqL.of (I.sm _ _ X)) (v:= .ref (pa 0)) rfl ?_;show AL (SqL.of (I.sm _ _ X)) (v:= .ref (pa 1)) rfl ?_;show⟨pa 0,pa 1,x,y,kk,rfl,hx,hy,lx,ly,hk,sx,sy,λvp op H5 s5 bp U=>?_⟩;have M:=I.same s5;show AL (SqL.of M.top) (v:= .ref (a 1)) rfl ?_;show AL (SqL.of (M.row 1 (by decide))) (v:=v1) rfl ?_;ext;have sz1:Sz (some (1,[])):=λw l e=>by cases e;exact⟨by unfold big;decide +kernel,by decide⟩
 refine⟨vp,v1,op,some (1,[]),rfl,bp.imp λ_ _ _ _=>trivial,(b3.same s5).imp λ_ _ _ _=>trivial,λw l e=>by obtain⟨_,p',_,rfl⟩:=U w l e;rfl,λw l e=>?_,sz1,λvr H6 s6 br=>?_⟩
 ·obtain⟨b,p',_,rfl⟩:=U w l e;exact⟨A4 b.1 (Int.le_trans b.2 (by decide:top30*top30<=4*(top30*top30))) DU,show 2<=40 by decide⟩
 have Q:=M.same s6;have b2:=b2.same (s5.trans s6);clear bp I M s5 b3;show⟨_,_,2,rfl,⟨by decide,by decide,by decide⟩,?_⟩;refine unr 1 (Bl (by decide) ?_);show AL (SqL.of Q.top) (v:= .ref (a 2)) rfl ?_;show AL (SqL.of (Q.row 2 (by decide))) (v:=v2) rfl ?_;show⟨vr,v2,rnd op (some (1,[])),some (1,[]),rfl,br.imp λ_ _ _ _=>trivial,b2.imp λ_ _ _ _=>trivial,λw l e=>?_,sz1,λvf H7 s7 bf=>?_⟩
 ·match op,U,e with
  |some (w1,l1),U,e=>
   cases e
   obtain⟨b,p',_,rfl⟩:=U w1 l1 rfl;exact⟨by rw[Int.mul_one];exact A4 b.1 (Int.le_trans b.2 (by decide:top30*top30<=4*(top30*top30))) DU,show 2<=40 by decide⟩
 have shn:ShW 2 (beh (rnd op (some (1,[]))) (some (1,[]))):=λw l e=>by
  match op,U,e with
  |some (w1,l1),U,e=>
   cases e
   obtain⟨b,p',B,rfl⟩:=U w1 l1 rfl;refine⟨rfl,λb hb=>?_⟩;have:b=2*p'\/b=2*p'+1:=by simpa using hb
   lia
 have tb7:=Q.same s7;show AL (SqL.of tb7.top) (v:= .ref (a 0)) rfl ?_;show AL (SqL.of (tb7.row 0 (by decide))) (v:= .non) rfl ?_;show⟨.non,vf,none,beh (rnd op (some (1,[]))) (some (1,[])),rfl,rfl,bf.imp λ_ _ _ _=>trivial,λw l x m e=>(by cases e),λvn H8 s8 hv=>?_⟩;have S:=tb7.same s8;obtain⟨o,bn,sn⟩:∃o,Bt (λb=>H1 b=none) H8 vn o/\ShW 2 o:=by
  rcases hv with⟨rfl,_⟩|⟨rfl,_⟩
  ·exact⟨none,rfl,λw l e=>by cases e⟩
  ·exact⟨_,(bf.imp λb x f _=>Q.gr b f).same s8,shn⟩
 show AL (SqL.of S.top) (v:= .ref (a 0)) rfl ?_;show Bh (S.row 0 (by decide)) (j:=2) (Bn (by rw[KJ];decide)) ?_;have tb9:=S.set (i:=0) (j:=2) (v:=vn) (by decide);refine⟨Nat.le_of_ble_eq_true rfl,?_⟩;refine⟨Nat.le_of_ble_eq_true rfl,?_⟩;refine⟨Nat.le_of_ble_eq_true rfl,?_⟩;ext;exact q s' (a 0) _ [v0, .non] vn o _ tb9.sm tb9.top (tb9.row 0 (by decide)) ((bn.keep λb x f z=>S.keep (by decide) b x f z).imp λ_ _ _ _=>trivial) sn
def Mn:FuV P w K mg base (k+4) "first_likeliest" ["places"] (spFirstLW):=FnA.u (T.f.at 31) (scN ["places","best"]) λnd _ _ _ _ _ _ _ _ _ B h=>by
 obtain⟨p,ps,Y,rfl,Z,hn,hk,hl,q⟩:=h;have hu:=B.units0;refine⟨_,(AD (AO 1 (AG K (AG K (AN (Mm T) B (AA (pv 0) AB)) AC) (B2 By AC))) (AD (AS (AR Bo (pv 1) Ao) (AE (AI Ao)) AT) (AE (AI (BY (AA (AG K (pv 1) AC) (AA (Av K PySem.F.plainAttrs_str PySem.F.slot_str_join PySem.F.type_str_join (GT K) (pxt []) (AA (A1 (own:=["bracket"]) (sel:=[]) (Ax (osc:=(AW (top 57))) (N:=["places","best"]) (by decide +kernel)) rfl (C7 K (AG K (pv 1) AC)) (λ_ _ _ _ _=>(Ah (i:=0) (show(["bracket"]:List Str).Nodup from by decide +kernel) rfl (Or.inl rfl))) (Aq (by decide)) (λ_ _ _ _ _=>A2) (λ_ _ _ _ _=>(AG K (AX (T.g.at 3)) (pv 0)))) AB)) AB))))))),?_⟩;show⟨p,ps,Y,rfl,Z,hn,hk,hl,λs' r rs xs v o H1 G e1 e2 d a=>?_⟩;show AL (SqL.of e1) (v:= .ref r) (Dc _ _) ?_;show AL (SqL.of e2) (Q4 xs v) ?_
 match o,d,a with
 |none,d,a=>
  cases(show v= .non from d)
  show ifp rfl ?_;ext;exact q _ none H1 G rfl a
 |some (w,l),⟨T1,H,ev,_,_,I,J⟩,a=>
  subst ev;have L:l.length<=40:=by have:=(a w l rfl).1;lia
  have j:=(a w l rfl).2;show ifq rfl ?_;show A5 (SqT.of I) (v:= .int w) rfl ?_;show A5 (SqT.of I) (v:= .ref H) rfl ?_;show⟨H,rfl,⟨_,SqL.of J⟩,?_⟩;refine RN (λx=>match x with| .int i=>tx [brs.getD i.toNat 0]|y=>y) (small (by rw[List.length_map];lia)) J (λD M hD Q S=>?_) (λD i x M R hD U Q hR=>?_)
  ·have e:((nL l).map λx=>match x with| .int i=>tx [brs.getD i.toNat 0]|y=>y)=(l.map λb=>[brs.getD b 0]).map tx:=by
    unfold nL;rw[List.map_map,List.map_map]
    rfl
   rw[e]at S;ext;have X:(l.map λb=>[brs.getD b 0]).flatten=brx l:=by
    unfold brx;rw[<-RE (l.map λb=>brs.getD b 0),List.map_map];rfl
   refine Gi (xss:=l.map λb=>[brs.getD b 0]) (SqL.of S) (by rw[X,List.length_map];unfold brx;rw[List.length_map];lia) ?_;rw[X];show⟨small (show 2<=1000 by decide),λT' hT=>?_⟩;exact q _ (some (w,l)) _ ((G.trans Q).trans (AK hT _)) ⟨T',rfl,AF⟩ a
  ·rw[List.getElem?_map]at U;obtain⟨b,hb,rfl⟩:=Option.map_eq_some_iff.mp U;have z:=j b (List.mem_of_getElem? hb);show B1 (small (by decide)) (Ab (Ks z)) ?_;exact hR M (Same.refl _)
def Hd:FuV P w K mg base (k+1) "needs_change" ["sign","bracket"] (spNeeds):=FnA.u (T.f.at 32) (scN ["sign","bracket"]) λnd _ _ _ _ _ _ _ _ _ a h=>by
 obtain⟨c,b,rfl,q⟩:=h;have j:=a.units0;refine⟨_,(AE (AI (BD (EZ K) (pv 0) (BY (AA (AX (T.g.at 4)) (AA (pv 1) AB))) (by with_unfolding_all rfl)))),?_⟩;show⟨small (show 2<=1000 by decide),λd e=>?_⟩;have i:=AK e (.tup [tx [63],tx [b]]);refine .inr ⟨d,_,rfl, .inr (SqT.of AF),rfl,rfl,?_⟩;rw[Vs];exact q _ i
def Mi:FuV P w K mg base (k+2) "places_to_change" ["k","row"] (spPlacesC):=FnA.u (T.f.at 33) (scN ["k","row"]) λnd _ _ _ _ _ _ _ _ _ S h=>by
 obtain⟨v,a,rfl,k1,k4,ha,q⟩:=h;have hu:=S.units0;refine⟨_,(AE (AI (A1 (own:=["sign"]) (sel:=[0]) (Ax (osc:=(AW (top 62))) (N:=["k","row"]) (by decide +kernel)) rfl (B8 (pv 1)) (λ_ _ _ _ _=>(Ah (i:=0) (show(["sign","k"]:List Str).Nodup from by decide +kernel) rfl (Or.inr rfl))) (Aq (by decide)) (λ_ _ _ _ _=>A2) (λ_ _ _ _ _=>(A1 (own:=["bracket"]) (sel:=[0]) (Iz (osc:=(AW (top 62))) (N:=["sign","k"]) rfl rfl (by decide +kernel)) rfl (B8 (BS (Bc K) (AX (T.g.at 3)) BW (BV (AJ BO AC (pv 1))))) (λ_ _ _ _ _=>(Ah (i:=0) (show(["bracket","sign"]:List Str).Nodup from by decide +kernel) rfl (Or.inl rfl))) (Aq (by decide)) (λ_ _ _ _ _=>A2) (λ_ _ _ _ _=>(BU (Ar K (AN (Hd T) S (AA (pv 1) (AA (pv 0) AB)))) (AX (T.g.at 7)) (AX (T.g.at 6))))))))),?_⟩;show GF (small (by lia)) (λD i B x=>∃d:Nat->Addr,B=(List.range i).map (λj=>V.ref (d j))/\∀j,j<i->x (d j)=some (iL (plc v.toNat (a.getD j 0)))/\d j≠D)
  (λD _=>⟨λ_=>D,rfl,λj o=>absurd o (by lia)⟩) (λD i B H1 I _ ⟨d,e,p⟩ J=>⟨d,e,λj o=>⟨J _ _ (p j o).1 (p j o).2,(p j o).2⟩⟩)
  (λD B x U L _ X ⟨d,e,p⟩=>?_) ?_
 ·subst e;refine q D x U X ⟨d,by rw[List.length_map];exact L,λi G=>?_⟩;rw[List.length_map]at G;have eg:(a.map (plc v.toNat)).getD i []=plc v.toNat (a.getD i 0):=by
   simp only[List.getD_eq_getElem?_getD,List.getElem?_map,List.getElem?_eq_getElem G];rfl
  rw[eg];exact(p i G).1
 ·rintro D i B x R U G L hl X ⟨d,e,p⟩ r;have fin:∀l H6,x l=none->Same x H6->H6 l=some (iL (plc v.toNat (a.getD i 0)))->R (.ref l) H6:=by
   intro l H6 y Y h6;have M:l≠D:=λz=>by rw[z,L]at y;cases y
   refine r _ _ Y ⟨λj=>if j=i then l else d j,?_,λj o=>?_⟩
   ·subst e;rw[List.range_succ,List.map_append];congr 1
    ·refine List.map_congr_left λj o=>?_;have:=List.mem_range.mp o;show V.ref (d j)=V.ref (if j=i then l else d j);rw[if_neg (by lia)]
    ·simp
   ·by_cases Z:j=i
    ·subst Z;simp only[if_true];exact⟨h6,M⟩
    ·simp only[if_neg Z];obtain⟨a1,a2⟩:=p j (by lia);exact⟨Y _ _ a1,a2⟩
  ext;rw[DW _ (by lia),show(2*v).toNat=2*v.toNat by lia];show JL (λb=> .int (if a.getD i 0=63\/a.getD i 0=b then 2 else 1)) (small (by rw[List.length_take];exact Nat.le_trans (Nat.min_le_right _ _) (by decide))) (λD2 I Q s2 h2=>?_) (λi2 c I R2 hc2 s2 H=>?_)
  ·refine fin D2 I Q s2 ?_;rw[h2];unfold plc;show some (HO.lst _)=some (HO.lst (List.map V.int (List.map _ _)));rw[List.map_map]
   rfl
  ·show⟨a.getD i 0,c,rfl,λH3 s3=>?_⟩;ext
   by_cases z:a.getD i 0=63\/a.getD i 0=c
   ·rw[if_pos z]at H;refine ifq (by rw[decide_eq_true z];rfl) ?_;ext;exact H H3 s3
   ·rw[if_neg z]at H;refine ifp (by rw[decide_eq_false z];rfl) ?_;ext;exact H H3 s3
def Mq:Af P w K mg base (k+5) "fewest_changes" ["k","row"] (spFewest31W):=FnA.uE (T.f.at 34) (scN ["k","row","best","right"]) λnd _ _ _ _ _ _ _ _ _ p h=>by
 obtain⟨B,a,rfl,k1,k4,x,G,q⟩:=h;have hu:=p.units0;have X:=BH x;have y:B.toNat<=4:=by lia
 have Y:=Au p;refine BC ⟨_,(AD (Am (Ak (B3 T) p A9 (AA (pv 0) (AA (pv 1) AB)))) (AD (AO 2 (AN (Mn T) p (AA (AN (Mi T) p (AA (pv 0) (AA (pv 1) AB))) AB))) (AD (AS (AR Bo (pv 2) Ao) (AE (AI Ao)) AT) (AD (AO 3 (AG K (pv 2) AC)) (AE (AI (BY (AA (Aj (Eb K rfl) rfl (T.N 15) PyProof.Rows.boot_sum (AA (A1 (own:=["sign","bracket"]) (sel:=[]) (Ax (osc:=(AW (top 63))) (N:=["k","row","best","right"]) (by decide +kernel)) rfl (KW rfl (T.N 16) (AA (pv 1) (AA (pv 3) AB))) (λ_ _ _ _ _=>(CP (n:=2) K rfl (A0 (Ah (i:=0) (show(["sign","bracket"]:List Str).Nodup from by decide +kernel) rfl (Or.inl rfl)) (A0 (Ah (i:=1) (show(["sign","bracket"]:List Str).Nodup from by decide +kernel) rfl (Or.inl rfl)) CF)))) (E9 (Cj Bw (Ew Bw Cr) (Aq (by decide)) (Cj Bw Cr (Aq (by decide)) FA))) (λ_ _ _ _ _=>A2) (λ_ _ _ _ _=>(B5 Ec rfl (T.N 5) PyProof.Rows.boot_int (AA (AN (Hd T) p (AA (pv 0) (AA (pv 1) AB))) AB)))) AB)) (AA (pv 3) AB))))))))),?_⟩;show .inl (B4 k1 k4 x (λH1 Z=>?_));show⟨B,a,rfl,k1,k4,X,λr H2 _ s2 hP=>?_⟩;show⟨r,_,B.toNat,rfl,hP,by rw[List.length_map];exact G,y,λl h=>?_,λv o H3 s3 H b=>?_⟩
 ·obtain⟨c,_,rfl⟩:=List.mem_map.mp h;exact⟨SH y,Ub _ _⟩
 rw[List.length_map]at b;have M:=(Z.trans s2).trans s3
 match o,H,b with
 |none,H,b=>
  cases(show v= .non from H)
  show ifp rfl ?_;ext;exact q _ none H3 M rfl b
 |some (w,l),⟨T1,ev,f1⟩,b=>
  subst ev;have j:l.length=a.length:=(b w l rfl).1;have hbd:=(b w l rfl).2;have I:(brx l).length=a.length:=by unfold brx;rw[List.length_map];exact j
  show ifq rfl ?_;show A5 (SqT.of f1) (v:=tx (brx l)) rfl ?_;show JK (λc d=> .int (if c=63\/c=d then 0 else 1)) I (small (by lia)) (λD H4 hD Q S=>?_) (λi c d J H4 R hc hd Q L hR=>?_)
  ·have e:((List.range a.length).map λi=>V.int (if a.getD i 0=63\/a.getD i 0=(brx l).getD i 0 then 0 else 1))=((List.range a.length).map λi=>(if okc (a.getD i 0) (l.getD i 0)=true then(0:Int)else 1)).map V.int:=by
    rw[List.map_map];refine List.map_congr_left λi U=>?_;have U:=List.mem_range.mp U;have eg:(brx l).getD i 0=brs.getD (l.getD i 0) 0:=by
     unfold brx;rw[List.getD_eq_getElem?_getD,List.getElem?_map,List.getElem?_eq_getElem (by lia),List.getD_eq_getElem?_getD (l:=l),List.getElem?_eq_getElem (by lia)];rfl
    show V.int (if a.getD i 0=63\/a.getD i 0=(brx l).getD i 0 then 0 else 1)=V.int (if okc (a.getD i 0) (l.getD i 0)=true then(0:Int)else 1);rw[eg];unfold okc
    by_cases z:a.getD i 0=63\/a.getD i 0=brs.getD (l.getD i 0) 0
    ·rw[if_pos z,if_pos (decide_eq_true z)]
    ·rw[if_neg z,if_neg (by rw[decide_eq_false z];decide)]
   rw[e]at S;show FH (SqL.of S) ?_;rw[Kr a l j.symm];show⟨small (show 2<=1000 by decide),λJ L=>?_⟩;exact q _ (some (w,l)) _ ((M.trans Q).trans (AK L _)) ⟨J,rfl,AF⟩ b
  ·show⟨J,_,rfl,SqT.of L,rfl,?_⟩;show⟨c,d,rfl,λH5 s5=>?_⟩;ext;have eb:(if(!decide (c=63\/c=d))=true then(1:Int)else 0)=if c=63\/c=d then 0 else 1:=by
    by_cases z:c=63\/c=d
    ·rw[decide_eq_true z,if_pos z];rfl
    ·rw[decide_eq_false z,if_neg z];rfl
   rw[eb];exact hR H5 s5
def NU:FuV P w K mg base (k+1) "other_one" ["sign"] (spOther):=FnA.u (T.f.at 35) (scN ["sign"]) λnd _ _ _ _ _ _ _ _ _ p h=>by
 obtain⟨c,rfl,r,q⟩:=h;have v:=p.units0;refine⟨_,(AD (AS (AR (Ad K v) (pv 0) (AX (T.g.at 4))) (AE (AI (AX (T.g.at 4)))) AT) (AD (AS (AR (Cp K) (pv 0) (AX (T.g.at 0)) (by with_unfolding_all rfl)) (AE (AI (AG K (AX (T.g.at 1)) (Av K PySem.F.plainAttrs_str PySem.F.slot_str_index PySem.F.type_str_index F7 (AX (T.g.at 0)) (AA (pv 0) AB))))) AT) (AE (AI (AG K (AX (T.g.at 0)) (Av K PySem.F.plainAttrs_str PySem.F.slot_str_index PySem.F.type_str_index F7 (AX (T.g.at 1)) (AA (pv 0) AB))))))),?_⟩;ext;have i:=WG r;refine ifd (λa=>?_) (λa=>?_)
 ·have x:c=63:=by simpa using a
  subst x;ext;exact q
 ·show ifd (λb=>?_) (λb=>?_)
  ·obtain⟨j,o,l,d,e⟩:∃ (j o:Nat),DM [40,91,123,60] c=some j/\atI [41,93,125,62] (j:Int)=some o/\o=oth c:=by
    revert b a
    rcases i with rfl|rfl|rfl|rfl|rfl|rfl|rfl|rfl|rfl<;>intro a b<;>first|exact absurd b (by decide)|exact⟨0,_,by decide +kernel,rfl,rfl⟩|exact⟨1,_,by decide +kernel,rfl,rfl⟩|exact⟨2,_,by decide +kernel,rfl,rfl⟩|exact⟨3,_,by decide +kernel,rfl,rfl⟩
   subst e;show HE l ?_;ext;exact B1 (small (show 4<=1000 by decide)) d q
  ·obtain⟨j,o,l,d,e⟩:∃ (j o:Nat),DM [41,93,125,62] c=some j/\atI [40,91,123,60] (j:Int)=some o/\o=oth c:=by
    revert b a
    rcases i with rfl|rfl|rfl|rfl|rfl|rfl|rfl|rfl|rfl<;>intro a b<;>first|exact absurd rfl a|exact absurd (by decide) b|exact⟨0,_,by decide +kernel,rfl,rfl⟩|exact⟨1,_,by decide +kernel,rfl,rfl⟩|exact⟨2,_,by decide +kernel,rfl,rfl⟩|exact⟨3,_,by decide +kernel,rfl,rfl⟩
   subst e;show HE l ?_;ext;exact B1 (small (show 4<=1000 by decide)) d q
def PQ:Af P w K mg base (k+5) "turned" ["k","row"] (spTurned):=FnA.uE (T.f.at 36) (scN ["k","row"]) λnd _ _ _ _ _ _ _ _ _ p h=>by
 obtain⟨U,a,rfl,H,I,r,q⟩:=h;have X:=p.units0;refine BC ⟨_,(AD (Am (Ak (B3 T) p A9 (AA (pv 0) (AA (pv 1) AB)))) (AE (AI (Av K PySem.F.plainAttrs_str PySem.F.slot_str_join PySem.F.type_str_join (GT K) (pxt []) (AA (A1 (own:=["sign"]) (sel:=[]) (Ax (osc:=(AW (top 66))) (N:=["k","row"]) (by decide +kernel)) rfl (SJ rfl (T.N 11) (AA (pv 1) AB)) (λ_ _ _ _ _=>(Ah (i:=0) (show(["sign"]:List Str).Nodup from by decide +kernel) rfl (Or.inl rfl))) (Aq (by decide)) (λ_ _ _ _ _=>A2) (λ_ _ _ _ _=>(AN (NU T) p (AA (pv 0) AB)))) AB))))),?_⟩;have Y:=BH r;show .inl (B4 H I r (λJ L=>?_));show RM (small (by lia)) (λD i v j=>v=(((a.reverse.take i).map λc=>[oth c]).map tx)/\SameBut1 D J j) (λD l=>⟨rfl,SameBut1.of (AK l _)⟩) (λD v j l d ⟨e,x⟩=>?_) ?_
 ·have M:a.reverse.take a.length=a.reverse:=by rw[<-List.length_reverse,List.take_length]
  rw[M]at e;subst e;ext;have B:(a.reverse.map λc=>[oth c]).flatten=trn a:=by
   have:=Fp (trn a);unfold trn at this⊢;rw[List.map_map]at this;exact this
  have Q:(trn a).length=a.length:=RX a;refine Gi (SqL.of d) (by rw[B,List.length_map,List.length_reverse];lia) ?_;rw[B];exact q j (L.trans λb o z=>x b o z (AM z l))
 ·rintro D i c v j l G R d y ⟨e,x⟩;have S:c∈a:=List.mem_reverse.mp (List.mem_of_getElem? G);show DN ?_;show PJ (Vz (Pn r c S)) ?_;refine B6 R (small (by lia)) d y ⟨?_,x.trans SameBut1.upd⟩;rw[e,List.take_add_one,G];simp only[Option.toList_some,List.map_append,List.map_cons,List.map_nil]
def PU:Af P w K mg base (k+3) "filled" ["k","row"] (spFilledT):=FnA.uE (T.f.at 37) (scN ["k","row","places","sums"]) λnd _ _ _ _ _ _ _ _ _ b h=>by
 obtain⟨a,rfl,d,q⟩:=h;refine BC ⟨_,(AD (AO 2 (AN (ET T) b (AA (pv 0) (AA (pv 1) AB)))) (AD (AO 3 (AN (EV T) b (AA (pv 2) AB))) (AD (Am (Ak (Mu T) b A9 (AA (pv 3) AB))) (AE (AI (BY (AA (pv 2) (AA (pv 3) AB)))))))),?_⟩;show EX (k:=4) (by decide) (by decide) (BH d.row) (λe v o p j=>?_);show⟨e,a,rfl,d,j,λi l x tb=>?_⟩;show⟨_,i,l,_,_,rfl,tb, .inl ⟨by rcases d with rfl|rfl<;>decide,?_⟩⟩;show⟨small (show 2<=1000 by decide),λT r=>?_⟩;have t:=AK r (.tup [.ref e, .ref i]);exact q T e i l _ _ ((p.trans tb.sm).trans t) AF ((j.same tb.sm).same t) (tb.same t)
def M3:Af P w K mg base (k+5) "sure_places" ["k","row"] (spSureW):=FnA.uE (T.f.at 38) (scN ["k","row","places","sums","in_all"]) λnd _ _ _ _ _ _ _ _ _ U h=>by
 obtain⟨a,rfl,X,q⟩:=h;have hl:=BH X.row;have hu:=U.units0;refine BC ⟨_,(AD (Am (Ak (B3 T) U A9 (AA (pv 0) (AA (pv 1) AB)))) (AD (B7 (Ak (PU T) U A9 (AA (pv 0) (AA (pv 1) AB))) (CP (n:=2) K rfl (A0 (Ap 2) (A0 (Ap 3) CF)))) (AD (Bz (i:=4) nd rfl (Or.inr rfl) (AN (EU T) U (AA (pv 3) AB))) (AE (AI (A1 (own:=["at","manies"]) (sel:=[4,1]) (Ax (osc:=(AW (top 69))) (N:=["k","row","places","sums","in_all"]) (by decide +kernel)) rfl (PF K rfl (T.N 4) (AA (AN (Mw T) U (AA (pv 2) (AA (pv 3) AB))) AB)) (λ_ _ _ _ _=>(CP (n:=2) K rfl (A0 (Ah (i:=0) (show(["at","manies","in_all","row"]:List Str).Nodup from by decide +kernel) rfl (Or.inl rfl)) (A0 (Ah (i:=1) (show(["at","manies","in_all","row"]:List Str).Nodup from by decide +kernel) rfl (Or.inl rfl)) CF)))) (E9 (Cj Bw (Ew Bw Cr) (Aq (by decide)) (Cj Bw Cr (Aq (by decide)) FA))) (λ_ _ _ _ _=>D3 (PW.pt (Gk (AR (Ad K hu) (AG K (pv 3) (pv 0)) (AX (T.g.at 4))) (GL (AR (Cp K) (pv 2) (pv 1) (by with_unfolding_all rfl)))))) (λ_ _ _ _ _=>(BY (AA (pv 0) (AA (AG K (AX (T.g.at 3)) (Av K PySem.F.plainAttrs_list PySem.F.slot_list_index PySem.F.type_list_index Pb (pv 1) (AA (pv 2) AB))) AB)))))))))),?_⟩;show .inl (B4 (by decide) (by decide) X.row (λH1 s1=>?_));show⟨a,rfl,X,λT p ss ad H0 H2 s2 gT hP tb=>?_⟩;show⟨T,_,rfl,SqT.of gT,rfl,?_⟩;show Dn tb ?_;have e1:TQ3 0 a.length=1:=by rcases X with rfl|rfl<;>rfl
 rw[e1];ext;have J:(Pl4 a).length=a.length:=List.length_map _;refine⟨p,ss,_,4,ad,H0,rfl,hP,by rw[J];exact X.len,by decide,Do (by decide),by rw[J];exact tb,λF0 d T4 H4 r=>?_⟩;rw[J]at r;show⟨F0,rfl,⟨_,SqL.of r.top⟩,?_⟩;have hrl:((List.range a.length).map λi=>V.ref (d i)).length=a.length:=by rw[List.length_map,List.length_range]
 refine CS (n:=a.length) (λD n y H=>Same H4 H/\SllW a.length H y) (λD R=>⟨AK R _,λv h=>nomatch h⟩) (λD n y H R S hy p=>⟨_,_,SqL.of (p.1 _ _ r.top),r.at S⟩) (λD y H R hy hyl p=>⟨⟨_,SqL.of (p.1 _ _ r.top),hrl.symm⟩,q D y H (s1.free (s2.free (r.sm.free R))) ((s1.trans s2).trans (r.sm.trans p.1)) hy p.2⟩) ?_;rintro D n y G x G3 R S hy hyl ⟨sG,hsl⟩ ⟨Tt,xx,hTt,B,rfl,rfl⟩;have B:=B _ (SqL.of (sG _ _ r.top));rw[r.at S]at B
 cases B
 have tT:=AK hTt (.tup [.int (n:Int), .ref (d n)]);have gTt:(upd G Tt (.tup [.int (n:Int), .ref (d n)])) Tt=some (.tup [.int (n:Int), .ref (d n)]):=AF;have L:=tT _ _ hy;have Y:=sG.trans tT;have I:=hsl.same tT;show EQ K 2 _ (.ref Tt) _ (upd G Tt (.tup [.int (n:Int), .ref (d n)])) _;generalize upd G Tt _=G4 at*
 have l:H4 (d n)=some (.lst (((List.range (2*4)).map (T4 n)).map V.int)):=by rw[r.row n S,Qb]
 have gc:a[n]? =some (a.getD n 0):=by rw[List.getD_eq_getElem?_getD,List.getElem?_eq_getElem S];rfl
 show⟨Tt,_,rfl,SqT.of gTt,rfl,?_⟩;show B1 (small (by lia)) (Ab gc) ?_;ext;have skip:∃m',m'<a.length-n/\CW D a.length (λn y H=>Same H4 H/\SllW a.length H y) (n+1) m' G4:=⟨a.length-(n+1),by lia,rfl,by lia,y,L,by lia,Y,I⟩
 by_cases Z:a.getD n 0=63
 ·refine ifp (by rw[Z];rfl) ?_;show HD (.inl (SqL.of (Y _ _ l))) rfl (Pz _) ?_;rw[Jj]
  by_cases M:(1:Int)∈(List.range (2*4)).map (T4 n)
  ·obtain⟨b,hb1,hb3⟩:=Jp M;have hb2:=(List.getElem?_eq_some_iff.mp hb1).1;rw[List.length_map,List.length_range]at hb2;rw[decide_eq_true M];show ifp rfl ?_;show⟨SqL.ty (SqL.of (Y _ _ l)),?_⟩;show Qa (j:=b) (Y _ _ l) hb1 hb3 (by rw[List.length_map,List.length_range];lia) ?_;show B1 (small (by decide)) (Ab (Ks (show b<8 by lia))) ?_;show⟨small (show 2<=1000 by decide),λT2 Q=>?_⟩;have t6:=AK Q (.tup [.int (n:Int),tx [brs.getD b 0]]);have g6:(upd G4 T2 (.tup [.int (n:Int),tx [brs.getD b 0]])) T2=some (.tup [.int (n:Int),tx [brs.getD b 0]]):=AF;have hy6:=t6 _ _ L;have nD:T2≠D:=λz=>by rw[z,L]at Q;cases Q
   refine⟨y,hy6,by rw[sizeLine_eq];lia,a.length-(n+1),by lia,rfl,by lia,_,AF,by rw[List.length_append,List.length_singleton];lia,λz o hz=>?_,λv hv=>?_⟩
   ·rw[AH (AM hz R)];exact t6 _ _ (Y _ _ hz)
   ·rcases List.mem_append.mp hv with z|z
    ·obtain⟨T',i,b',e,g,w⟩:=(I.same t6) v z;exact⟨T',i,b',e,by rw[AH (λc=>by rw[c,hy6]at g;cases g)];exact g,w⟩
    ·exact⟨T2,n,b,List.mem_singleton.mp z,by rw[AH nD];exact g6,S⟩
  ·rw[decide_eq_false M];show ifq rfl ?_;exact skip
 ·refine ifq (by simpa using Z) ?_;refine ifq rfl ?_;exact skip
def OU:FuV P w K mg base (k+1) "is_name" ["word"] (spIsName8):=FnA.u (T.f.at 39) (scN ["word"]) λnd _ _ _ _ _ H _ _ _ x h=>by
 obtain⟨a,rfl,M,q⟩:=h;have Q:=x.units0;unfold isNm at q;refine⟨_,(AE (AI (E8 (Ja CA CA AC (Aa K (T.N 7) (AA (pv 0) AB)) (AX (T.g.at 12))) (DD (Aj (Ds K rfl) rfl (T.N 1) PyProof.Rows.boot_all (AA (A1 (own:=["sign"]) (sel:=[]) (Ax (osc:=(AW (top 79))) (N:=["word"]) (by decide +kernel)) rfl (B8 (pv 0)) (λ_ _ _ _ _=>(Ah (i:=0) (show(["sign"]:List Str).Nodup from by decide +kernel) rfl (Or.inl rfl))) (Aq (by decide)) (λ_ _ _ _ _=>A2) (λ_ _ _ _ _=>(BD (Cp K) (pv 0) (AX (T.g.at 11)) (by with_unfolding_all rfl)))) AB)))))),?_⟩;show ifd (λy=>?_) (λy=>?_)
 ·show ifd (λB=>?_) (λB=>?_)
  ·show Ek (small (by lia)) (λD i p j=>p=((a.take i).map λc=>V.bl (decide (c∈ltr)))/\SameBut1 D H j) (λD l=>⟨rfl,SameBut1.of (AK l _)⟩) (λD p j l d ⟨e,r⟩=>?_) ?_
   ·rw[List.take_length]at e;subst e;have G:SqL K j D ((a.map λc=>decide (c∈ltr)).map V.bl):=by
     rw[List.map_map];exact SqL.of d
    show EJ G ?_;have I:((a.map λc=>decide (c∈ltr)).all id)=(decide (1<=a.length/\a.length<=8)&&a.all λc=>decide (c∈ltr)):=by
     rw[List.all_map,decide_eq_true (by lia),Bool.true_and];rfl
    rw[I];exact q j λb o z=>r b o z (AM z l)
   ·rintro D i c p j l J L d v ⟨e,r⟩;show DN ?_;show B6 L (small (by lia)) d v ⟨?_,r.trans SameBut1.upd⟩;rw[e,List.take_add_one,J];simp only[Option.toList_some,List.map_append,List.map_cons,List.map_nil]
    rfl
  ·have:=q H (Same.refl H);rw[decide_eq_false (by lia),Bool.false_and]at this;exact this
 ·have:=q H (Same.refl H);rw[decide_eq_false (by lia),Bool.false_and]at this;exact⟨false,rfl,this⟩
def NY:FuV P w K mg base (k+1) "is_number" ["word"] (spIsNumber8):=FnA.u (T.f.at 40) (scN ["word"]) λnd _ _ _ _ _ H _ Q _ J h=>by
 obtain⟨a,rfl,Z,q⟩:=h;have y:=J.units0;unfold BE at q;have l:¬ (1<=a.length/\a.length<=9)->Q (.bl false) H:=λz=>by
  have:=q H (Same.refl H);rw[decide_eq_false z,Bool.false_and,Bool.false_and]at this;exact this
 refine⟨_,(AD (AS (PW.pt (BZ (BB (Ee CA CA AC (Aa K (T.N 7) (AA (pv 0) AB)) (AX (T.g.at 14)))) (Bi (BB (Ar K (Aj (Ds K rfl) rfl (T.N 1) PyProof.Rows.boot_all (AA (A1 (own:=["sign"]) (sel:=[]) (Ax (osc:=(AW (top 80))) (N:=["word"]) (by decide +kernel)) rfl (B8 (pv 0)) (λ_ _ _ _ _=>(Ah (i:=0) (show(["sign"]:List Str).Nodup from by decide +kernel) rfl (Or.inl rfl))) (Aq (by decide)) (λ_ _ _ _ _=>A2) (λ_ _ _ _ _=>(BD (Cp K) (pv 0) (AX (T.g.at 13)) (by with_unfolding_all rfl)))) AB))))))) (AE (AI Bq)) AT) (AE (AI (HF (BD (Ad K y) (Aa K (T.N 7) (AA (pv 0) AB)) AC) (DD (BD (CU K y) (AG K (pv 0) AC) (pxt [48]))))))),?_⟩;show ifd (λL=>?_) (λL=>?_)
 ·ext
  by_cases B:(a.length:Int)<=9
  ·refine ifq (by rw[decide_eq_true B];rfl) ?_;show Ek (small (by lia)) (λD i r H'=>r=((a.take i).map λc=>V.bl (decide (c∈fig)))/\SameBut1 D H H') (λD p=>⟨rfl,SameBut1.of (AK p _)⟩) (λD r H' p j ⟨e,v⟩=>?_) ?_
   ·rw[List.take_length]at e;subst e;have M:SqL K H' D ((a.map λc=>decide (c∈fig)).map V.bl):=by
     rw[List.map_map];exact SqL.of j
    have R:Same H H':=λb o z=>v b o z (AM z p);have d:=q H' R;rw[decide_eq_true (show 1<=a.length/\a.length<=9 by lia),Bool.true_and]at d;show EJ M ?_;have S:((a.map λc=>decide (c∈fig)).all id)=(a.all λc=>decide (c∈fig)):=by
     rw[List.all_map];rfl
    rw[S];ext
    cases G:(a.all λc=>decide (c∈fig))with
    |false=>
     rw[G,Bool.false_and]at d;refine ifp rfl ?_;ext;exact d
    |true=>
     rw[G,Bool.true_and]at d;refine ifq rfl ?_;show ifd (λU=>?_) (λU=>?_)
     ·rw[decide_eq_true (show a.length=1 by lia),Bool.true_or]at d;exact d
     ·rw[decide_eq_false (show¬a.length=1 by lia),Bool.false_or]at d;have I:0<a.length:=by lia
      show B1 (c:=a[0]) (small (by lia)) (by rw[Jy I]) ?_;ext;have:(!decide ([a[0]]=[48]))= !decide (a[0]? =some 48):=by
       rw[List.getElem?_eq_getElem I];congr 1;exact decide_eq_decide.mpr ⟨λz=>by rw[(List.cons.inj z).1],λz=>by rw[Option.some.inj z]⟩
      rw[this];exact d
   ·rintro D i c r H' p X Y j x ⟨e,v⟩;show DN ?_;show B6 Y (small (by lia)) j x ⟨?_,v.trans SameBut1.upd⟩;rw[e,List.take_add_one,X];simp only[Option.toList_some,List.map_append,List.map_cons,List.map_nil]
    rfl
  ·refine ifp (by rw[decide_eq_false B];rfl) ?_;ext;exact l (by lia)
 ·ext;rw[if_pos (show(!false)=true from rfl),if_pos rfl];ext;exact l (by lia)
def Ny:FuV P w K mg base (k+2) "has_form" ["word","part"] (spHasForm8):=FnA.u (T.f.at 41) (scN ["word","part"]) λnd _ _ _ _ _ H _ _ _ b h=>by
 obtain⟨a,p,rfl,i,q⟩:=h;have j:=b.units0;unfold Ba at q;refine⟨_,(AD (AS (AR (Ad K j) (pv 1) (pxt [108,105,110,101])) (AE (AI Bq)) AT) (AE (AI (BU (AR (Ad K j) (pv 1) (pxt [110,117,109,98,101,114])) (AN (NY T) b (AA (pv 0) AB)) (AN (OU T) b (AA (pv 0) AB)))))),?_⟩;show ifd (λd=>?_) (λd=>?_)
 ·rw[if_pos d]at q;ext;exact q H (Same.refl H)
 ·rw[if_neg d]at q;show ifd (λe=>?_) (λe=>?_)
  ·rw[if_pos e]at q;ext;exact⟨a,rfl,i,q⟩
  ·rw[if_neg e]at q;ext;exact⟨a,rfl,i,q⟩
def PR:FuV P w K mg base (k+1) "parted" ["text","form"] (spParted8 K):=FnA.u (T.f.at 42) (scN ["text","form"]) λnd _ _ _ _ _ H _ _ _ i h=>by
 obtain⟨l,t,a,rfl,j,r,v,q⟩:=h;have y:=i.units0;have ht:SqT K H t (a.map tx):=j.sq;have d:(a.map tx).all Ay=true:=by rw[List.all_map,List.all_eq_true];intro x _;rfl
 refine⟨_,(AE (AI (BU (AR (Cp K) (pxt [108,105,110,101]) (pv 1) (by with_unfolding_all rfl)) (Av K PySem.F.plainAttrs_str PySem.F.slot_str_split PySem.F.type_str_split F6 (pv 0) (AA (pxt [32]) (AA (Aa K (T.N 7) (AA (pv 1) AB)) AB))) (Av K PySem.F.plainAttrs_str PySem.F.slot_str_split PySem.F.type_str_split F6 (pv 0) (AA (pxt [32]) AB))))),?_⟩;show HD (.inr ht) rfl d ?_;have o:inV (tx CG) (a.map tx)=decide (CG∈a):=by
  exact LI CG a
 rw[o];show ifd (λe=>?_) (λe=>?_)
 ·show A7 (.inr ht) ?_;rw[List.length_map];show QW (by lia) (by lia) (by lia) (λp b=>?_);rw[Int.toNat_natCast];refine q p _ b (AK b _) ?_;unfold wds;rw[if_pos e];exact AF
 ·show KH (by lia) (λp b=>?_);refine q p _ b (AK b _) ?_;unfold wds;rw[if_neg e];exact AF
def M7:FuV P w K mg base (k+3) "known_words" ["thing"] (QS K):=FnA.u (T.f.at 43) (scN ["thing","first","form","words"]) λnd _ _ _ _ _ H vs Q _ Z h=>by
 have hu:=Z.units0;obtain⟨FK,L,hF,hN⟩:=T.F;have h9:∃v,vs=[v]/\((∃l,v=tx l/\l.length<=1000/\(∀d ar,knw l=some (d,ar)->∀p H',H p=none->Same H H'->H' p=some (.lst ((d.word::ar).map tx))->Q (.ref p) H')/\(knw l=none->∀H',Same H H'->Q .non H'))\/((∃ty,TyOf K H v (.type ty)/\ty∈Bf/\ty≠"str")/\Q .non H)):=by
  rcases h with⟨l,d,ar,rfl,hl,hk,q⟩|⟨v,rfl,⟨l,rfl,hl,hk⟩|hty,q⟩
  ·exact⟨_,rfl, .inl ⟨l,rfl,hl,λd' ar' e=>(by rw[hk]at e;cases e;exact q),λe=>(by rw[hk]at e;cases e)⟩⟩
  ·exact⟨_,rfl, .inl ⟨l,rfl,hl,λd' ar' e=>(by rw[hk]at e;cases e),λ_=>q⟩⟩
  ·exact⟨_,rfl, .inr ⟨hty,q H (Same.refl H)⟩⟩
 obtain⟨v,e0,h8⟩:=h9;clear h;subst e0;refine⟨_,(AD (AS (BB (Ar K (Aj (Cz K) rfl (T.N 6) PyProof.Rows.boot_isinstance (AA (pv 0) (AA (DH (T.N 14) PyProof.Rows.boot_str) AB))))) (AE (AI Ao)) AT) (AD (AO 1 (AG K (Av K PySem.F.plainAttrs_str PySem.F.slot_str_partition PySem.F.type_str_partition Kg (pv 0) (AA (pxt [32]) AB)) AC)) (AD (AS (K5 (ON P w K (pv 1) (AX (T.g.at 15))) (by with_unfolding_all rfl)) (AE (AI Ao)) AT) (AD (AO 2 (Gn P w K (AX (T.g.at 15)) (pv 1))) (AD (AO 3 (AN (PR T) Z (AA (pv 0) (AA (pv 2) AB)))) (AD (AS (AR (CU K hu) (Aa K (T.N 7) (AA (pv 3) AB)) (AJ AQ (Aa K (T.N 7) (AA (pv 2) AB)) AC)) (AE (AI Ao)) AT) (AE (AI (BU (Ar K (Aj (Ds K rfl) rfl (T.N 1) PyProof.Rows.boot_all (AA (A1 (own:=["word","part"]) (sel:=[]) (Ax (osc:=(AW (top 83))) (N:=["thing","first","form","words"]) (by decide +kernel)) rfl (KU K rfl (T.N 16) (AA (BS (Bc K) (pv 3) (BV AC) BW) (AA (pv 2) AB))) (λ_ _ _ _ _=>(CP (n:=2) K rfl (A0 (Ah (i:=0) (show(["word","part"]:List Str).Nodup from by decide +kernel) rfl (Or.inl rfl)) (A0 (Ah (i:=1) (show(["word","part"]:List Str).Nodup from by decide +kernel) rfl (Or.inl rfl)) CF)))) (E9 (Cj Bw (Ew Bw Cr) (Aq (by decide)) (Cj Bw Cr (Aq (by decide)) FA))) (λ_ _ _ _ _=>A2) (λ_ _ _ _ _=>(AN (Ny T) Z (AA (pv 0) (AA (pv 1) AB))))) AB))) (pv 3) Ao))))))))),?_⟩;ext;rcases h8 with⟨l,rfl,hsz,q,q0⟩|⟨⟨ty,M,hp,hs⟩,q⟩
 rotate_left
 ·refine BP (b:=false) M (by
   have:ty="NoneType"\/ty="bool"\/ty="int"\/ty="str"\/ty="list"\/ty="tuple"\/ty="dict":=by simpa[Bf]using hp
   rcases this with rfl|rfl|rfl|rfl|rfl|rfl|rfl<;>first|exact absurd rfl hs|with_unfolding_all rfl) ?_
  show ifp rfl ?_;ext;exact q
 refine BP (b:=true) (TyOf.str _) (by with_unfolding_all rfl) ?_;show ifq rfl ?_;show KI (by lia) (Ea l) (λp v u hp=>?_);ext;have I:=AK hp (.tup [tx (BA l),v,u]);refine A5 (SqT.of AF) rfl ?_;generalize upd H p _=H1 at*
 show⟨aF,FK,kyT (BA l),rfl,L,rfl,?_⟩;ext
 cases S:D15.of (BA l)with
 |none=>
  refine ifp (by rw[hN _ S];rfl) ?_;ext;exact q0 (by unfold knw;rw[S]) H1 I
 |some d=>
 have ew:=GR S;obtain⟨t,hv,M⟩:=hF d;rw[ew]at hv;refine ifq (by rw[hv];rfl) ?_;show⟨aF,FK,kyT (BA l),_,rfl,L,rfl,hv,?_⟩;ext;have hln:=d.len;refine⟨l,t,d.form,rfl,M,by lia,hsz,λp2 H2 hp2 U j=>?_⟩;have ek:knw l=if(wds l d.form).tail.length=d.form.length/\(((wds l d.form).tail).zip d.form).all (λx=>Ba x.1 x.2)=true then some (d,(wds l d.form).tail)else none:=by
  show(match D15.of (BA l)with|none=>none|some d=>_)=_;rw[S]
 have hwl:(wds l d.form).tail.length<=1001:=by
  have:(wds l d.form).length<=l.length+1:=by unfold wds;split<;>exact DS _ _ _
  rw[List.length_tail];lia
 have hea:∀a∈(wds l d.form).tail,a.length<=1000:=λa X=>Nat.le_trans (JI (List.mem_of_mem_tail X)) hsz;rw[JJ]at j;rw[<-ew]at j;generalize(wds l d.form).tail=args at*
 show A7 (.inl (SqL.of j)) ?_;show A7 (.inr M.sq) ?_;ext
 by_cases r:args.length=d.form.length
 rotate_left
 ·refine ifp (by rw[decide_eq_false];rfl;simp only[List.length_map,List.length_cons];lia) ?_;ext;exact q0 (by rw[ek,if_neg (λz=>r z.1)]) H2 (I.trans U)
 refine ifq (by rw[decide_eq_true];rfl;simp only[List.length_map,List.length_cons];lia) ?_;show HB (SqL.of j) (λz hz=>?_);have ez:DO ((d.word::args).map tx) (some 1) none=args.map tx:=Ju _ _;rw[ez];have s3:=AK hz (.lst (args.map tx));have B:(upd H2 z (.lst (args.map tx))) z=some (.lst (args.map tx)):=AF;have hz2:H z=none:=I.free (U.free hz);generalize upd H2 z _=H3 at*
 have hl3:=s3 _ _ j;show⟨z,t,_,_,rfl,B,M,?_⟩;refine P6 (by rw[List.length_map,List.length_map];lia) (λD i Y H'=>Y=(((args.zip d.form).take i).map λx=>Ba x.1 x.2).map V.bl/\SameBut1 D H3 H') (λD i Y H' J ⟨_,R⟩=>R _ _ B (AM B J)) (λD J=>⟨rfl,SameBut1.of (AK J _)⟩) (λD Y H' J G ⟨e,R⟩=>?_) ?_
 ·have e0:(args.zip d.form).take ((args.map tx).length)=args.zip d.form:=List.take_of_length_le (by rw[List.length_zip,List.length_map];lia);rw[e0]at e;subst e;show EJ (SqL.of G) ?_;have e2:(((args.zip d.form).map λx=>Ba x.1 x.2).all id)=(args.zip d.form).all λx=>Ba x.1 x.2:=by rw[List.all_map];rfl
  rw[e2];have sG:Same H3 H':=λb o y=>R b o y (AM y J);ext
  cases e3:(args.zip d.form).all λx=>Ba x.1 x.2 with
  |true=>
   refine ifp rfl ?_;ext;exact q d args (by rw[ek,if_pos ⟨r,e3⟩]) p2 H' (I.free hp2) (((I.trans U).trans s3).trans sG) (sG _ _ hl3)
  |false=>
   refine ifq rfl ?_;ext;exact q0 (by rw[ek,if_neg (λz=>by rw[e3]at z;cases z.2)]) H' (((I.trans U).trans s3).trans sG)
 ·rintro D i c dv T' Y H4 H5 J hc hdv hi G hl' ⟨e,R⟩ s5 hT';obtain⟨a,X,rfl⟩:∃a,args[i]? =some a/\tx a=c:=by
   rw[List.getElem?_map]at hc;obtain⟨a,h1,h2⟩:=Option.map_eq_some_iff.mp hc;exact⟨a,h1,h2⟩
  obtain⟨pp,hpp,rfl⟩:∃a,d.form[i]? =some a/\tx a=dv:=by
   rw[List.getElem?_map]at hdv;obtain⟨a,h1,h2⟩:=Option.map_eq_some_iff.mp hdv;exact⟨a,h1,h2⟩
  refine E5 (SqT.of hT') rfl ?_;show DN ?_;show⟨a,pp,rfl,hea a (List.mem_of_getElem? X),λH6 s6=>?_⟩;refine B6 hi (small (by rw[List.length_map];lia)) (s6 _ _ G) hl' ⟨?_,?_⟩
  ·have ez2:(args.zip d.form)[i]? =some (a,pp):=by rw[List.getElem?_zip_eq_some];exact⟨X,hpp⟩
   rw[e,List.take_add_one,ez2];simp only[Option.toList_some,List.map_append,List.map_cons,List.map_nil]
  ·exact((R.trans (SameBut1.of (s5.trans s6))).trans SameBut1.upd)
def Hl:FuV P w K mg base (k+1) "yes_or_no" ["truth"] (spYesNo):=FnA.u (T.f.at 44) (scN ["truth"]) λnd _ _ _ _ _ _ _ _ _ _ h=>by
 obtain⟨b,rfl,q⟩:=h;refine⟨_,(AE (AI (BU (Ar K (pv 0)) (pxt [121,101,115]) (pxt [110,111])))),?_⟩;ext
 cases b with
 |true=>
  refine ifp rfl ?_;ext;exact q
 |false=>
  refine ifq rfl ?_;ext;exact q
def Eg:FuV P w K mg base (k+1) "shown" ["row"] (spShown):=FnA.u (T.f.at 45) (scN ["row"]) λnd _ _ _ _ _ _ _ _ _ b h=>by
 obtain⟨a,rfl,d,q⟩:=h;have i:=b.units0;refine⟨_,(AE (AI (BU (Ar K (pv 0)) (pv 0) (AX (T.g.at 9))))),?_⟩;show TY (small d) ?_
 by_cases e:a=[]
 ·rw[decide_eq_true e];refine ifq rfl ?_;ext;rw[shw,if_pos e]at q;exact q
 ·rw[decide_eq_false e];refine ifp rfl ?_;ext;rw[shw,if_neg e]at q;exact q
def NT:Af P w K mg base (k+3) "say_kinds" ["desk","words"] (spSayKinds cs aE):=FnA.uE (T.f.at 46) (scN ["desk","words","k"]) λnd _ _ _ _ _ H _ _ _ b h=>by
 have x:=b.units0;have j:=Au b;refine⟨_,(AD (AO 2 (B5 JA rfl (T.N 5) PyProof.Rows.boot_int (AA (AG K (pv 1) AC) AB))) (AD (Am (Ak (Hf T) b Bj (AA (pv 2) AB))) (AD (CO K (pv 0) (pv 2)) (AD (CO K (pv 0) F3) (AE (AI (AX (T.g.at 8)))))))),?_⟩;obtain⟨d,ws,r,k,y,n,rfl,hd,v,I,h⟩:=h;have x:=b.units0;have j:=Au b;obtain⟨⟨l,o⟩,J⟩:=id hd;have B:=hd.ne;rcases h with⟨n1,n4,q⟩|⟨hn',rf⟩
 ·show AL (SqL.of v) rfl ?_;show Gj (by lia) ?_;show .inl (Ii (by lia) (by lia) ?_);show⟨d,aE,l,_,rfl,o,T.E.cl,(T.E.at 0),by show 2<1000;decide,?_⟩;ext;intro r' a;ext;have p:H r'=none:=by
   by_cases z:r'=d
   ·subst z;rw[AF]at a;cases a
   ·rwa[AH z]at a
  have e:d≠r':=λz=>by rw[z,p]at o;cases o
  refine⟨d,aE,l,_,rfl,by rw[AH e];exact AF,T.E.cl,(T.E.at 1),by show 2<1000;decide,?_⟩;show q r' _ p (((FB.refl _ _).atU (by simp)).new p|>.atU (by simp)) ⟨⟨l,?_⟩,?_⟩
  ·rw[AF];rfl
  ·rw[AH e.symm];exact AF
 ·show AL (SqL.of v) rfl ?_;show Gj (by lia) ?_;ext;exact .inr ⟨_,rfl,⟨"int",TyOf.int _,by decide,λi G=>by cases G;lia⟩,rf.pass (Same.refl H)⟩
def OP:Af P w K mg base (k+5) "say_row" ["desk","words"] (spSayRow8 cs aE):=FnA.uE (T.f.at 47) (scN ["desk","words"]) λnd _ _ _ _ _ H _ _ _ e h=>by
 have p:=e.units0;have i:=Au e;refine⟨_,(AD (Am (Ak (B3 T) e Bj (AA (AU K (pv 0)) (AA (AG K (pv 1) AC) AB)))) (AD (GN i (AU K (pv 0)) (AG K (pv 1) AC) (AG K (pv 1) AC) rfl) (AE (AI (AX (T.g.at 8)))))),?_⟩;obtain⟨d,ws,r,k,v,x,a,rfl,hd,k1,k4,B,j,G,h⟩:=h;have p:=e.units0;have i:=Au e;obtain⟨⟨y,l⟩,z⟩:=id hd;have o:=hd.ne;rcases h with⟨hro,q⟩|⟨hro,rf⟩
 ·show T.E.fl 0 l ?_;show AL (SqL.of j) rfl ?_;show .inl (B4 k1 k4 hro (λI b=>?_));show AL (SqL.of (b _ _ j)) rfl ?_;show T.E.fl 1 (b _ _ l) ?_;show AL (SqL.of (b _ _ j)) rfl ?_;show⟨r,_,rfl,DPut.k (k:=kyT x) (b _ _ z) (by rw[sizeLine_eq];lia),?_⟩;ext;exact q _ (((FB.refl _ _).s b).atU (by simp)) ⟨⟨y,by rw[AH o];exact b _ _ l⟩,AF⟩
 ·show T.E.fl 0 l ?_;show AL (SqL.of j) rfl ?_;ext;exact .inr ⟨_,_,rfl, .inr ⟨k,rfl,k1,k4, .inl ⟨a,rfl,by lia,hro⟩,rf.pass (Same.refl H)⟩⟩
def Nn:Af P w K mg base (k+6) "say_turn" ["desk","words"] (spSayTurn aE):=FnA.uE (T.f.at 48) (scN ["desk","words"]) λnd _ _ _ _ _ _ _ _ _ j h=>by
 obtain⟨d,ws,r,k,v,x,one,a,rfl,hd,k1,k4,G,o,y,z,q⟩:=h;have H:=j.units0;have b:=Au j;obtain⟨⟨B,i⟩,p⟩:=id hd;have l:=hd.ne;refine BC ⟨_,(AD (GN b (AU K (pv 0)) (AG K (pv 1) AC) (Ak (PQ T) j A9 (AA (AU K (pv 0)) (AA (Bp b (AU K (pv 0)) (AG K (pv 1) AC)) AB))) rfl) (AE (AI (AX (T.g.at 8))))),?_⟩;show T.E.fl 0 i ?_;show T.E.fl 1 i ?_;show AL (SqL.of o) rfl ?_;show⟨r,_,rfl,by rw[<-y];exact DGet.k (k:=kyT one) p,?_⟩;show N9 k1 k4 z (λI e=>?_);show T.E.fl 1 (e _ _ i) ?_;show AL (SqL.of (e _ _ o)) rfl ?_;show⟨r,_,rfl,DPut.k (k:=kyT x) (e _ _ p) (by rw[sizeLine_eq];lia),?_⟩;ext;exact q _ (((FB.refl _ _).s e).atU (by simp)) ⟨⟨B,by rw[AH l];exact e _ _ i⟩,AF⟩
def NH:Af P w K mg base (k+5) "say_behind" ["desk","words"] (spSayBehind cs aE):=FnA.uE (T.f.at 49) (scN ["desk","words","both"]) λnd _ _ _ _ _ H _ _ _ j h=>by
 have z:=j.units0;have e:=Au j;refine⟨_,(AD (AO 2 (AJ AQ (Bp e (AU K (pv 0)) (AG K (pv 1) AC)) (Bp e (AU K (pv 0)) (AG K (pv 1) AC)))) (AD (Am (Ak (B3 T) j Bj (AA (AU K (pv 0)) (AA (pv 2) AB)))) (AD (GN e (AU K (pv 0)) (AG K (pv 1) AC) (pv 2) rfl) (AE (AI (AX (T.g.at 8))))))),?_⟩;obtain⟨d,ws,r,k,B,G,one,two,a,b,rfl,hd,k1,k4,J,l,y,o,L,M,h⟩:=h;have z:=j.units0;have e:=Au j;obtain⟨⟨I,i⟩,p⟩:=id hd;have x:=hd.ne;have Q:(a++b).length<=80:=by rw[List.length_append];lia
 rcases h with⟨hro,q⟩|⟨hro,rf⟩
 ·show T.E.fl 1 i ?_;show AL (SqL.of l) rfl ?_;show⟨r,_,rfl,by rw[<-y];exact DGet.k (k:=kyT one) p,?_⟩;show T.E.fl 1 i ?_;show AL (SqL.of l) rfl ?_;show⟨r,_,rfl,by rw[<-o];exact DGet.k (k:=kyT two) p,?_⟩;show T.E.fl 0 i ?_;show .inl (B4 k1 k4 hro (λR v=>?_));show T.E.fl 1 (v _ _ i) ?_;show AL (SqL.of (v _ _ l)) rfl ?_;show⟨r,_,rfl,DPut.k (k:=kyT G) (v _ _ p) (by rw[sizeLine_eq];lia),?_⟩;ext;exact q _ (((FB.refl _ _).s v).atU (by simp)) ⟨⟨I,by rw[AH x];exact v _ _ i⟩,AF⟩
 ·show T.E.fl 1 i ?_;show AL (SqL.of l) rfl ?_;show⟨r,_,rfl,by rw[<-y];exact DGet.k (k:=kyT one) p,?_⟩;show T.E.fl 1 i ?_;show AL (SqL.of l) rfl ?_;show⟨r,_,rfl,by rw[<-o];exact DGet.k (k:=kyT two) p,?_⟩;show T.E.fl 0 i ?_;ext;exact .inr ⟨_,_,rfl, .inr ⟨k,rfl,k1,k4, .inl ⟨a++b,rfl,by lia,hro⟩,rf.pass (Same.refl H)⟩⟩
def Nu:Af P w K mg base (k+1) "say_drop" ["desk","words"] (spSayDrop aE):=FnA.uE (T.f.at 50) (scN ["desk","words"]) λnd _ _ _ _ _ _ _ _ _ e h=>by
 obtain⟨d,ws,r,k,a,one,v,rfl,hd,l,o,q⟩:=h;have y:=e.units0;have p:=Au e;obtain⟨⟨x,i⟩,j⟩:=id hd;have b:=hd.ne;refine BC ⟨_,(AD (Am (Qs (AU K (pv 0)) (AG K (pv 1) AC) ⟨rfl,rfl,rfl,rfl⟩)) (AE (AI (AX (T.g.at 8))))),?_⟩;show T.E.fl 1 i ?_;refine⟨r,rfl, .inl ⟨a, .inl j⟩,?_⟩;show AL (SqL.of l) rfl ?_;refine⟨a,kyT one,v,j,rfl,o,?_⟩;ext;exact q _ ((FB.refl _ _).atU (by simp)) ⟨⟨x,by rw[AH b];exact i⟩,AF⟩
def Nq:Af P w K mg base (k+2) "say_show" ["desk","words"] (spSayShow aE):=FnA.uE (T.f.at 51) (scN ["desk","words"]) λnd _ _ _ _ _ H _ _ _ b h=>by
 obtain⟨d,ws,r,k,i,one,a,rfl,hd,j,l,o,q⟩:=h;have y:=b.units0;have e:=Au b;obtain⟨⟨z,p⟩,v⟩:=id hd;have x:=hd.ne;refine BC ⟨_,(AE (AI (AN (Eg T) b (AA (Bp e (AU K (pv 0)) (AG K (pv 1) AC)) AB)))),?_⟩;show T.E.fl 1 p ?_;show AL (SqL.of j) rfl ?_;show⟨r,_,rfl,by rw[<-l];exact DGet.k (k:=kyT one) v,?_⟩;ext;exact⟨a,rfl,o,q H (Same.refl H)⟩
def NR:Af P w K mg base (k+6) "say_right" ["desk","words"] (spSayRight aE):=FnA.uE (T.f.at 52) (scN ["desk","words"]) λnd _ _ _ _ _ _ _ _ _ b h=>by
 obtain⟨d,ws,r,z,j,one,a,h,q⟩:=h;obtain⟨rfl,hd,k1,k4,l,o,p,B⟩:=h;have G:=b.units0;have e:=Au b;obtain⟨⟨H,i⟩,v⟩:=id hd;refine BC ⟨_,(AE (AI (AN (Hl T) b (AA (Ak (Ht T) b A9 (AA (AU K (pv 0)) (AA (Bp e (AU K (pv 0)) (AG K (pv 1) AC)) AB))) AB)))),?_⟩;show T.E.fl 0 i ?_;show T.E.fl 1 i ?_;show AL (SqL.of l) rfl ?_;show⟨r,_,rfl,by rw[<-o];exact DGet.k (k:=kyT one) v,?_⟩;show .inl (IH k1 k4 p (λx y=>?_));ext;exact⟨_,rfl,q x y⟩
def OS:Af P w K mg base (k+7) "say_may" ["desk","words"] (spSayMay aE):=FnA.uE (T.f.at 53) (scN ["desk","words"]) λnd _ _ _ _ _ _ _ _ _ e h=>by
 obtain⟨d,ws,r,B,l,one,a,h,q⟩:=h;obtain⟨rfl,hd,k1,k4,o,p,G,rfl,v⟩:=h;have H:=e.units0;have i:=Au e;obtain⟨⟨I,j⟩,x⟩:=id hd;refine BC ⟨_,(AE (AI (AN (Hl T) e (AA (Ak (NW T) e A9 (AA (AU K (pv 0)) (AA (Bp i (AU K (pv 0)) (AG K (pv 1) AC)) AB))) AB)))),?_⟩;show T.E.fl 0 j ?_;show T.E.fl 1 j ?_;show AL (SqL.of o) rfl ?_;show⟨r,_,rfl,by rw[<-p];exact DGet.k (k:=kyT one) x,?_⟩;show⟨a,rfl,v,λb y z=>?_⟩;ext;exact⟨_,rfl,q b y z⟩
def Nt:Af P w K mg base (k+6) "say_many" ["desk","words"] (spSayMany aE):=FnA.uE (T.f.at 54) (scN ["desk","words"]) λnd _ _ _ _ _ _ _ _ _ b h=>by
 obtain⟨d,ws,r,z,j,one,a,h,q⟩:=h;obtain⟨rfl,hd,k1,k4,l,o,B,rfl,p⟩:=h;have G:=b.units0;have e:=Au b;obtain⟨⟨H,i⟩,v⟩:=id hd;refine BC ⟨_,(AE (AI (B5 Fs rfl (T.N 14) PyProof.Rows.boot_str (AA (Ak (Nx T) b A9 (AA (AU K (pv 0)) (AA (Bp e (AU K (pv 0)) (AG K (pv 1) AC)) AB))) AB)))),?_⟩;show T.E.fl 0 i ?_;show T.E.fl 1 i ?_;show AL (SqL.of l) rfl ?_;show⟨r,_,rfl,by rw[<-o];exact DGet.k (k:=kyT one) v,?_⟩;show⟨a,rfl,p,λx y=>?_⟩;ext;exact Gh (n:=1) (by decide +kernel) (q x y)
def OQ:Af P w K mg base (k+6) "say_nth" ["desk","words"] (spSayNth cs aE):=FnA.uE (T.f.at 55) (scN ["desk","words"]) λnd _ _ _ _ _ H _ _ _ b h=>by
 obtain⟨d,ws,r,G,o,one,a,n,h,I,q⟩:=h;obtain⟨rfl,hd,k1,k4,i,p,v,rfl,j⟩:=h;have J:=b.units0;have e:=Au b;obtain⟨⟨L,l⟩,x⟩:=id hd;refine⟨_,(AE (AI (AN (Eg T) b (AA (Ak (M5 T) b Bj (AA (AU K (pv 0)) (AA (Bp e (AU K (pv 0)) (AG K (pv 1) AC)) (AA (B5 JA rfl (T.N 5) PyProof.Rows.boot_int (AA (AG K (pv 1) AC) AB)) AB)))) AB)))),?_⟩;show T.E.fl 0 l ?_;show T.E.fl 1 l ?_;show AL (SqL.of (i)) rfl ?_;show⟨r,_,rfl,by rw[<-p];exact DGet.k (k:=kyT one) (x),?_⟩;show AL (SqL.of i) rfl ?_;show Gj (by lia) ?_;ext;have M:=BH v;rcases q with⟨rfl,q⟩|⟨hc,rf⟩
 ·refine⟨a,_,rfl,j,by decide, .inl ⟨rfl,λbs y z B=>?_⟩⟩;ext;exact⟨_,rfl,by unfold brt;rw[List.length_map];lia,q bs y z B⟩
 ·exact⟨a,_,rfl,j,by lia, .inr ⟨by lia,rf.pass (Same.refl H)⟩⟩
def NF:Af P w K mg base (k+8) "say_number" ["desk","words"] (spSayNumber cs aE):=FnA.uE (T.f.at 56) (scN ["desk","words"]) λnd _ _ _ _ _ H _ _ _ j h=>by
 obtain⟨d,ws,r,M,y,one,a,b,h,v,q⟩:=h;obtain⟨rfl,hd,k1,k4,l,B,G,rfl,x⟩:=h;have Q:=j.units0;have o:=Au j;obtain⟨⟨R,p⟩,I⟩:=id hd;refine⟨_,(AD (Am (Ak (B3 T) j Bj (AA (AU K (pv 0)) (AA (AG K (pv 1) AC) AB)))) (AE (AI (B5 Fs rfl (T.N 14) PyProof.Rows.boot_str (AA (Ak (NV T) j Bj (AA (AU K (pv 0)) (AA (Bp o (AU K (pv 0)) (AG K (pv 1) AC)) (AA (AG K (pv 1) AC) AB)))) AB))))),?_⟩;show T.E.fl 0 p ?_;show AL (SqL.of l) rfl ?_;ext;rcases q with⟨e,rf⟩|q
 ·exact .inr ⟨_,_,rfl, .inr ⟨4,rfl,k1,k4, .inl ⟨b,rfl,by lia,e⟩,rf.pass (Same.refl H)⟩⟩
 have e:AZ 4 b=true:=by rcases q with⟨z,_⟩|⟨z,_⟩<;>exact z
 refine .inl (B4 k1 k4 e (λS i=>?_));show T.E.fl 0 (i _ _ p) ?_;show T.E.fl 1 (i _ _ p) ?_;show AL (SqL.of (i _ _ l)) rfl ?_;show⟨r,_,rfl,by rw[<-B];exact DGet.k (k:=kyT one) (i _ _ I),?_⟩;show AL (SqL.of (i _ _ l)) rfl ?_;ext;have U:=BH G;rcases q with⟨_,hf,rf⟩|⟨_,hf,q⟩
 ·exact⟨a,b,rfl,x,v, .inr ⟨hf,rf.pass i⟩⟩
 ·refine⟨a,b,rfl,x,v, .inl ⟨hf,λJ L=>?_⟩⟩;ext;exact Gh (n:=0) (by decide +kernel) (q J (i.trans L))
def Np:Af P w K mg base (k+6) "say_sure" ["desk","words"] (spSaySure cs aE):=FnA.uE (T.f.at 57) (scN ["desk","words","row","signs","at","bracket"]) λnd _ _ _ _ _ H vs _ _ G h=>by
 obtain⟨d,ws,r,kk,kvs,one,a,h,q⟩:=h;obtain⟨rfl,hd,k1,k4,hw,hv,ha,rfl,tw⟩:=h;have hu:=G.units0;have I:=Au G;obtain⟨⟨dx,U⟩,e2⟩:=id hd;have hl:=BH ha;refine⟨_,(AD (AO 2 (Bp I (AU K (pv 0)) (AG K (pv 1) AC))) (AD (AO 3 (B5 (Ol K rfl) rfl (T.N 8) PyProof.Rows.boot_list (AA (pv 2) AB))) (AD (A8 PassesOwn.leaving rfl (C7 K (Ak (M3 T) G Bj (AA (AU K (pv 0)) (AA (pv 2) AB)))) (CP (n:=2) K rfl (A0 (Ap 4) (A0 (Ap 5) CF))) (AE (B7 (pv 5) (CT (pv 3) (pv 4) Be)))) (AE (AI (AN (Eg T) G (AA (Av K PySem.F.plainAttrs_str PySem.F.slot_str_join PySem.F.type_str_join (GT K) (pxt []) (AA (pv 3) AB)) AB))))))),?_⟩;show T.E.fl 1 U ?_;show AL (SqL.of hw) rfl ?_;show⟨r,_,rfl,by rw[<-hv];exact DGet.k (k:=kyT one) e2,?_⟩;show Ri (by lia) (λsg v=>?_);have X:=AK v (.lst ((a.map λc=>[c]).map tx));have Y:(upd H sg (.lst ((a.map λc=>[c]).map tx))) sg=some (.lst ((a.map λc=>[c]).map tx)):=AF;generalize upd H sg _=H1 at*
 show T.E.fl 0 (X _ _ U) ?_;show⟨a,rfl,tw,λD vs H2 Z s2 B hS=>?_⟩;have h2:=s2 _ _ Y;have J:D≠sg:=λz=>by rw[z,Y]at Z;cases Z
 show⟨D,rfl,⟨_,SqL.of B⟩,?_⟩;refine F9 (xs:=vs) (λi σ l=>∃L M t,σ=[some (.ref d),some (.ref ws),some (tx a),some (.ref sg),L,M]/\SameBut1 sg H2 l/\SgW a t/\l sg=some (.lst ((t.map λc=>[c]).map tx))) ⟨_,_,a,rfl,SameBut1.of (Same.refl _),⟨rfl,λc hc=> .inl hc⟩,h2⟩ (λi σ l _ ⟨_,_,_,_,p,_⟩=>SqL.of (p _ _ B J)) ?_ ?_
 ·intro i x σ l hx Q;obtain⟨L,M,t,rfl,p,ht,hg⟩:=Q;obtain⟨T1,y,b,rfl,e,R⟩:=hS x (List.mem_of_getElem? hx);have S:T1≠sg:=λz=>by rw[z,h2]at e;cases e
  show⟨T1,_,rfl,SqT.of (p _ _ e S),rfl,?_⟩;show Bh hg (j:=y) (Bn (by rw[List.length_map,List.length_map,ht.1];exact R)) ?_;show⟨_,_,_,rfl,p.trans SameBut1.upd,ht.set y b,?_⟩;rw[AF,List.map_set,List.map_set]
 ·intro σ l Q;obtain⟨L,M,t,rfl,p,ht,hg⟩:=Q;have hl2:=ht.1;show Gi (SqL.of hg) (by rw[Fp,List.length_map];lia) ?_;rw[Fp];ext;exact⟨_,rfl,by lia,q t l (λb o z=>p b o (s2 _ _ (X _ _ z)) (AM z v)) ht⟩
def NG:Af P w K mg base (k+6) "say_fewest" ["desk","words"] (spSayFewest aE):=FnA.uE (T.f.at 58) (scN ["desk","words","found"]) λnd _ _ _ _ _ _ _ _ _ j h=>by
 obtain⟨d,ws,r,I,J,one,a,h,p,q⟩:=h;obtain⟨rfl,hd,k1,k4,L,M,z,Z⟩:=h;have hu:=j.units0;have x:=Au j;obtain⟨⟨dx,B⟩,Q⟩:=id hd;have hl:=BH z;refine BC ⟨_,(AD (AO 2 (Ak (Mq T) j A9 (AA (AU K (pv 0)) (AA (Bp x (AU K (pv 0)) (AG K (pv 1) AC)) AB)))) (AE (AI (BU (AR Bo (pv 2) Ao) (AX (T.g.at 9)) (Qr (LA (AG K (pv 2) AC)) (pxt [32]) (LA (AN (Eg T) j (AA (AG K (pv 2) AC) AB)))))))),?_⟩;show T.E.fl 0 B ?_;show T.E.fl 1 B ?_;show AL (SqL.of (L)) rfl ?_;show⟨r,_,rfl,by rw[<-M];exact DGet.k (k:=kyT one) (Q),?_⟩;show⟨I,a,rfl,k1,k4,z,p,λv o R S y b=>?_⟩;have G:=q o R S λw l e=>(b w l e).1;ext
 match o,y,b with
 |none,y,b=>
  cases(show v= .non from y)
  refine ifp rfl ?_;ext;exact G
 |some (w,l),⟨T1,U,H⟩,b=>
  subst U;have i:l.length=a.length:=(b w l rfl).1;have X:(brx l).length=a.length:=by unfold brx;rw[List.length_map];exact i
  refine ifq rfl ?_;ext;have Y:=Gw a l;refine A5 (SqT.of H) rfl ?_;refine .inl ⟨chg a l,rfl,Nat.lt_of_le_of_lt (show chg a l<=40 by lia) (by decide +kernel),_,rfl,?_,?_⟩
  ·exact Nat.le_trans (F4 8 _ (by lia)) (by lia)
  show⟨_,rfl,by decide,?_⟩;show A5 (SqT.of H) rfl ?_;show⟨_,rfl,by lia, .inr ⟨_,rfl,?_,_,rfl,?_,?_⟩⟩
  ·exact Nat.le_trans (GH (n:=40) (by decide) (by lia)) (by decide)
  ·exact Nat.le_trans (GH (n:=40) (by decide) (by lia)) (by decide)
  ·exact G
def Nr:Af P w K mg base (k+7) "say_more" ["desk","words"] (spSayMore aE):=FnA.uE (T.f.at 59) (scN ["desk","words","found"]) λnd _ _ _ _ _ _ _ _ _ b h=>by
 obtain⟨d,ws,r,J,o,one,a,h,q⟩:=h;obtain⟨rfl,hd,k1,k4,p,v,y,rfl,z⟩:=h;have L:=b.units0;have e:=Au b;obtain⟨⟨M,i⟩,B⟩:=id hd;refine BC ⟨_,(AD (AO 2 (Ak (M8 T) b A9 (AA (AU K (pv 0)) (AA (Bp e (AU K (pv 0)) (AG K (pv 1) AC)) AB)))) (AE (AI (BU (AR Bo (pv 2) Ao) (AX (T.g.at 9)) (B5 Fs rfl (T.N 14) PyProof.Rows.boot_str (AA (pv 2) AB)))))),?_⟩;show T.E.fl 0 i ?_;show T.E.fl 1 i ?_;show AL (SqL.of p) rfl ?_;show⟨r,_,rfl,by rw[<-v];exact DGet.k (k:=kyT one) B,?_⟩;ext;have Q:=BH y;refine⟨a,rfl,z,λns G H j=>?_⟩;have l:=q ns G H λx I=>by have:=j.2.1 x I;lia
 ext
 cases ns with
 |nil=>
  refine ifp rfl ?_;ext;exact l
 |cons x r=>
  have R:=j.2.1 x List.mem_cons_self;refine ifq rfl ?_;ext;have ex:x=((x.toNat:Nat):Int):=by lia
  show rStrB [.int x] _ _;rw[ex];refine Gh (Nat.lt_of_le_of_lt (show x.toNat<=40 by lia) (by decide +kernel)) ?_;exact l
def NS:Af P w K mg base (k+1) "say_names" ["desk","words"] (spSayNames aE):=FnA.uE (T.f.at 60) (scN ["desk","words"]) λnd _ _ _ _ _ H _ _ _ B h=>by
 obtain⟨d,ws,r,k,a,ns,rfl,hd,e,L,q⟩:=h;have X:=B.units0;have M:=Au B;obtain⟨⟨Y,G⟩,I⟩:=id hd;have Q:=hd.ne;refine BC ⟨_,(AE (AI (BU (Ar K (AU K (pv 0))) (Av K PySem.F.plainAttrs_str PySem.F.slot_str_join PySem.F.type_str_join (Q0 K) (pxt [32]) (AA (Aj (Fi K rfl) rfl (T.N 13) PyProof.Rows.boot_sorted (AA (AU K (pv 0)) AB)) AB)) (AX (T.g.at 9))))),?_⟩;show T.E.fl 1 G ?_;refine⟨_, .inr (.inr ⟨a,I,rfl⟩),?_⟩;obtain⟨R,hk,i,S,U⟩:=id e;have b:ns=[]↔a=[]:=by
  have j:=S.length_eq;have J:=congrArg List.length hk;rw[List.length_map,List.length_map]at J;unfold DJ at j;rw[List.length_map]at j;rw[<-List.length_eq_zero_iff,<-List.length_eq_zero_iff,j,J]
 by_cases z:a=[]
 ·rw[List.isEmpty_iff.mpr z];refine ifq rfl ?_;ext;have:=q H (Same.refl H);rw[wrt,if_pos (b.mpr z)]at this;exact this
 ·refine ifp (by rw[Bool.not_eq_true',List.isEmpty_eq_false_iff];exact z) ?_;show T.E.fl 1 G ?_;show⟨r,a,R,rfl, .inl I,hk,i,λp Z l o v=>?_⟩;have x:=e.uniq hk o v;subst x;rw[KA];ext;have hl:=e.len;have h9:=Lz L;refine Rk (by decide) (SqL.of AF) (by lia) ?_;have:=q _ (AK l (.lst (ns.map tx)));rw[wrt,if_neg (λy=>z (b.mp y))]at this;exact this
def Mv:MkV P w K mg base (k+2) aE ["self"] (spDkInit aE):=MtA.m (T.m.at 5) T.E (scN ["self"]) λnd _ _ _ _ _ H _ _ _ j h=>by
 obtain⟨d,e,rfl,hd,q⟩:=h;have l:=j.units0;refine⟨_,(AD (CO K (pv 0) (AX (T.g.at 10))) (AE (CO K (pv 0) F3))),?_⟩;show⟨d,aE,e,[],rfl,hd,T.E.cl,(T.E.at 0),by show 0<1000;decide,?_⟩;ext;intro r a;have i:H r=none:=by
  by_cases z:r=d
  ·subst z;rw[AF]at a;cases a
  ·rwa[AH z]at a
 have b:d≠r:=λz=>by rw[z,i]at hd;cases hd
 show⟨d,aE,e,_,rfl,by rw[AH b];exact AF,T.E.cl,(T.E.at 1),by show 1<1000;decide,?_⟩;show q r _ i (((FB.refl _ _).atU (by simp)).new i|>.atU (by simp)) ⟨⟨e,?_⟩,?_⟩
 ·rw[AF];rfl
 ·rw[AH b.symm];exact AF
def Hu:Mc P w K mg base (k+9) aE "say" ["self","row"] (spSay8 K cs aE):=MtA.uE (T.m.at 6) (scN ["self","row","words","word","part","deed"]) λnd _ _ _ _ _ H _ _ _ R h=>by
 obtain⟨d,r,kk,I,v,rfl,hd,h⟩:=h;have hu:=R.units0;have hu2:=Au R;obtain⟨FK,hFK,hF,_⟩:=T.F;obtain⟨DK,hDK,X,o⟩:=T.D;obtain⟨⟨dx,e1⟩,e2⟩:=id hd;have hdd:∀j:D15,∃fd,FnOk P w K mg base (CXE P w) (k+8) (X j) fd ["desk","words"] (Ln ["desk","words"] (Lg cs aE j))/\W.keepIn K (.ref (X j))=true/\Binds K fd ["desk","words"] []:=by
  have one:∀ {x:Str} {sp:Sp} {a:Addr},FnUE P w K mg base (k+8) x ["desk","words"] sp->mg x=some (.ref a)->∃fd,FnOk P w K mg base (CXE P w) (k+8) a fd ["desk","words"] sp/\W.keepIn K (.ref a)=true/\Binds K fd ["desk","words"] []:=λU hm=>by
   obtain⟨f,fd,F1,e,kp,b⟩:=U.ex;rw[hm]at e
   cases e
   exact⟨fd,F1,kp,b⟩
  intro j
  cases j
  ·exact one (NT T) (o .kinds).2
  ·exact one (OP T) (o .row).2
  ·exact one (Nn T) (o .turn).2
  ·exact one (NH T) (o .behind).2
  ·exact one (Nu T) (o .drop).2
  ·exact one (Nq T) (o .show).2
  ·exact one (NR T) (o .right).2
  ·exact one (OS T) (o .may).2
  ·exact one (Nt T) (o .many).2
  ·exact one (OQ T) (o .nth).2
  ·exact one (NF T) (o .number).2
  ·exact one (Np T) (o .sure).2
  ·exact one (NG T) (o .fewest).2
  ·exact one (Nr T) (o .more).2
  ·exact one (NS T) (o .names).2
 refine⟨_,(AD (AO 2 (AN (M7 T) R (AA (pv 1) AB))) (AD (AS (AR Bo (pv 2) Ao) (AE (C0 (T.c.at 11).2 (T.c.at 11).1 R.hd DG (AA Cm AB))) AT) (AD (A8 PassesOwn.leaving rfl (KU K rfl (T.N 16) (AA (BS (Bc K) (pv 2) (BV AC) BW) (AA (Gn P w K (AX (T.g.at 15)) (AG K (pv 2) AC)) AB))) (CP (n:=2) K rfl (A0 (Ap 3) (A0 (Ap 4) CF))) (AE (AS (PW.pt (Gk (AR (Ad K hu) (pv 4) (pxt [110,97,109,101])) (GL (K5 (PH hu2 (pv 3) (AU K (pv 0))) (by with_unfolding_all rfl))))) (AE (C0 (T.c.at 10).2 (T.c.at 10).1 R.hd DG (AA Cm AB))) AT))) (AD (AO 5 (Gn P w K (AX (T.g.at 16)) (AG K (pv 2) AC))) (AE (AI (SS 5 hdd R Bj (AA (pv 0) (AA (BS (Bc K) (pv 2) (BV AC) BW) AB))))))))),?_⟩;ext;rcases h with⟨hno,Y⟩|⟨l,G,args,rfl,hll,hk,h⟩
 ·refine .inr ⟨v,rfl,hno,λH1 Z=>?_⟩;show ifp rfl ?_;ext;exact⟨small (by decide),λy hy=>Y y H1 Z (Z.free hy)⟩
 obtain⟨_,_,hln,_,_⟩:=Gr hk;obtain⟨t,hv,hT⟩:=hF G;refine .inl ⟨l,G,args,rfl,hll,hk,λp H1 hp Z hp1=>?_⟩;show ifq rfl ?_;show HB (SqL.of hp1) (λz hz=>?_);have ez:∀ (w0:List Nat) (ar:List (List Nat)),DO ((w0::ar).map tx) (some 1) none=ar.map tx:=λ_ _=>Ju _ _;rw[ez];have s2:=AK hz (.lst (args.map tx));have hz2:(upd H1 z (.lst (args.map tx))) z=some (.lst (args.map tx)):=AF;generalize upd H1 z _=H2 at*
 have L:=s2 _ _ hp1;have hf3:=G.len;show AL (SqL.of L) (Dc _ _) ?_;refine⟨aF,FK,kyT G.word,_,rfl,hFK,rfl,hv,?_⟩;show⟨z,t,_,_,rfl,hz2,hT,?_⟩;refine U4 (by rw[List.length_map,List.length_map];lia) (λi σ H'=>∃o3 o4 o5,σ=[some (.ref d),some (tx l),some (.ref p),o3,o4,o5]/\Same H2 H'/\∀ (j:Nat) (a:List Nat),j<i->args[j]? =some a->G.form[j]? =some As->(AY I (kyT a)).isSome=true) ⟨_,_,_,rfl,Same.refl _,λj a hj=>absurd hj (Nat.not_lt_zero j)⟩ (λi σ H' ⟨o3,o4,o5,_,sH,_⟩=>sH _ _ hz2) ?_ ?_
 ·rintro i c dv T' σ H3 H4 S hdv ⟨o3,o4,o5,rfl,M,B⟩ s4 hT';obtain⟨a,ha,rfl⟩:∃a,args[i]? =some a/\tx a=c:=by
   rw[List.getElem?_map]at S;obtain⟨a,h1,h2⟩:=Option.map_eq_some_iff.mp S;exact⟨a,h1,h2⟩
  obtain⟨pp,hpp,rfl⟩:∃a,G.form[i]? =some a/\tx a=dv:=by
   rw[List.getElem?_map]at hdv;obtain⟨a,h1,h2⟩:=Option.map_eq_some_iff.mp hdv;exact⟨a,h1,h2⟩
  have J:Same H H4:=((Z.trans s2).trans M).trans s4;refine E5 (SqT.of hT') rfl ?_;ext;have more:(pp=As->(AY I (kyT a)).isSome=true)->∀ (j:Nat) (b:List Nat),j<i+1->args[j]? =some b->G.form[j]? =some As->(AY I (kyT b)).isSome=true:=λhx j b hj hb hf=>by
   by_cases e:j=i
   ·subst e;rw[ha]at hb;cases hb;rw[hpp]at hf;cases hf;exact hx rfl
   ·exact B j b (by lia) hb hf
  refine ifd (λS=>?_) (λS=>?_)
  ·subst S;show T.E.fl 1 (J _ _ e1) ?_;refine⟨r,_,rfl,DGet.k (k:=kyT a) (J _ _ e2),?_⟩;ext
   cases e:AY I (kyT a)with
   |none=>
    refine ifp rfl ?_;ext;rcases h with⟨_,_,_,_,_,Y⟩|⟨hy,_⟩
    ·exact⟨small (by decide),λy hy=>Y y H4 J (J.free hy)⟩
    ·have:=hy i a ha hpp;rw[e]at this;cases this
   |some v=>
    refine ifq rfl ?_;ext;exact⟨_,_,_,rfl,M.trans s4,more λ_=>by rw[e];rfl⟩
  ·refine ifq rfl ?_;ext;exact⟨_,_,_,rfl,M.trans s4,more λe=>absurd e S⟩
 ·intro σ H3 z_;obtain⟨o3,o4,o5,rfl,M,B⟩:=z_;rw[List.length_map]at B;have J:Same H H3:=(Z.trans s2).trans M;rcases h with⟨i,a,ha,hf,hn,_⟩|⟨_,q⟩
  ·have:=B i a (List.getElem?_eq_some_iff.mp ha).1 ha hf;rw[hn]at this;cases this
  show AL (SqL.of (M _ _ L)) (Dc _ _) ?_;refine⟨aD,DK,kyT G.word,_,rfl,hDK,rfl,(o G).1,?_⟩;show Rz G rfl ?_;show HB (SqL.of (M _ _ L)) (λz3 Q=>?_);rw[ez];ext;exact q _ z3 _ (λc Y=>Y.pass (J.trans (AK Q _))) (J.trans (AK Q _)) (J.free Q) AF
def NJ:MeV P w K mg base (k+1) aE "names" ["self"] (spDkNames aE):=MtA.u (T.m.at 7) (scN ["self"]) λnd _ _ _ _ _ _ _ _ _ v h=>by
 obtain⟨d,r,k,b,ns,rfl,hd,o,q⟩:=h;have G:=v.units0;obtain⟨⟨H,x⟩,y⟩:=id hd;obtain⟨z,hk,e,I,B⟩:=id o;refine⟨_,(AE (AI (Aj (Fi K rfl) rfl (T.N 13) PyProof.Rows.boot_sorted (AA (AU K (pv 0)) AB)))),?_⟩;show T.E.fl 1 x ?_;show⟨r,b,z,rfl, .inl y,hk,e,λp J a i j=>?_⟩;have l:=o.uniq hk i j;subst l;rw[KA];exact q p _ a (AK a _) AF
def Nw:FuV P w K mg base (k+1) "_law_pool" ["script","k"] (spPoolD K):=FnA.u (T.f.at 61) (scN ["script","k","cell"]) λnd _ _ _ _ _ _ _ _ _ e h=>by
 obtain⟨a,ns,k,rfl,d,h0,j,q⟩:=h;have l:=e.units0;have big:∀ (cell:Int),Me 10 18:=λ_=>⟨by decide,by decide,by decide⟩;refine⟨_,(AD (AO 2 AC) (AD (AS (AR HH (pv 1) (Aa K (T.N 7) (AA (pv 0) AB))) (AE (AO 2 (AG K (pv 0) (pv 1)))) AT) (AE (AI (Ac (AA (pv 2) (AA (B5 Ec rfl (T.N 5) PyProof.Rows.boot_int (AA (BD Lu (pv 2) (AJ Ui AC AC)) AB)) (AA (AJ BO AC (pv 1)) AB)))))))),?_⟩;show A7 (.inl d) ?_;show ifd (λc=>?_) (λc=>?_)
 ·rw[List.length_map]at c;obtain⟨v,i⟩:=RQ (ns:=ns) h0 c;show AL d i ?_;show⟨small (show 3<=1000 by decide),λp b=>?_⟩;exact q p _ b (AK b _) Po.new
 ·show⟨small (show 3<=1000 by decide),λp b=>?_⟩;exact q p _ b (AK b _) Po.new
def BG:FuV P w K mg base (k+1) "_law_draw" ["pool","many"] (spDraw):=FnA.u (T.f.at 62) (scN ["pool","many","found","x"]) λnd _ _ _ _ _ H _ _ _ i h=>by
 obtain⟨p,m,rfl,⟨a,b,c,e⟩,d,l,q⟩:=h;have o:=i.units0;have x:SqL K H p [.int a, .int b, .int c]:=SqL.of e;refine⟨_,(AD (AS (AR (Ad K o) (AG K (pv 0) AC) AC) (AD (AO 2 (AJ DF (AG K (pv 0) AC) (pv 1))) (AD (B7 (AJ Qw (AG K (pv 0) AC) (pv 1)) (CT (pv 0) AC Be)) (AE (AI (pv 2))))) AT) (AD (B7 (AJ AQ (AG K (pv 0) AC) AC) (CT (pv 0) AC Be)) (AD (AO 3 (AJ DF (AJ AQ (AJ DF (AG K (pv 0) AC) AC) (AJ BO AC (AG K (pv 0) AC))) AC)) (AD (AO 3 (AJ DF (AJ BO (pv 3) (pv 3)) AC)) (AD (AO 3 (AJ DF (AJ BO (AJ AQ (pv 3) AC) (pv 3)) AC)) (AE (AI (AJ DF (AJ Sa (pv 3) AC) (pv 1))))))))),?_⟩;show ifd (λr=>?_) (λr=>?_)
 ·show Bh e (j:=0) rfl ?_;ext;exact q _ _ (Int.emod_nonneg _ (by lia)) (Int.emod_lt_of_pos _ d) Po.new SameBut1.upd
 ·show Bh e (j:=2) rfl ?_;have v:SqL K (upd H p (.lst [.int a, .int b, .int (c+1)])) p [.int a, .int b, .int (c+1)]:=SqL.of AF;ext;exact q _ _ (Int.emod_nonneg _ (by lia)) (Int.emod_lt_of_pos _ d) Po.new SameBut1.upd
def Fc:FuV P w K mg base (k+10) "_law_said" ["desk","row"] (spSaid8 K cs aE):=FnA.u (T.f.at 63) (scN ["desk","row","caught","found","e","kinds"]) λnd _ _ _ _ _ H _ _ _ hr h=>by
 obtain⟨d,r,kk,kvs,v,rfl,hd,h⟩:=h;have hu:=hr.units0;obtain⟨⟨dx,e1⟩,e2⟩:=id hd;have facts:∀C nm,Cap8 cs C nm->ECls K C:=λC nm h=>by
  cases h
  ·exact(T.c.at 11).2
  ·exact(T.c.at 10).2
  ·exact(T.c.at 1).2
  ·exact(T.c.at 2).2
  ·exact(T.c.at 5).2
  ·exact(T.c.at 3).2
  ·exact(T.c.at 8).2
 refine⟨_,(AD (AO 2 Ao) (AD (AO 3 (pxt [])) (AD (UW (i:=4) (T.c.at 0).2 (T.c.at 0).1 ⟨rfl,rfl,rfl⟩ nd rfl rfl (λpn xe R Q=>(AE (AO 3 (KY T.E.cl (Hu T) hr Q (pv 0) (AA (pv 1) AB))))) (λev=>(AE (AO 2 (pv 4))))) (AD (AS (AR Bo (pv 2) Ao) (AE (AI (AG K (Ac (AA (pv 3) (AA (pxt [111,100,100]) AB))) (B5 Ec rfl (T.N 5) PyProof.Rows.boot_int (AA (HF (K8 (Aj (Cz K) rfl (T.N 6) PyProof.Rows.boot_isinstance (AA (pv 3) (AA (DH (T.N 14) PyProof.Rows.boot_str) AB)))) (DD (BD (Ad K hu) (BS (Bc K) (pv 3) BW (BV AC)) (pxt [9])))) AB))))) AT) (AD (AO 5 (Ac (AA (Aj (CN K) rfl (T.N 6) PyProof.Rows.boot_isinstance (AA (pv 2) (AA (B9 (T.c.at 11).1) AB))) (AA (Aj (CN K) rfl (T.N 6) PyProof.Rows.boot_isinstance (AA (pv 2) (AA (B9 (T.c.at 10).1) AB))) (AA (Aj (CN K) rfl (T.N 6) PyProof.Rows.boot_isinstance (AA (pv 2) (AA (B9 (T.c.at 1).1) AB))) AB))))) (AD (AO 5 (AJ AQ (pv 5) (Ac (AA (Aj (CN K) rfl (T.N 6) PyProof.Rows.boot_isinstance (AA (pv 2) (AA (B9 (T.c.at 2).1) AB))) (AA (Aj (CN K) rfl (T.N 6) PyProof.Rows.boot_isinstance (AA (pv 2) (AA (B9 (T.c.at 5).1) AB))) (AA (Aj (CN K) rfl (T.N 6) PyProof.Rows.boot_isinstance (AA (pv 2) (AA (B9 (T.c.at 3).1) AB))) AB)))))) (AD (Am (Av K PySem.F.plainAttrs_list PySem.F.slot_list_append PySem.F.type_list_append CD (pv 5) (AA (Aj (CN K) rfl (T.N 6) PyProof.Rows.boot_isinstance (AA (pv 2) (AA (B9 (T.c.at 8).1) AB))) AB))) (AD (AS (PW.pt (BZ (Ar K (Aj (CN K) rfl (T.N 6) PyProof.Rows.boot_isinstance (AA (pv 2) (AA (BY (AA (B9 (T.c.at 7).1) (AA (B9 (T.c.at 4).1) (AA (B9 (T.c.at 6).1) (AA (B9 (T.c.at 9).1) AB))))) AB)))) (Bi (BB (Ar K (Aj (CN K) rfl (T.N 6) PyProof.Rows.boot_isinstance (AA (pv 2) (AA (DH (T.N 0) My) AB)))))))) (AE (AI (pxt [111,100,100]))) AT) (AD (AS (AR (CU K hu) (Av K PySem.F.plainAttrs_list PySem.F.slot_list_count PySem.F.type_list_count Pd (pv 5) (AA Bq AB)) AC) (AE (AI (pxt [111,100,100]))) AT) (AE (AI (AJ AQ (pxt [9]) (AG K (Ac (AA (pxt [78,111,82,111,119]) (AA (pxt [78,111,78,97,109,101]) (AA (pxt [78,111,75,105,110,100,115]) (AA (pxt [78,111,76,105,110,101]) (AA (pxt [78,111,78,117,109,98,101,114]) (AA (pxt [78,111,116,82,105,103,104,116]) (AA (pxt [78,111,70,105,108,108,105,110,103]) AB)))))))) (Av K PySem.F.plainAttrs_list PySem.F.slot_list_index PySem.F.type_list_index Pc (pv 5) (AA Bq AB))))))))))))))),?_⟩;show⟨d,dx,_,rfl,e1,rfl,?_⟩;show h _ _ (λb H1 hb h9 q=>?_) (λC nm hC q=>?_)
 ·show ifp rfl ?_;show⟨small (show 2<=1000 by decide),λy hy=>?_⟩;show BP (b:=true) (TyOf.str _) (by with_unfolding_all rfl) ?_;ext;clear facts;refine ifq rfl ?_;ext;have hne:¬ (Bs b none (some 1)=[9]):=λz=>by
   rw[DW _ (by decide)]at z
   cases b with
   |nil=>cases z
   |cons x r=>exact h9 (by rw[(List.cons.inj z).1];rfl)
  rw[decide_eq_false hne];show AL (SqL.of AF) (show atI [tx b,tx [111,100,100]] (if false=true then 1 else 0)=some (tx b)from rfl) ?_;exact q _ (AK hy _)
 ·have Z:=facts C nm hC;obtain⟨l,p,B,I,J,L,b7,j,wd,mr,k1,k2,k3,k4,k5,k6,k7,ka,kv,hc,hj,hm,hw,rfl,hwl⟩:=QA T.t hC;refine UU λy G sG hy=>⟨mr,λob=>?_⟩;have s1:Same H (upd G y (BL ob y C)):=QU sG hy;have Q:(upd G y (BL ob y C)) y=some (BL ob y C):=AF;generalize upd G y _=G1 at*
  ext;clear facts h;refine O2 ?_;show ifq rfl ?_;show DA Q Z k1 ?_;show DA Q Z k2 ?_;show DA Q Z k3 ?_;show⟨small (show 3<=1000 by decide),λl1 Y=>?_⟩;have t1:=AK Y (.lst [.bl l, .bl p, .bl B]);have g1:=AF (H:=G1) (a:=l1) (o:= .lst [.bl l, .bl p, .bl B]);generalize upd G1 l1 _=G2 at*
  have e:=t1 _ _ Q;show DA e Z k4 ?_;show DA e Z k5 ?_;show DA e Z k6 ?_;show⟨small (show 3<=1000 by decide),λl2 hl2=>?_⟩;have X:=AK hl2 (.lst [.bl I, .bl J, .bl L]);have g2:=AF (H:=G2) (a:=l2) (o:= .lst [.bl I, .bl J, .bl L]);generalize upd G2 l2 _=G3 at*
  show DB (X _ _ g1) g2 (small (show 6<=1000 by decide)) (λl3 M=>?_);have t3:=AK M (.lst ([.bl l, .bl p, .bl B]++[.bl I, .bl J, .bl L]));have g3:(upd G3 l3 (.lst ([.bl l, .bl p, .bl B]++[.bl I, .bl J, .bl L]))) l3=some (.lst [.bl l, .bl p, .bl B, .bl I, .bl J, .bl L]):=AF;have n3:H l3=none:=s1.free (t1.free (X.free M));have s3:Same H (upd G3 l3 (.lst ([.bl l, .bl p, .bl B]++[.bl I, .bl J, .bl L]))):=((s1.trans t1).trans X).trans t3;have S:=t3 _ _ (X _ _ e);generalize upd G3 l3 _=G4 at*
  have nxl:y≠l3:=AM (X _ _ e) M;clear t1 X t3 g1 g2 Q e Y hl2 M s1 sG;show⟨SqL.ty (SqL.of g3),?_⟩;show DA S Z k7 ?_;show⟨l3,_,_,rfl,rfl,g3,DQ (show 6<=1000 by decide),?_⟩;have t4:Same H (upd G4 l3 (.lst ([.bl l, .bl p, .bl B, .bl I, .bl J, .bl L]++[.bl b7]))):=λb o z=>by rw[AH (AM z n3)];exact s3 b o z
  have g4:(upd G4 l3 (.lst ([.bl l, .bl p, .bl B, .bl I, .bl J, .bl L]++[.bl b7]))) l3=some (.lst ([l,p,B,I,J,L,b7].map V.bl)):=AF;have hx4:(upd G4 l3 (.lst ([.bl l, .bl p, .bl B, .bl I, .bl J, .bl L]++[.bl b7]))) y=some (BL ob y C):=by rw[AH nxl];exact S
  generalize upd G4 l3 _=G5 at*
  clear s3 g3 S;show⟨small (show 4<=1000 by decide),λtp htp=>?_⟩;have U:=AK htp (.tup ([cs.NoPlace,cs.NoTree,cs.NoWeights,cs.TooMany].map V.ref));show T6 (cs:=[cs.NoPlace,cs.NoTree,cs.NoWeights,cs.TooMany]) (U _ _ hx4) Z AF ka ?_;show ifq rfl ?_;show T8 (U _ _ hx4) Z kv ?_;show ifq rfl ?_;show⟨SqL.ty (SqL.of (U _ _ g4)),?_⟩;show⟨l3,_,_,rfl,rfl,U _ _ g4,?_⟩;rw[hc];show ifq rfl ?_;show⟨small (show 7<=1000 by decide),λl6 hl6=>?_⟩;have t6:=AK hl6 (.lst [tx [78,111,82,111,119],tx [78,111,78,97,109,101],tx [78,111,75,105,110,100,115],tx [78,111,76,105,110,101],tx [78,111,78,117,109,98,101,114],tx [78,111,116,82,105,103,104,116],tx [78,111,70,105,108,108,105,110,103]]);show⟨SqL.ty (SqL.of (t6 _ _ (U _ _ g4))),?_⟩;show⟨l3,_,_,j,rfl,rfl,t6 _ _ (U _ _ g4),hj,hm,by simp,?_⟩;refine AL (SqL.of AF) hw ?_;refine DT (small (by simp only[List.length_cons,List.length_nil];lia)) ?_;exact q _ ((t4.trans U).trans t6)
def Hr:FuV P w K mg base (k+1) "_law_fits" ["kind","word"] (spFits8):=FnA.u (T.f.at 64) (scN ["kind","word"]) λnd _ _ _ _ _ H _ Q _ Y h=>by
 obtain⟨Z,w,rfl,hw,q⟩:=h;have y:=Y.units0;refine⟨_,(AD (AS (AR (Ad K y) (pv 0) (pxt [97])) (AE (AI (E8 (Ja CA CA AC (Aa K (T.N 7) (AA (pv 1) AB)) AC) (DD (BD (Ad K y) (A1 (own:=["sign"]) (sel:=[]) (Ax (osc:=(AW (top 107))) (N:=["kind","word"]) (by decide +kernel)) rfl (B8 (pv 1)) (λ_ _ _ _ _=>(Ah (i:=0) (show(["sign"]:List Str).Nodup from by decide +kernel) rfl (Or.inl rfl))) (Aq (by decide)) (λ_ _ _ _ _=>D3 (AR (EZ K) (pv 0) (Ae (l:=ltr) (by decide +kernel)) (by with_unfolding_all rfl))) (λ_ _ _ _ _=>(pv 0))) (Ac AB)))))) AT) (AD (AS (PW.pt (BZ (BB (Ee CA CA AC (Aa K (T.N 7) (AA (pv 1) AB)) AC)) (Bi (AR (CU K y) (A1 (own:=["sign"]) (sel:=[]) (Ax (osc:=(AW (top 107))) (N:=["kind","word"]) (by decide +kernel)) rfl (B8 (pv 1)) (λ_ _ _ _ _=>(Ah (i:=0) (show(["sign"]:List Str).Nodup from by decide +kernel) rfl (Or.inl rfl))) (Aq (by decide)) (λ_ _ _ _ _=>D3 (AR (EZ K) (pv 0) (pxt [48,49,50,51,52,53,54,55,56,57]) (by with_unfolding_all rfl))) (λ_ _ _ _ _=>(pv 0))) (Ac AB))))) (AE (AI Bq)) AT) (AE (AI (HF (BD (Ad K y) (Aa K (T.N 7) (AA (pv 1) AB)) AC) (DD (BD (CU K y) (AG K (pv 1) AC) (pxt [48])))))))),?_⟩;ext
 by_cases hk:Z=97
 ·rw[if_pos hk]at q;unfold isNm at q;subst hk;refine ifp (by decide) ?_;show ifd (λM=>?_) (λM=>?_)
  ·show ifd (λL=>?_) (λL=>?_)
   ·show Ek (small (by lia)) (λD i v H'=>v=(((w.take i).filter λc=> !decide (c∈ltr)).map λc=>tx [c])/\SameBut1 D H H') (λD p=>⟨rfl,SameBut1.of (AK p _)⟩) (λD v H' p a ⟨e,r⟩=>?_) ?_
    ·rw[List.take_length]at e;have R:Same H H':=λb o z=>r b o z (AM z p);show⟨small (show 0<=1000 by decide),λz S=>?_⟩;ext;have B:=AK S (.lst []);refine Ll (SqL.of (B _ _ a)) (SqL.of AF) (by rw[e,List.all_map,List.all_eq_true];intro _ _;rfl) rfl ?_;have d:=q _ (R.trans B);rw[decide_eq_true (show 1<=w.length/\w.length<=8 by lia),Bool.true_and]at d;rw[e,LL];exact d
    ·rintro D i c v H' p G I a j ⟨e,r⟩;ext
     cases x:(!decide (c∈ltr))with
     |true=>
      refine ifp rfl ?_;show B6 I (small (by lia)) a j ⟨?_,r.trans SameBut1.upd⟩;rw[e,Ej G true x,List.map_append];rfl
     |false=>
      refine ifq rfl ?_;exact Fq I a j ⟨by rw[e,Ej G false x];simp,r⟩
   ·have:=q H (Same.refl H);rw[decide_eq_false (by lia),Bool.false_and]at this;exact this
  ·have:=q H (Same.refl H);rw[decide_eq_false (by lia),Bool.false_and]at this;exact⟨false,rfl,this⟩
 ·rw[if_neg hk]at q;unfold BE at q;have J:¬ (1<=w.length/\w.length<=9)->Q (.bl false) H:=λz=>by
   have:=q H (Same.refl H);rw[decide_eq_false z,Bool.false_and,Bool.false_and]at this;exact this
  refine ifq (decide_eq_false (λz=>hk (List.cons.inj z).1)) ?_;show ifd (λM=>?_) (λM=>?_)
  rotate_left
  ·refine⟨false,rfl,?_⟩;rw[if_pos (show(!false)=true from rfl),if_pos rfl];ext;exact J (by lia)
  ext
  by_cases L:(w.length:Int)<=9
  rotate_left
  ·refine ifp (by rw[decide_eq_false L];rfl) ?_;ext;exact J (by lia)
  refine ifq (by rw[decide_eq_true L];rfl) ?_;show Ek (small (by lia)) (λD i v H'=>v=(((w.take i).filter λc=> !decide (c∈fig)).map λc=>tx [c])/\SameBut1 D H H') (λD p=>⟨rfl,SameBut1.of (AK p _)⟩) (λD v H' p a ⟨e,r⟩=>?_) ?_
  ·rw[List.take_length]at e;have R:Same H H':=λb o z=>r b o z (AM z p);show⟨small (show 0<=1000 by decide),λz S=>?_⟩;ext;have B:=AK S (.lst []);refine Lj (SqL.of (B _ _ a)) (SqL.of AF) (by rw[e,List.all_map,List.all_eq_true];intro _ _;rfl) rfl ?_;have d:=q _ (R.trans B);rw[decide_eq_true (show 1<=w.length/\w.length<=9 by lia),Bool.true_and]at d;rw[e,LL];ext
   cases U:(w.all λc=>decide (c∈fig))with
   |false=>
    rw[U,Bool.false_and]at d;refine ifp rfl ?_;ext;exact d
   |true=>
    rw[U,Bool.true_and]at d;refine ifq rfl ?_;show ifd (λhc=>?_) (λhc=>?_)
    ·rw[decide_eq_true (show w.length=1 by lia),Bool.true_or]at d;exact d
    ·rw[decide_eq_false (show¬w.length=1 by lia),Bool.false_or]at d;have X:0<w.length:=by lia
     show B1 (c:=w[0]) (small (by lia)) (by rw[Jy X]) ?_;ext;have:(!decide ([w[0]]=[48]))= !decide (w[0]? =some 48):=by
      rw[List.getElem?_eq_getElem X];congr 1;exact decide_eq_decide.mpr ⟨λz=>by rw[(List.cons.inj z).1],λz=>by rw[Option.some.inj z]⟩
     rw[this];exact d
  ·rintro D i c v H' p G I a j ⟨e,r⟩;ext
   cases x:(!decide (c∈fig))with
   |true=>
    refine ifp x ?_;show B6 I (small (by lia)) a j ⟨?_,r.trans SameBut1.upd⟩;rw[e,Ej G true x,List.map_append];rfl
   |false=>
    refine ifq x ?_;exact Fq I a j ⟨by rw[e,Ej G false x];simp,r⟩
def FZ:FuV P w K mg base (k+1) "_law_kinds" [] (spKinds8):=FnA.u (T.f.at 65) (scN ["found"]) λnd _ _ _ _ _ H _ _ _ R h=>by
 obtain⟨rfl,q⟩:=h;have Z:=R.units0;apply GA
 ·exact rfl
 ·exact(SE rfl (i:=0) nd rfl (Or.inl rfl) (by first|exact .inl rfl|exact .inr rfl) (PDl.cons (Ae (l:=[107,105,110,100,115]) (by decide +kernel)) (Ae (l:=[105]) (by decide +kernel)) (PDl.cons (Ae (l:=[114,111,119]) (by decide +kernel)) (Ae (l:=[97,114]) (by decide +kernel)) (PDl.cons (Ae (l:=[116,117,114,110]) (by decide +kernel)) (Ae (l:=[97,97]) (by decide +kernel)) (PDl.cons (Ae (l:=[98,101,104,105,110,100]) (by decide +kernel)) (Ae (l:=[97,97,97]) (by decide +kernel)) (PDl.cons (Ae (l:=[100,114,111,112]) (by decide +kernel)) (Ae (l:=[97]) (by decide +kernel)) (PDl.cons (Ae (l:=[115,104,111,119]) (by decide +kernel)) (Ae (l:=[97]) (by decide +kernel)) PDl.nil)))))) (by intro h;cases h) (by decide))
 apply GA
 ·exact rfl
 ·exact(KP K rfl (pv 0) (PDl.cons (Ae (l:=[114,105,103,104,116]) (by decide +kernel)) (Ae (l:=[97]) (by decide +kernel)) (PDl.cons (Ae (l:=[109,97,121]) (by decide +kernel)) (Ae (l:=[97]) (by decide +kernel)) PDl.nil)) (by intro h;cases h) (by decide))
 apply GA
 ·exact rfl
 ·exact(KP K rfl (pv 0) (PDl.cons (Ae (l:=[109,97,110,121]) (by decide +kernel)) (Ae (l:=[97]) (by decide +kernel)) (PDl.cons (Ae (l:=[110,116,104]) (by decide +kernel)) (Ae (l:=[97,105]) (by decide +kernel)) (PDl.cons (Ae (l:=[110,117,109,98,101,114]) (by decide +kernel)) (Ae (l:=[97,114]) (by decide +kernel)) (PDl.cons (Ae (l:=[115,117,114,101]) (by decide +kernel)) (Ae (l:=[97]) (by decide +kernel)) (PDl.cons (Ae (l:=[102,101,119,101,115,116]) (by decide +kernel)) (Ae (l:=[97]) (by decide +kernel)) (PDl.cons (Ae (l:=[109,111,114,101]) (by decide +kernel)) (Ae (l:=[97]) (by decide +kernel)) (PDl.cons (Ae (l:=[110,97,109,101,115]) (by decide +kernel)) (Ae (l:=[]) (by decide +kernel)) PDl.nil))))))) (by intro h;cases h) (by decide))
 apply S4
 ·exact rfl
 ·exact(AI (pv 0))
 show Ep [([107,105,110,100,115],[105]),([114,111,119],[97,114]),([116,117,114,110],[97,97]),([98,101,104,105,110,100],[97,97,97]),([100,114,111,112],[97]),([115,104,111,119],[97])] (by decide) (λp v=>?_);have S:=AK v (.dK (A3 [] ([([107,105,110,100,115],[105]),([114,111,119],[97,114]),([116,117,114,110],[97,97]),([98,101,104,105,110,100],[97,97,97]),([100,114,111,112],[97]),([115,104,111,119],[97])].map λx=>(kyT x.1,tx x.2))));have y:=AF (H:=H) (a:=p) (o:= .dK (A3 [] ([([107,105,110,100,115],[105]),([114,111,119],[97,114]),([116,117,114,110],[97,97]),([98,101,104,105,110,100],[97,97,97]),([100,114,111,112],[97]),([115,104,111,119],[97])].map λx=>(kyT x.1,tx x.2))));generalize upd H p _=I at*
 show⟨.inr (.inr (.inl ⟨rfl, .inl ⟨_,y⟩⟩)),?_⟩;show Ep [([114,105,103,104,116],[97]),([109,97,121],[97])] (by decide) (λp2 d=>?_);have B:p≠p2:=AM y d;have J:=AK d (.dK (A3 [] ([([114,105,103,104,116],[97]),([109,97,121],[97])].map λx=>(kyT x.1,tx x.2))));have U:=AF (H:=I) (a:=p2) (o:= .dK (A3 [] ([([114,105,103,104,116],[97]),([109,97,121],[97])].map λx=>(kyT x.1,tx x.2))));generalize upd I p2 _=r at*
 show⟨p,p2,_,_,rfl,rfl,B,J _ _ y, .inl U,by rw[sizeLine_eq];decide +kernel,?_⟩;have X:SameBut1 p r (upd r p (.dK (Dh (A3 [] ([([107,105,110,100,115],[105]),([114,111,119],[97,114]),([116,117,114,110],[97,97]),([98,101,104,105,110,100],[97,97,97]),([100,114,111,112],[97]),([115,104,111,119],[97])].map λx=>(kyT x.1,tx x.2))) (A3 [] ([([114,105,103,104,116],[97]),([109,97,121],[97])].map λx=>(kyT x.1,tx x.2)))))):=SameBut1.upd;have G:=AF (H:=r) (a:=p) (o:= .dK (Dh (A3 [] ([([107,105,110,100,115],[105]),([114,111,119],[97,114]),([116,117,114,110],[97,97]),([98,101,104,105,110,100],[97,97,97]),([100,114,111,112],[97]),([115,104,111,119],[97])].map λx=>(kyT x.1,tx x.2))) (A3 [] ([([114,105,103,104,116],[97]),([109,97,121],[97])].map λx=>(kyT x.1,tx x.2)))));generalize upd r p _=L at*
 show⟨.inr (.inr (.inl ⟨rfl, .inl ⟨_,G⟩⟩)),?_⟩;show Ep [([109,97,110,121],[97]),([110,116,104],[97,105]),([110,117,109,98,101,114],[97,114]),([115,117,114,101],[97]),([102,101,119,101,115,116],[97]),([109,111,114,101],[97]),([110,97,109,101,115],[])] (by decide) (λp4 e=>?_);have j:p≠p4:=AM G e;have M:=AK e (.dK (A3 [] ([([109,97,110,121],[97]),([110,116,104],[97,105]),([110,117,109,98,101,114],[97,114]),([115,117,114,101],[97]),([102,101,119,101,115,116],[97]),([109,111,114,101],[97]),([110,97,109,101,115],[])].map λx=>(kyT x.1,tx x.2))));have Y:=AF (H:=L) (a:=p4) (o:= .dK (A3 [] ([([109,97,110,121],[97]),([110,116,104],[97,105]),([110,117,109,98,101,114],[97,114]),([115,117,114,101],[97]),([102,101,119,101,115,116],[97]),([109,111,114,101],[97]),([110,97,109,101,115],[])].map λx=>(kyT x.1,tx x.2))));generalize upd L p4 _=H4 at*
 show⟨p,p4,_,_,rfl,rfl,j,M _ _ G, .inl Y,by rw[sizeLine_eq];decide +kernel,?_⟩;show q p _ v (λb o z=>?_) ?_
 ·have Q:=AM z v;rw[AH Q];exact M _ _ (X _ _ (J _ _ (S _ _ z)) Q)
 ·rw[AF];congr 2
def NI:FuV P w K mg base (k+2) "_law_is_row" ["row"] (spIsRow8 K):=FnA.u (T.f.at 66) (scN ["row","words","kinds"]) λnd _ _ _ _ _ H _ _ _ L h=>by
 obtain⟨v,b,rfl,hR,q⟩:=h;have hu:=L.units0;have hu2:=Au L;refine⟨_,(AD (AS (BB (Ar K (Aj (Cz K) rfl (T.N 6) PyProof.Rows.boot_isinstance (AA (pv 0) (AA (DH (T.N 14) PyProof.Rows.boot_str) AB))))) (AE (AI Bq)) AT) (AD (Bz (i:=1) nd rfl (Or.inr rfl) (Av K PySem.F.plainAttrs_str PySem.F.slot_str_split PySem.F.type_str_split F6 (pv 0) (AA (pxt [32]) AB))) (AD (Bz (i:=2) nd rfl (Or.inr rfl) (Qu hu2 (Gm (FZ T) L) (AG K (pv 1) AC) (pxt [120]) ⟨rfl,rfl,rfl,rfl⟩)) (AD (AS (AR (Ad K hu) (pv 2) (pxt [97,114])) (AE (AI (E8 (BD Ct (Aa K (T.N 7) (AA (pv 1) AB)) AC) (DD (AN (Hr T) L (AA (pxt [97]) (AA (AG K (pv 1) AC) AB))))))) AT) (AD (AS (PW.pt (BZ (AR (Ad K hu) (pv 2) (pxt [120])) (Bi (AR (CU K hu) (Aa K (T.N 7) (AA (pv 1) AB)) (AJ AQ (Aa K (T.N 7) (AA (pv 2) AB)) AC))))) (AE (AI Bq)) AT) (AE (AI (BD (Ad K hu) (A1 (own:=["k"]) (sel:=[2,1]) (Ax (osc:=(AW (top 109))) (N:=["row","words","kinds"]) (by decide +kernel)) rfl (CM rfl (T.N 10) (AA (Aa K (T.N 7) (AA (pv 2) AB)) AB)) (λ_ _ _ _ _=>(Ah (i:=0) (show(["k","kinds","words"]:List Str).Nodup from by decide +kernel) rfl (Or.inl rfl))) (Aq (by decide)) (λ_ _ _ _ _=>D3 (BB (Ar K (AN (Hr T) L (AA (AG K (pv 1) (pv 0)) (AA (AG K (pv 2) (AJ AQ (pv 0) AC)) AB)))))) (λ_ _ _ _ _=>(pv 0))) (Ac AB))))))))),?_⟩;ext;rcases hR with⟨l,rfl,hl,rfl⟩|⟨rfl,ty,hT,hp,hs⟩
 rotate_left
 ·refine BP (b:=false) hT (by
   have:ty="NoneType"\/ty="bool"\/ty="int"\/ty="str"\/ty="list"\/ty="tuple"\/ty="dict":=by simpa[Bf]using hp
   rcases this with rfl|rfl|rfl|rfl|rfl|rfl|rfl<;>first|exact absurd rfl hs|with_unfolding_all rfl) ?_
  show ifp rfl ?_;ext;exact q H (Same.refl H)
 refine BP (b:=true) (TyOf.str _) (by with_unfolding_all rfl) ?_;show ifq rfl ?_;show KH (by lia) (λp1 hp1=>?_);have hwl:(spN 32 (l.length+1) l).length<=1001:=Nat.le_trans (DS _ _ _) (by lia);have hwe:∀w∈spN 32 (l.length+1) l,w.length<=1000:=λw hw=>Nat.le_trans (Du _ _ _ w hw) hl;have ek:(knw l).isSome=FR l:=(Q3 l).symm;rw[ek]at q;unfold FR at q;have G:(spN 32 (l.length+1) l)[0]? =some (BA l):=by
  have h1:=E4 32 l.length l;rw[Ea]at h1;rw[<-List.head?_eq_getElem?];exact h1
 generalize hws:spN 32 (l.length+1) l=ws at*
 have t1:=AK hp1 (.lst (ws.map tx));have g1:=AF (H:=H) (a:=p1) (o:= .lst (ws.map tx));generalize upd H p1 _=H1 at*
 show⟨rfl,λa2 M ha2 s2 g2=>?_⟩;show⟨a2,rfl, .inl ⟨_, .inl g2⟩,?_⟩;ext;have h0:atI (ws.map tx) 0=some (tx (BA l)):=by
  cases ws with
  |nil=>simp at G
  |cons x r=>simp only[List.getElem?_cons_zero,Option.some.injEq]at G;rw[G];exact Dc _ _
 refine AL (SqL.of (s2 _ _ g1)) h0 ?_;show⟨_,DGet.k (k:=kyT (BA l)) g2,?_⟩;have p:=t1.trans s2;have Q:=s2 _ _ g1
 cases ed:D15.of (BA l)with
 |none=>
  rw[ed]at q;rw[Uy ed,Option.getD_none];show ifq (by decide) ?_;show ifp (by decide) ?_;ext;exact q M p
 |some d=>
  rw[ed]at q;simp only at q;have ht3:d.ty.length<=3:=by cases d<;>decide
  rw[<-GR ed,Jh,Option.getD_some];ext;have R:∀i,i<ws.length->atI (ws.map tx) (i:Nat)=some (tx (ws.getD i [])):=λi I=>by
   unfold atI;rw[Bn (by rw[List.length_map];exact I)];show(ws.map tx)[i]? =_;rw[List.getElem?_map,List.getD_eq_getElem?_getD,List.getElem?_eq_getElem I];rfl
  have S:∀i,(ws.getD i []).length<=1000:=λi=>by
   rw[List.getD_eq_getElem?_getD]
   cases e:ws[i]? with
   |none=>exact Nat.zero_le _
   |some w=>exact hwe w (List.mem_of_getElem? e)
  by_cases y:d.ty=[97,114]
  ·rw[if_pos y]at q;refine ifp (decide_eq_true y) ?_;show A7 (.inl (SqL.of Q)) ?_;rw[List.length_map];show ifd (λh3=>?_) (λh3=>?_)
   ·show AL (SqL.of Q) (R 1 (by lia)) ?_;show⟨97,_,rfl,S 1,λH3 J=>?_⟩;have:=q H3 (p.trans J);rw[decide_eq_true (show 2<ws.length by lia),Bool.true_and]at this;exact this
   ·have:=q M p;rw[decide_eq_false (show¬2<ws.length by lia),Bool.false_and]at this;exact this
  ·rw[if_neg y]at q;refine ifq (decide_eq_false y) ?_;ext;have hx:¬d.ty=[120]:=by cases d<;>decide
   refine ifq (decide_eq_false hx) ?_;show A7 (.inl (SqL.of Q)) ?_;rw[List.length_map];ext
   by_cases h4:ws.length=d.ty.length+1
   rotate_left
   ·refine ifp (by rw[decide_eq_false];rfl;lia) ?_;ext;have:=q M p;rw[decide_eq_false h4,Bool.false_and]at this;exact this
   refine ifq (by rw[decide_eq_true];rfl;lia) ?_;rw[decide_eq_true h4,Bool.true_and]at q;show⟨_,rfl,by lia,by lia,?_⟩;rw[Int.toNat_natCast];refine RL (n:=d.ty.length) (by rw[PySem.sizeLine_eq];lia) (λD i ys H'=>ys=(((List.range i).filter λj=> !(if d.ty.getD j 0=97 then isNm (ws.getD (j+1) [])else BE (ws.getD (j+1) []))).map λj=>V.int (j:Nat))/\SameBut1 D M H') (λD U=>⟨rfl,SameBut1.of (AK U _)⟩) (λD ys H' U B ⟨e,X⟩=>?_) ?_
   ·have sG:Same M H':=λb o z=>X b o z (AM z U);show⟨small (show 0<=1000 by decide),λz hz=>?_⟩;ext;have t2:=AK hz (.lst []);refine Ll (SqL.of (t2 _ _ B)) (SqL.of AF) (by rw[e,List.all_map,List.all_eq_true];intro _ _;rfl) rfl ?_;have q':=q _ ((p.trans sG).trans t2);have ee:eqVs ys []=(List.range d.ty.length).all λi=>if d.ty.getD i 0=97 then isNm (ws.getD (i+1) [])else BE (ws.getD (i+1) []):=by
     rw[e];exact Sw _ _
    rw[ee];exact q'
   ·rintro D i ys H' U I B Y ⟨e,X⟩;ext;have hc:atI d.ty (0+(i:Int))=some (d.ty.getD i 0):=by
     rw[Int.zero_add];unfold atI;rw[Bn I];show d.ty[i]? =_;rw[List.getD_eq_getElem?_getD,List.getElem?_eq_getElem I];rfl
    refine B1 (c:=d.ty.getD i 0) (small (by lia)) hc ?_;ext;have Z:p1≠D:=AM Q U;have e1:(0+(i:Int)+1)=((i+1:Nat):Int):=by lia
    refine AL (SqL.of (X _ _ Q Z)) (by rw[e1];exact R (i+1) (by lia)) ?_;show⟨_,_,rfl,S _,λH3 J=>?_⟩;ext;have ef:∀b,(if d.ty.getD i 0=97 then isNm (ws.getD (i+1) [])else BE (ws.getD (i+1) []))=b->(List.range (i+1)).filter (λj=> !(if d.ty.getD j 0=97 then isNm (ws.getD (j+1) [])else BE (ws.getD (j+1) [])))=(List.range i).filter (λj=> !(if d.ty.getD j 0=97 then isNm (ws.getD (j+1) [])else BE (ws.getD (j+1) [])))++(if b=true then []else [i]):=λb hb=>by
     rw[List.range_succ,List.filter_append];congr 1;rw[List.filter_cons,hb];cases b<;>rfl
    cases hb:(if d.ty.getD i 0=97 then isNm (ws.getD (i+1) [])else BE (ws.getD (i+1) []))with
    |true=>
     refine ifq rfl ?_;exact Fq I (J _ _ B) Y ⟨by rw[e,ef true hb];simp,X.trans (SameBut1.of J)⟩
    |false=>
     refine ifp rfl ?_;show B6 I (small (by lia)) (J _ _ B) Y ⟨?_,(X.trans (SameBut1.of J)).trans SameBut1.upd⟩;rw[e,ef false hb,List.map_append,Int.zero_add];rfl
def Ms:FuV P w K mg base (k+2) "_law_some_word" ["pool","kind"] (spSome8):=FnA.u (T.f.at 67) (scN ["pool","kind","some"]) λnd _ _ _ _ _ H _ Q _ r h=>by
 obtain⟨p,kd,rfl,po,q⟩:=h;have U:=r.units0;have fn:∀t H',Po H' p->SameBut1 p H H'->t.length<=41->Q (tx t) H':=q;have J:=SameBut1.refl p H;refine⟨_,(PSsb.pss (Cy (PSb.mk (AS (AR (Ad K U) (pv 1) (pxt [97])) (PSsb.pss (Cy (Es (i:=2) rfl nd rfl (Or.inl rfl) (Or.inl rfl) (Pl.con (pxt [97,98]) (Pl.con (pxt [110,111,110,101]) (Pl.con (pxt [97,98]) (Pl.con (pxt [110,111,110,101]) (Pl.con (pxt [97,98,99]) (Pl.con (pxt [122,122,122,122,122,122,122,122]) (Pl.con (pxt [122,122,122,122,122,122,122,122,122]) Pl.nil)))))))) (Cy (Cg (i:=2) (j:=2) rfl nd rfl (Or.inl rfl) (Or.inl rfl) (PEb.mk (pv 2)) (Pl.con (pxt [65,98]) (Pl.con (pxt [97,49]) (Pl.con (pxt []) (Pl.con (pxt [97,96]) (Pl.con (pxt [97,123]) (Pl.con (pxt [114,111,119]) Pl.nil))))))) (Cy (PSb.mk (Am (Av K PySem.F.plainAttrs_list PySem.F.slot_list_append PySem.F.type_list_append CD (pv 2) (AA (AJ BO (AG K (Ae (l:=ltr) (by decide +kernel)) (AN (BG T) r (AA (pv 0) (AA AC AB)))) (AJ AQ AC (AN (BG T) r (AA (pv 0) (AA AC AB))))) AB)))) (Fz (PSb.mk (AI (AG K (pv 2) (AN (BG T) r (AA (pv 0) (AA AC AB))))))))))) AT)) (Cy (PSb.mk (AS (AR (Ad K U) (pv 1) (pxt [105])) (PSsb.pss (Cy (Es (i:=2) rfl nd rfl (Or.inl rfl) (Or.inl rfl) (Pl.con (pxt [48]) (Pl.con (pxt [49]) (Pl.con (pxt [52]) (Pl.con (pxt [53]) (Pl.con (pxt [49,48]) (Pl.con (pxt [57,57,57,57,57,57,57,57,57]) (Pl.con (pxt [49,48,48,48,48,48,48,48,48,48]) (Pl.con (pxt [48,48]) Pl.nil))))))))) (Cy (Cg (i:=2) (j:=2) rfl nd rfl (Or.inl rfl) (Or.inl rfl) (PEb.mk (pv 2)) (Pl.con (pxt [48,49]) (Pl.con (pxt [45,49]) (Pl.con (pxt [43,49]) (Pl.con (pxt []) (Pl.con (pxt [120]) (Pl.con (pxt [49,95,48]) (Pl.con (pxt [49,58]) (Pl.con (pxt [47,49]) Pl.nil))))))))) (Fz (PSb.mk (AI (AG K (pv 2) (AN (BG T) r (AA (pv 0) (AA AC AB)))))))))) AT)) (Fz (O7 K rfl (Pl.con (pxt [40,41]) (Pl.con (pxt [40,63]) (Pl.con (pxt []) (Pl.con (pxt [32]) (Pl.con (pxt [40,41,32,91,93]) (Pl.con (pxt [120]) (Pl.con (pxt [40,91,123,60,62,125,93,41]) (Pl.bin (AJ BO (pxt [63]) AC) (Pl.con (pxt [41]) (Pl.con (pxt [40,32,41]) Pl.nil)))))))))) (AN (BG T) r (AA (pv 0) (AA AC AB)))))))),?_⟩;simp only[CH];show ifd (λhk=>?_) (λhk=>?_)
 ·show⟨small (show 7<=1000 by decide),λx a=>?_⟩;have o1:=OdL.mk po J a (b:=41) (xs:=[tx [97,98],tx [110,111,110,101],tx [97,98],tx [110,111,110,101],tx [97,98,99],tx [122,122,122,122,122,122,122,122],tx [122,122,122,122,122,122,122,122,122]]) (by repeat first|exact .nil|refine .cons (by decide) ?_) rfl (by decide);ext;generalize upd H x _=X at*
  refine⟨small (show 6<=1000 by decide),λl2 o=>?_⟩;refine o1.add o (by repeat first|exact .nil|refine .cons (by decide) ?_) (m:=13) rfl (by decide) (λL H3 v=>?_);show⟨v.ty,?_⟩;show BI v.po (by decide) (by decide) (λa4 H4 M R p4 s4=>?_);obtain⟨c,hc⟩:∃c,atI ltr a4=some c:=LV M R;refine B1 (c:=c) (small (by decide)) hc ?_;show BI p4 (by decide) (by decide) (λY H5 a50 a51 p5 s5=>?_);show EA (by lia) (by lia) (by simp) ?_;have y:(List.replicate (1+Y).toNat [c]).flatten.length<=41:=by rw[Er,List.length_singleton];lia
  generalize(List.replicate (1+Y).toNat [c]).flatten=z at*
  ext;obtain⟨xs,g1,g2,Z⟩:=v.app (s4.trans s5) p5 y (m:=14) rfl (by decide);refine⟨L,_,_,rfl,rfl,g1,g2,?_⟩;generalize upd H5 L _=H6 at*
  show BI Z.po (by decide) (by decide) (λa7 H7 d e B G=>?_);exact Z.pick G d e λt ht I=>fn _ _ B I ht
 show ifd (λS=>?_) (λS=>?_)
 ·show⟨small (show 8<=1000 by decide),λx a=>?_⟩;have o1:=OdL.mk po J a (b:=41) (xs:=[tx [48],tx [49],tx [52],tx [53],tx [49,48],tx [57,57,57,57,57,57,57,57,57],tx [49,48,48,48,48,48,48,48,48,48],tx [48,48]]) (by repeat first|exact .nil|refine .cons (by decide) ?_) rfl (by decide);ext;generalize upd H x _=X at*
  refine⟨small (show 8<=1000 by decide),λl2 o=>?_⟩;refine o1.add o (by repeat first|exact .nil|refine .cons (by decide) ?_) (m:=16) rfl (by decide) (λL H3 v=>?_);show BI v.po (by decide) (by decide) (λa7 H7 d e B G=>?_);exact v.pick G d e λt ht I=>fn _ _ B I ht
 show EA (by decide) (by decide) (by decide) ?_;have hz:(List.replicate (41:Int).toNat [63]).flatten.length<=41:=by decide
 generalize(List.replicate (41:Int).toNat [63]).flatten=z at*
 show⟨small (show 10<=1000 by decide),λx a=>?_⟩;have o1:=OdL.mk po J a (b:=41) (n:=10) (xs:=[tx [40,41],tx [40,63],tx [],tx [32],tx [40,41,32,91,93],tx [120],tx [40,91,123,60,62,125,93,41],tx z,tx [41],tx [40,32,41]]) (by repeat first|exact .nil|refine .cons (by first|assumption|decide) ?_) rfl (by decide);ext;generalize upd H x _=X at*
 refine BI o1.po (by decide) (by decide) (λa7 H7 d e B G=>?_);exact o1.pick G d e λt ht I=>fn _ _ B I ht
def NX:FuV P w K mg base (k+3) "_law_drawn" ["pool"] (spDrawn8):=FnA.u (T.f.at 68) (scN ["pool","heads","head","row","kind"]) λnd _ _ _ _ _ H _ _ _ l h=>by
 obtain⟨p,rfl,po,q⟩:=h;have hu:=l.units0;have G:=Au l;refine⟨_,(AD (AO 1 (Aj (Fi K rfl) rfl (T.N 13) PyProof.Rows.boot_sorted (AA (Gm (FZ T) l) AB))) (AD (AO 2 (AG K (pv 1) (AN (BG T) l (AA (pv 0) (AA AC AB))))) (AD (AO 3 (pv 2)) (AD (A8 PassesOwn.never rfl (B8 (Bp G (Gm (FZ T) l) (pv 2))) (Ap 4) (AE (AO 3 (AJ AQ (AJ AQ (pv 3) (pxt [32])) (AN (Ms T) l (AA (pv 0) (AA (pv 4) AB))))))) (AE (AI (pv 3))))))),?_⟩;show⟨rfl,λa1 I ha1 J g1=>?_⟩;show⟨a1,EN,all15.map λd=>⟨d.word.toArray⟩,rfl, .inl g1,by rfl,by decide,?_⟩;intro B b r v _;have X:=AK r (.lst (b.map λx=>tx x.cps.toList));have g2:=AF (H:=I) (a:=B) (o:= .lst (b.map λx=>tx x.cps.toList));have p1:=(po.same J).same X;have n1:=(po.same J).ne r;have s2:SameBut1 p H (upd I B (.lst (b.map λx=>tx x.cps.toList))):=SameBut1.of (J.trans X);generalize upd I B _=H2 at*
 have hts:b.length=15:=v.length_eq;show BI p1 (by decide) (by decide) (λa3 H3 L a31 p3 Y=>?_);obtain⟨m,rfl⟩:=Int.eq_ofNat_of_zero_le L;have M:m<b.length:=by lia
 obtain⟨d,hd⟩:∃d:D15,b[m]=⟨d.word.toArray⟩:=by
  have h1:=v.subset (List.getElem_mem M);obtain⟨d,_,e⟩:=List.mem_map.mp h1;exact⟨d,e.symm⟩
 have Q:atI (b.map λx=>tx x.cps.toList) (m:Int)=some (tx d.word):=by
  unfold atI;rw[Bn (by rw[List.length_map];exact M)];show(b.map _)[m]? =_;rw[List.getElem?_map,List.getElem?_eq_getElem M,hd];rfl
 refine AL (SqL.of (Y _ _ g2 n1)) Q ?_;have R:=s2.trans Y;show⟨rfl,λa4 H4 ha4 Z g4=>?_⟩;show⟨a4,_,rfl,by rw[<-Jh d];exact DGet.k (k:=kyT d.word) g4,?_⟩;ext;have hw6:d.word.length<=6:=by cases d<;>decide
 have ht3:d.ty.length<=3:=by cases d<;>decide
 refine Jm (a:=d.ty) (λi σ y=>∃z o,σ=[some (.ref p),some (.ref B),some (tx d.word),some (tx z),o]/\z.length<=6+i*42/\Po y p/\SameBut1 p H y) ⟨d.word,_,rfl,by lia,p3.same Z,R.trans (SameBut1.of Z)⟩ ?_ ?_
 ·intro i c σ y hc S;obtain⟨z,o,rfl,hz,j,U⟩:=S;have hi:i<d.ty.length:=(List.getElem?_eq_some_iff.mp hc).1;show⟨p,c,rfl,j,λt H5 p5 s5 ht=>?_⟩;refine DT (small (show(z++[32]).length+t.length<=1000 by rw[List.length_append,List.length_singleton];lia)) ?_;ext;exact⟨_,_,rfl,by rw[List.length_append,List.length_append,List.length_singleton];lia,p5,U.trans s5⟩
 ·intro σ y S;obtain⟨z,o,rfl,hz,j,U⟩:=S;ext;exact q z y j U (by lia)
def M6:FuV P w K mg base (k+2) "_law_changed" ["pool","row"] (spChanged8):=FnA.u (T.f.at 69) (scN ["pool","row","at","way","signs","sign","odd"]) λnd _ _ _ _ _ H _ Q _ B h=>by
 obtain⟨p,l,rfl,po,M,q⟩:=h;have L:=B.units0;refine⟨_,(AD (AO 2 (AN (BG T) B (AA (pv 0) (AA (AJ AQ (Aa K (T.N 7) (AA (pv 1) AB)) AC) AB)))) (AD (AO 3 (AN (BG T) B (AA (pv 0) (AA AC AB)))) (SA (i:=4) (l:=[32,32,48,97,97,98,10,9,45,95,33,34,35,36,38,39,40,41,42,43,44,46,47,49,50,51,52,53,54,55,56,57,58,59,60,61,62,63,64,65,66,67,68,69,70,71,72,73,74,75,76,77,78,79,80,81,82,83,84,85,86,87,88,89,90]) nd rfl (Or.inl rfl) (by decide +kernel) (PSs1b.pss (BN (PSb.one1 (PSb.mk (AO 4 (AJ AQ (pv 4) (pxt [91,92,93,94,96,99,100,101,102,103,104,105,106,107,108,109,110,111,112,113,114,115,116,117,118,119,120,121,122,123,124,125,126]))))) (BN (PSb.one1 (PSb.mk (AO 5 (AG K (pv 4) (AN (BG T) B (AA (pv 0) (AA (Aa K (T.N 7) (AA (pv 4) AB)) AB))))))) (BN (PSb.one1 (PSb.mk (AS (AR (Ad K L) (pv 3) AC) (AE (AI (AJ AQ (BS (Bc K) (pv 1) BW (BV (pv 2))) (BS (Bc K) (pv 1) (BV (AJ AQ (pv 2) AC)) BW)))) AT))) (BN (PSb.one1 (PSb.mk (AS (AR (Ad K L) (pv 3) AC) (AE (AI (AJ AQ (AJ AQ (BS (Bc K) (pv 1) BW (BV (pv 2))) (pv 5)) (BS (Bc K) (pv 1) (BV (pv 2)) BW)))) AT))) (BN (PSb.one1 (PSb.mk (AS (AR (Ad K L) (pv 3) AC) (AE (AI (AJ AQ (AJ AQ (BS (Bc K) (pv 1) BW (BV (pv 2))) (pv 5)) (BS (Bc K) (pv 1) (BV (AJ AQ (pv 2) AC)) BW)))) AT))) (BN (PSb.one1 (PSb.mk (AS (AR (Ad K L) (pv 3) AC) (AE (PSb.ps (OL K rfl (pv 1) (Pl.con (pxt [32]) (Pl.con (pxt [10]) (Pl.con (pxt [32,49]) (Pl.con (pxt [32,97,98]) (Pl.con (pxt [9]) (Pl.con (pxt [115]) (Pl.con (pxt [32,40,41]) Pl.nil))))))) (AN (BG T) B (AA (pv 0) (AA AC AB)))))) AT))) (BN (PSb.one1 (PSb.mk (AS (AR (Ad K L) (pv 3) AC) (AE (AI (AJ AQ (AG K (Ac (AA (pxt [32]) (AA (pxt [10]) (AA (pxt [116,104,101,32]) AB)))) (AN (BG T) B (AA (pv 0) (AA AC AB)))) (pv 1)))) AT))) (BN (PS1b.mk (UY (AR (Ad K L) (pv 3) AC) (JX (SF (pv 1) (by decide) (by decide))) (PSs.one AT))) (BN (PSb.one1 (PSb.mk (AS (AR (Ad K L) (pv 3) AC) (AE (AI (AG K (Av K PySem.F.plainAttrs_str PySem.F.slot_str_partition PySem.F.type_str_partition Kg (pv 1) (AA (pxt [32]) AB)) AC))) AT))) (BN (PSb.one1 (PSb.mk (AS (AR (Ad K L) (pv 3) AC) (AE (AI (AG K (Ac (AA (AJ AQ (AJ AQ (pv 1) (pxt [59,32])) (pv 1)) (AA (BS (Bc K) (AJ BO (AJ AQ (pv 1) (pxt [32])) (AJ AQ AC (AN (BG T) B (AA (pv 0) (AA AC AB))))) BW (BV AC)) AB))) (AN (BG T) B (AA (pv 0) (AA AC AB)))))) AT))) (BN (PSb.one1 (Es (i:=6) rfl nd rfl (Or.inl rfl) (Or.inl rfl) (Pl.con (pxt []) (Pl.con (pxt [32]) (Pl.con (pxt [114,111,119]) (Pl.con (pxt [114,111,119,32,97,98]) (Pl.con (pxt [114,111,119,32,97,98,32]) (Pl.con (pxt [114,111,119,32,32,40,41]) Pl.nil)))))))) (BN (PSb.one1 (Cg (i:=6) (j:=6) rfl nd rfl (Or.inl rfl) (Or.inl rfl) (PEb.mk (pv 6)) (Pl.con (pxt [82,111,119,32,97,98,32,40,41]) (Pl.con (pxt [110,117,109,98,101,114,32,97,98]) (Pl.con (pxt [110,117,109,98,101,114,32,97,98,32]) (Pl.con (pxt [107,105,110,100,115]) (Pl.con (pxt [107,105,110,100,115,32,48,52]) Pl.nil))))))) (BN (PSb.one1 (Cg (i:=6) (j:=6) rfl nd rfl (Or.inl rfl) (Or.inl rfl) (PEb.mk (pv 6)) (Pl.con (pxt [107,105,110,100,115,32,50,32,50]) (Pl.con (pxt [110,97,109,101,115,32,97,98]) (Pl.con (pxt [110,97,109,101,115,32]) (Pl.con (pxt [116,117,114,110,32,97,98]) Pl.nil)))))) (BN (PSb.one1 (Cg (i:=6) (j:=6) rfl nd rfl (Or.inl rfl) (Or.inl rfl) (PEb.mk (pv 6)) (Pl.con (pxt [116,117,114,110,32,97,98,32,110,111,110,101,32,97,98]) (Pl.con (pxt [98,101,104,105,110,100,32,97,98,32,97,98]) (Pl.con (pxt [98,101,104,105,110,100,32,97,98,32,97,98,32,97,98,32,97,98]) Pl.nil))))) (BN (PSb.one1 (Cg (i:=6) (j:=6) rfl nd rfl (Or.inl rfl) (Or.inl rfl) (PEb.mk (pv 6)) (Pl.con (pxt [110,116,104,32,97,98]) (Pl.con (pxt [110,116,104,32,97,98,32,48,32,48]) (Pl.con (pxt [110,116,104,32,48,32,97,98]) (Pl.con (pxt [115,104,111,119]) (Pl.con (pxt [115,104,111,119,32,97,98,32,97,98]) Pl.nil))))))) (BN (PSb.one1 (Cg (i:=6) (j:=6) rfl nd rfl (Or.inl rfl) (Or.inl rfl) (PEb.mk (pv 6)) (Pl.con (pxt [109,97,121,32,97,98,32,40,41]) (Pl.con (pxt [104,101,108,112]) (Pl.con (pxt [117,110,100,111]) (Pl.bin (AJ BO (pxt [120]) AC) (Pl.bin (AJ AQ (pxt [114,111,119,32,113,32]) (AJ BO (pxt [63]) AC)) Pl.nil))))))) (Qj (PSb.one1 (PSb.mk (AI (AG K (pv 6) (AN (BG T) B (AA (pv 0) (AA AC AB)))))))))))))))))))))))))))),?_⟩;simp only[CH];show BI po (by lia) (by lia) (λa1 H1 a10 a11 p1 s1=>?_);show BI p1 (by decide) (by decide) (λw H2 w0 w1 p2 s2=>?_);ext;have hsl:∀ (x y:List Nat),x.length+y.length<=1000->(x++y).length<=1000:=λx y h=>by rw[List.length_append];exact h
 refine K3 (small (hsl _ _ (by decide))) ?_;show BI p2 (by decide) (by decide) (λi H3 i0 i1 I s3=>?_);have J:=(s1.trans s2).trans s3;obtain⟨c,hc⟩:=LV i0 i1;refine B1 (c:=c) (small (hsl _ _ (by decide))) hc ?_;have ct:=λlo hi=>Nat.le_trans (LT l lo hi) M;have e:∀ (x y:List Nat) (n m:Nat),x.length<=n->y.length<=m->(x++y).length<=n+m:=λx y n m a b=>by rw[List.length_append];exact Nat.add_le_add a b
 have fn:∀t H',Po H' p->SameBut1 p H H'->t.length<=1000->Q (tx t) H':=q;have S:∀ (x y:List Nat) (G:Hp) (R:VK) (n m:Nat),x.length<=n->y.length<=m->n+m<=1000->R (tx (x++y)) G->rPlus (tx x) (tx y) G R:=λx y G R n m a b c r=>DT (small (by lia)) r;show ifd (λhk=>?_) (λhk=>?_)
 ·show S _ _ _ _ _ _ (ct _ _) (ct _ _) (by decide) ?_;exact fn _ _ I J (Nat.le_trans (e _ _ _ _ (ct _ _) (ct _ _)) (by decide))
 show ifd (λhk=>?_) (λhk=>?_)
 ·show S _ _ _ _ _ 1 (ct _ _) (Nat.le_refl _) (by decide) ?_;show S _ _ _ _ _ _ (e _ _ _ 1 (ct _ _) (Nat.le_refl _)) (ct _ _) (by decide) ?_;exact fn _ _ I J (Nat.le_trans (e _ _ _ _ (e _ _ _ 1 (ct _ _) (Nat.le_refl _)) (ct _ _)) (by decide))
 show ifd (λhk=>?_) (λhk=>?_)
 ·show S _ _ _ _ _ 1 (ct _ _) (Nat.le_refl _) (by decide) ?_;show S _ _ _ _ _ _ (e _ _ _ 1 (ct _ _) (Nat.le_refl _)) (ct _ _) (by decide) ?_;exact fn _ _ I J (Nat.le_trans (e _ _ _ _ (e _ _ _ 1 (ct _ _) (Nat.le_refl _)) (ct _ _)) (by decide))
 show ifd (λhk=>?_) (λhk=>?_)
 ·show⟨small (show 7<=1000 by decide),λz d=>?_⟩;have o:=OdL.mk I J d (b:=10) (xs:=[tx [32],tx [10],tx [32,49],tx [32,97,98],tx [9],tx [115],tx [32,40,41]]) (by repeat first|exact .nil|refine .cons (by decide) ?_) rfl (by decide);generalize upd H3 z _=H4 at*
  show BI o.po (by decide) (by decide) (λj H5 j0 j1 p5 s5=>?_);refine o.pick s5 j0 j1 λt ht U=>?_;refine S _ _ _ _ _ _ M ht (by decide) ?_;exact fn _ _ p5 U (Nat.le_trans (e _ _ _ _ M ht) (by decide))
 show ifd (λhk=>?_) (λhk=>?_)
 ·show⟨small (show 3<=1000 by decide),λz d=>?_⟩;have o:=OdL.mk I J d (b:=10) (xs:=[tx [32],tx [10],tx [116,104,101,32]]) (by repeat first|exact .nil|refine .cons (by decide) ?_) rfl (by decide);generalize upd H3 z _=H4 at*
  show BI o.po (by decide) (by decide) (λj H5 j0 j1 p5 s5=>?_);refine o.pick s5 j0 j1 λt ht U=>?_;ext;exact fn _ _ p5 U (Nat.le_trans (e _ _ _ _ ht M) (by decide))
 show ifd (λhk=>?_) (λhk=>?_)
 ·show⟨_,rfl,l,rfl,by lia,λl' h=>?_⟩;exact fn _ _ I J (by lia)
 show ifd (λhk=>?_) (λhk=>?_)
 ·ext;have hu1:=Ea l;have hu2:(BA l).length<=l.length:=Du 32 1 l _ (List.mem_of_mem_head? hu1);generalize BA l=u at*
  refine KI (by lia) hu1 (λz v v' d=>?_);have g1:=AF (H:=H3) (a:=z) (o:= .tup [tx u,v,v']);have t1:=AK d (.tup [tx u,v,v']);generalize upd H3 z _=H4 at*
  show A5 (SqT.of g1) rfl ?_;exact fn _ _ (I.same t1) (J.trans (SameBut1.of t1)) (by lia)
 show ifd (λhk=>?_) (λhk=>?_)
 ·ext;have h2:=e _ _ _ _ (e l [59,32] _ 2 M (Nat.le_refl 2)) M;have h3:=e l [32] _ 1 M (Nat.le_refl 1);generalize l++[59,32]++l=b1 at*
  generalize l++[32]=Z at*
  refine BI I (by decide) (by decide) (λj H5 j0 j1 p5 s5=>?_);show EA (by lia) (by lia) (by lia) ?_;have h4:(List.replicate (2+j).toNat Z).flatten.length<=302*201:=by
   rw[Er];exact Nat.mul_le_mul (by lia) h3
  generalize(List.replicate (2+j).toNat Z).flatten=b3 at*
  show Li (Nat.le_trans h4 (by rw[sizeLine_eq];decide)) ?_;rw[DW b3 (by decide)];show⟨small (show 2<=1000 by decide),λz d=>?_⟩;have o:=OdL.mk p5 (J.trans s5) d (b:=1000) (n:=2) (xs:=[tx b1,tx (b3.take (1000:Int).toNat)]) (.cons (Nat.le_trans h2 (by decide))<| .cons (List.length_take_le _ _) .nil) rfl (by decide);generalize upd H5 z _=H6 at*
  show BI o.po (by decide) (by decide) (λj7 H7 X Y p7 s7=>?_);exact o.pick s7 X Y λt ht U=>fn _ _ p7 U ht
 show⟨small (show 6<=1000 by decide),λz d=>?_⟩;have o1:=OdL.mk I J d (b:=1000) (xs:=[tx [],tx [32],tx [114,111,119],tx [114,111,119,32,97,98],tx [114,111,119,32,97,98,32],tx [114,111,119,32,32,40,41]]) (by repeat first|exact .nil|refine .cons (by decide) ?_) rfl (by decide);ext;generalize upd H3 z _=G1 at*
 refine⟨small (show 5<=1000 by decide),λl2 hl2=>?_⟩;refine o1.add hl2 (by repeat first|exact .nil|refine .cons (by decide) ?_) (m:=11) rfl (by decide) (λm2 G2 o2=>?_);show⟨small (show 4<=1000 by decide),λl3 hl3=>?_⟩;refine o2.add hl3 (by repeat first|exact .nil|refine .cons (by decide) ?_) (m:=15) rfl (by decide) (λm3 G3 o3=>?_);show⟨small (show 3<=1000 by decide),λl4 hl4=>?_⟩;refine o3.add hl4 (by repeat first|exact .nil|refine .cons (by decide) ?_) (m:=18) rfl (by decide) (λm4 G4 o4=>?_);show⟨small (show 5<=1000 by decide),λl5 hl5=>?_⟩;refine o4.add hl5 (by repeat first|exact .nil|refine .cons (by decide) ?_) (m:=23) rfl (by decide) (λm5 G5 o5=>?_);show EA (by decide) (by decide) (by decide) ?_;have h1:(List.replicate (1000:Int).toNat [120]).flatten.length<=1000:=by rw[Er];decide
 generalize(List.replicate (1000:Int).toNat [120]).flatten=b1 at*
 show EA (by decide) (by decide) (by decide) ?_;have h2:(List.replicate (900:Int).toNat [63]).flatten.length<=900:=by rw[Er];decide
 generalize(List.replicate (900:Int).toNat [63]).flatten=Z at*
 refine S [114,111,119,32,113,32] Z _ _ 6 _ (Nat.le_refl 6) h2 (by decide) ?_;have h3:=e [114,111,119,32,113,32] Z 6 _ (Nat.le_refl 6) h2;generalize [114,111,119,32,113,32]++Z=b3 at*
 show⟨small (show 5<=1000 by decide),λl6 hl6=>?_⟩;refine o5.add hl6 (.cons (by decide)<| .cons (by decide)<| .cons (by decide)<| .cons h1<| .cons (Nat.le_trans h3 (by decide)) .nil) (m:=28) rfl (by decide) (λm6 G6 o6=>?_);show BI o6.po (by decide) (by decide) (λj7 H7 X Y p7 s7=>?_);exact o6.pick s7 X Y λt ht U=>fn _ _ p7 U ht
def He:Af P w K mg base (k+10) "_law_new_desk" [] (spNewDesk aE):=FnA.uE (T.f.at 70) (scN ["desk","row"]) λnd _ _ _ _ _ H _ _ _ Q h=>by
 obtain⟨rfl,q⟩:=h;have hu:=Q.units0;have hu2:=Au Q;refine BC ⟨_,(AD (AO 0 (SM (Mv T) Q T.E.c)) (AD (A8 PassesOwn.never rfl (C7 K (Ac (AA (pxt [114,111,119,32,97,98,32,40,63]) (AA (pxt [114,111,119,32,110,111,110,101,32]) AB)))) (Ap 1) (AE (Am (KY T.E.cl (Hu T) Q A9 (pv 0) (AA (pv 1) AB))))) (AE (AI (pv 0))))),?_⟩;ext;intro d Y hd G hne;show⟨d,Y,rfl,AF,λr H1 I fb dk=>⟨rfl,?_⟩⟩;have J:H r=none:=by
  by_cases z:r=d
  ·rw[z];exact hd
  ·rw[AH z]at I
   by_cases z2:r=Y
   ·rw[z2];exact G
   ·rwa[AH z2]at I
 have Z:Same H H1:=λb o z=>fb b o (by rw[AH (AM z hd),AH (AM z G)];exact z) (by simp;exact AM z hd);show⟨small (show 2<=1000 by decide),λl1 p=>?_⟩;have t1:=AK p (.lst [tx [114,111,119,32,97,98,32,40,63],tx [114,111,119,32,110,111,110,101,32]]);have g1:=AF (H:=H1) (a:=l1) (o:= .lst [tx [114,111,119,32,97,98,32,40,63],tx [114,111,119,32,110,111,110,101,32]]);have R:=dk.same t1;have s2:=Z.trans t1;have nl:H l1=none:=Z.free p;have n1:l1≠r:=λe=>by rw[e,dk.2]at p;cases p
 generalize upd H1 l1 _=H2 at*
 show⟨l1,rfl,⟨_,SqL.of g1⟩,?_⟩;refine F9 (xs:=[tx [114,111,119,32,97,98,32,40,63],tx [114,111,119,32,110,111,110,101,32]]) (λi σ v=>∃o,σ=[some (.ref d),o]/\Same H v/\v l1=some (.lst [tx [114,111,119,32,97,98,32,40,63],tx [114,111,119,32,110,111,110,101,32]])/\Dk aE v d r 4 (kv0.take i)) ⟨_,rfl,s2,g1,R⟩ (λi σ v _ ⟨_,_,_,g,_⟩=>SqL.of g) ?_ ?_
 ·intro i x σ v y S;obtain⟨o,rfl,U,g,j⟩:=S;ext;obtain⟨⟨X,L⟩,_⟩:=id j;refine⟨d,X,_,rfl,L,rfl,?_⟩;ext;have nd:d≠l1:=λe=>by rw[<-e,L]at g;cases g
  have done:∀l,FB [r] v l->Dk aE l d r 4 (kv0.take (i+1))->Same H l/\l l1=some (.lst [tx [114,111,119,32,97,98,32,40,63],tx [114,111,119,32,110,111,110,101,32]])/\Dk aE l d r 4 (kv0.take (i+1)):=λl B M=>⟨λb o z=>B b o (U _ _ z) (by simp;exact AM z J),B _ _ g (by simp;exact n1),M⟩
  match i,y with
  |0,y=>
   cases y
   refine JU j (by decide) (by decide) (by decide) (by decide) Ut (by decide) (λl B M=>?_);ext;exact⟨_,rfl,done l B M⟩
  |1,y=>
   cases y
   refine JU j (by decide) (by decide) (by decide) (by decide) Q5 (by decide) (λl B M=>?_);ext;exact⟨_,rfl,done l B M⟩
  |i+2,y=>simp at y
 ·intro σ v S;obtain⟨o,rfl,U,g,j⟩:=S;ext;exact q d r v hd J U j
def Up{f:Addr}(F:Fun K "law" "law" (top 114) f fd):FnOk P w K mg base CX0 (k+11) f fd ["script"] (Ln ["script"] (spLaw K)):=WK F (scN ["script","desk","k","pool","row","odd","right","found","stands"]) λnd _ _ _ _ _ H _ _ _ M h=>by
 obtain⟨sa,ms,rfl,hsc,hms,q⟩:=h;have hu:=M.units0;have hu2:=Au M;refine⟨_,(AD (AO 1 (Ka (He T) M A9)) (AD (A8 PassesOwn.never rfl (CM rfl (T.N 10) (AA (Aj (QE rfl) rfl (T.N 9) PyProof.Rows.boot_max (AA AC (AA (Aa K (T.N 7) (AA (pv 0) AB)) AB))) AB)) (Ap 2) (AD (AO 3 (AN (Nw T) M (AA (pv 0) (AA (pv 2) AB)))) (AD (AO 4 (AN (NX T) M (AA (pv 3) AB))) (AD (AS (AR Ct (AN (BG T) M (AA (pv 3) (AA AC AB))) AC) (AE (AO 4 (AN (M6 T) M (AA (pv 3) (AA (pv 4) AB))))) AT) (AD (AS (AR (Ad K hu) (AN (BG T) M (AA (pv 3) (AA AC AB))) AC) (AD (PSb.ps (Es (i:=5) rfl nd rfl (Or.inl rfl) (Or.inl rfl) (Pl.con Ao (Pl.con AC (Pl.con Bq (Pl.lst (Ac (AA (pxt [110,97,109,101,115]) AB)) (Pl.tup (BY (AA (pxt [110,97,109,101,115]) AB)) (Pl.dct F3 Pl.nil)))))))) (AD (PSb.ps (Cg (i:=5) (j:=5) rfl nd rfl (Or.inl rfl) (Or.inl rfl) (PEb.mk (pv 5)) (Pl.con AC (Pl.lst (Ac AB) (Pl.tup (BY AB) (Pl.lst (Ac (AA (pxt [115,104,111,119]) (AA (pxt [97,98]) AB))) (Pl.tup (BY (AA (pxt [100,114,111,112]) (AA (pxt [97,98]) AB))) (Pl.dct (GP (JZ (pxt [115,104,111,119]) (pxt [97,98]) KQ) rfl rfl (by intro h;cases h) (by decide)) Pl.nil)))))))) (AE (AO 4 (AG K (pv 5) (AN (BG T) M (AA (pv 3) (AA AC AB)))))))) AT) (AD (AO 6 (AN (NI T) M (AA (pv 4) AB))) (AD (AO 7 (AN (Fc T) M (AA (pv 1) (AA (pv 4) AB)))) (AD (AS (PW.pt (BZ (AR (Ad K hu) (pv 7) (pxt [111,100,100])) (Bi (AR (Ad K hu) (BD (Ad K hu) (pv 7) (pxt [9,78,111,82,111,119])) (pv 6))))) (AE (AI Bq)) AT) (AE (AS (BB (Ar K (pv 6))) (AD (AO 8 (AJ AQ (Ac (AA (AN (Fc T) M (AA (pv 1) (AA (pxt [115,104,111,119,32,97,98]) AB))) (AA (AN (Fc T) M (AA (pv 1) (AA (pxt [115,104,111,119,32,110,111,110,101]) AB))) AB))) (KZ T.E.cl (NJ T) M (pv 1)))) (AE (AS (AR (CU K hu) (pv 8) (Ac (AA (pxt [40,63]) (AA (pxt [110,111,110,101]) (AA (pxt [97,98]) (AA (pxt [110,111,110,101]) AB)))))) (AE (AI Bq)) AT))) (AE (AO 1 (Ka (He T) M A9))))))))))))) (AE (AI Bq)))),?_⟩;clear hu hu2 M;simp only[CH];show⟨rfl,λd0 r0 G0 hd0 hr0 s0 dk0=>?_⟩;show A7 (.inl (s0.seq hsc)) ?_;rw[List.length_map];show⟨_,rfl,by lia,by lia,?_⟩;refine Jn (λi σ H'=>∃d r o2 o3 o4 o5 o6 o7 o8,σ=[some (.ref sa),some (.ref d),o2,o3,o4,o5,o6,o7,o8]/\Same H H'/\H d=none/\H r=none/\Dk aE H' d r 4 kv0) ⟨d0,r0,_,_,_,_,_,_,_,rfl,s0,hd0,hr0,dk0⟩ ?_ ?_
 rotate_left
 ·intro σ H' z_;obtain⟨d,r,o2,o3,o4,o5,o6,o7,o8,rfl,_⟩:=z_;ext;exact q H'
 intro i σ H' hi z_;obtain⟨d,r,o2,o3,o4,o5,o6,o7,o8,rfl,sH,hd,M,dk⟩:=z_;show PB (sH.seq hsc) (by lia) (by lia) (λp H1 hp s1 po1=>?_);have X:H p=none:=sH.free hp;have dk1:=dk.same s1;have sH1:=sH.trans s1;have Y:d≠p:=λe=>by
  obtain⟨⟨_,z⟩,_⟩:=dk;rw[e,hp]at z;cases z
 have Z:r≠p:=λe=>by
  have z:=dk.2;rw[e,hp]at z;cases z
 show⟨p,rfl,po1,λt H2 po2 s2 ht=>?_⟩;have dk2:=dk1.but s2 Y Z;have sH2:=SameBut1.fresh sH1 s2 X;refine HC ?_;refine Lk (λσ' G=>∃l,σ'=[some (.ref sa),some (.ref d),some (.int (0+(i:Int))),some (.ref p),some (tx l),o5,o6,o7,o8]/\l.length<=1000/\Po G p/\Same H G/\Dk aE G d r 4 kv0) ?_ (λrest=>?_)
 rotate_left
 ·show BI po2 (by decide) (by decide) (λS H3 a30 a31 po3 s3=>?_);have dk3:=dk2.but s3 Y Z;have sH3:=SameBut1.fresh sH2 s3 X;show ifd (λhc=>?_) (λhc=>?_)
  ·show⟨p,t,rfl,po3,ht,λt4 H4 po4 s4 ht4=>?_⟩;exact rest _ _ ⟨t4,rfl,ht4,po4,SameBut1.fresh sH3 s4 X,dk3.but s4 Y Z⟩
  ·exact rest _ _ ⟨t,rfl,by lia,po3,sH3,dk3⟩
 intro σ' G z_;obtain⟨l,rfl,hl,po,sG,dkG⟩:=z_
 dsimp only
 refine HC ?_;refine Lk (λσ' G=>∃v o5,σ'=[some (.ref sa),some (.ref d),some (.int (0+(i:Int))),some (.ref p),some v,o5,o6,o7,o8]/\RowD K G v/\Same H G/\Dk aE G d r 4 kv0) ?_ (λrest=>?_)
 rotate_left
 ·show BI po (by decide) (by decide) (λU H5 a50 a51 po5 s5=>?_);have dk5:=dkG.but s5 Y Z;have sH5:=SameBut1.fresh sG s5 X;show ifd (λhc=>?_) (λhc=>?_)
  ·show⟨small (show 1<=1000 by decide),λa1 ha1=>?_⟩;have t6:=AK ha1 (.lst [tx [110,97,109,101,115]]);have o_a1:Odp K p (upd H5 a1 (.lst [tx [110,97,109,101,115]])) (.ref a1):= .lst po5 ha1;have g_a1:=AF (H:=H5) (a:=a1) (o:= .lst [tx [110,97,109,101,115]]);have po_6:=po5.same t6;have sm_6:=sH5.trans t6;have dk_6:=dk5.same t6;generalize upd H5 a1 _=J6 at*
   show⟨small (show 1<=1000 by decide),λa2 ha2=>?_⟩;have t7:=AK ha2 (.tup [tx [110,97,109,101,115]]);have o_a2:Odp K p (upd J6 a2 (.tup [tx [110,97,109,101,115]])) (.ref a2):= .tup po_6 ha2;have g_a2:=AF (H:=J6) (a:=a2) (o:= .tup [tx [110,97,109,101,115]]);have po_7:=po_6.same t7;have sm_7:=sm_6.trans t7;have dk_7:=dk_6.same t7
   replace o_a1:=o_a1.same t7
   generalize upd J6 a2 _=J7 at*
   ext;intro S ha3;have t8:=AK ha3 (.dK []);have o_a3:Odp K p (upd J7 S (.dK [])) (.ref S):= .dct po_7 ha3;have g_a3:=AF (H:=J7) (a:=S) (o:= .dK []);have po_8:=po_7.same t8;have sm_8:=sm_7.trans t8;have dk_8:=dk_7.same t8
   replace o_a1:=o_a1.same t8
   replace o_a2:=o_a2.same t8
   generalize upd J7 S _=J8 at*
   show⟨small (show 6<=1000 by decide),λb1 hb1=>?_⟩;have t9:=AK hb1 (.lst [.non, .int 7, .bl true, .ref a1, .ref a2, .ref S]);have o_b1:Odp K p (upd J8 b1 (.lst [.non, .int 7, .bl true, .ref a1, .ref a2, .ref S])) (.ref b1):= .lst po_8 hb1;have g_b1:=AF (H:=J8) (a:=b1) (o:= .lst [.non, .int 7, .bl true, .ref a1, .ref a2, .ref S]);have po_9:=po_8.same t9;have sm_9:=sm_8.trans t9;have dk_9:=dk_8.same t9
   replace o_a1:=o_a1.same t9
   replace o_a2:=o_a2.same t9
   replace o_a3:=o_a3.same t9
   generalize upd J8 b1 _=J9 at*
   show⟨small (show 0<=1000 by decide),λa4 ha4=>?_⟩;have R:=AK ha4 (.lst []);have o_a4:Odp K p (upd J9 a4 (.lst [])) (.ref a4):= .lst po_9 ha4;have g_a4:=AF (H:=J9) (a:=a4) (o:= .lst []);have po_10:=po_9.same R;have sm_10:=sm_9.trans R;have dk_10:=dk_9.same R
   replace o_a1:=o_a1.same R
   replace o_a2:=o_a2.same R
   replace o_a3:=o_a3.same R
   replace o_b1:=o_b1.same R
   replace g_b1:=R _ _ g_b1
   generalize upd J9 a4 _=J10 at*
   show⟨small (show 0<=1000 by decide),λU ha5=>?_⟩;have Q:=AK ha5 (.tup []);have o_a5:Odp K p (upd J10 U (.tup [])) (.ref U):= .tup po_10 ha5;have g_a5:=AF (H:=J10) (a:=U) (o:= .tup []);have po_11:=po_10.same Q;have sm_11:=sm_10.trans Q;have dk_11:=dk_10.same Q
   replace o_a1:=o_a1.same Q
   replace o_a2:=o_a2.same Q
   replace o_a3:=o_a3.same Q
   replace o_b1:=o_b1.same Q
   replace o_a4:=o_a4.same Q
   replace g_b1:=Q _ _ g_b1
   generalize upd J10 U _=J11 at*
   show⟨small (show 2<=1000 by decide),λa6 ha6=>?_⟩;have L:=AK ha6 (.lst [tx [115,104,111,119],tx [97,98]]);have o_a6:Odp K p (upd J11 a6 (.lst [tx [115,104,111,119],tx [97,98]])) (.ref a6):= .lst po_11 ha6;have g_a6:=AF (H:=J11) (a:=a6) (o:= .lst [tx [115,104,111,119],tx [97,98]]);have po_12:=po_11.same L;have sm_12:=sm_11.trans L;have dk_12:=dk_11.same L
   replace o_a1:=o_a1.same L
   replace o_a2:=o_a2.same L
   replace o_a3:=o_a3.same L
   replace o_b1:=o_b1.same L
   replace o_a4:=o_a4.same L
   replace o_a5:=o_a5.same L
   replace g_b1:=L _ _ g_b1
   generalize upd J11 a6 _=J12 at*
   show⟨small (show 2<=1000 by decide),λa7 ha7=>?_⟩;have J:=AK ha7 (.tup [tx [100,114,111,112],tx [97,98]]);have o_a7:Odp K p (upd J12 a7 (.tup [tx [100,114,111,112],tx [97,98]])) (.ref a7):= .tup po_12 ha7;have g_a7:=AF (H:=J12) (a:=a7) (o:= .tup [tx [100,114,111,112],tx [97,98]]);have po_13:=po_12.same J;have sm_13:=sm_12.trans J;have dk_13:=dk_12.same J
   replace o_a1:=o_a1.same J
   replace o_a2:=o_a2.same J
   replace o_a3:=o_a3.same J
   replace o_b1:=o_b1.same J
   replace o_a4:=o_a4.same J
   replace o_a5:=o_a5.same J
   replace o_a6:=o_a6.same J
   replace g_b1:=J _ _ g_b1
   generalize upd J12 a7 _=J13 at*
   show Ep [([115,104,111,119],[97,98])] (by decide) (λa8 ha8=>?_);have I:=AK ha8 (.dK (A3 [] ([([115,104,111,119],[97,98])].map λx=>(kyT x.1,tx x.2))));have o_a8:Odp K p (upd J13 a8 (.dK (A3 [] ([([115,104,111,119],[97,98])].map λx=>(kyT x.1,tx x.2))))) (.ref a8):= .dct po_13 ha8;have g_a8:=AF (H:=J13) (a:=a8) (o:= .dK (A3 [] ([([115,104,111,119],[97,98])].map λx=>(kyT x.1,tx x.2))));have po_14:=po_13.same I;have sm_14:=sm_13.trans I;have dk_14:=dk_13.same I
   replace o_a1:=o_a1.same I
   replace o_a2:=o_a2.same I
   replace o_a3:=o_a3.same I
   replace o_b1:=o_b1.same I
   replace o_a4:=o_a4.same I
   replace o_a5:=o_a5.same I
   replace o_a6:=o_a6.same I
   replace o_a7:=o_a7.same I
   replace g_b1:=I _ _ g_b1
   generalize upd J13 a8 _=J14 at*
   show⟨small (show 6<=1000 by decide),λb2 hb2=>?_⟩;have B:=AK hb2 (.lst [.int 0, .ref a4, .ref U, .ref a6, .ref a7, .ref a8]);have o_b2:Odp K p (upd J14 b2 (.lst [.int 0, .ref a4, .ref U, .ref a6, .ref a7, .ref a8])) (.ref b2):= .lst po_14 hb2;have g_b2:=AF (H:=J14) (a:=b2) (o:= .lst [.int 0, .ref a4, .ref U, .ref a6, .ref a7, .ref a8]);have po_15:=po_14.same B;have sm_15:=sm_14.trans B;have dk_15:=dk_14.same B
   replace o_a1:=o_a1.same B
   replace o_a2:=o_a2.same B
   replace o_a3:=o_a3.same B
   replace o_b1:=o_b1.same B
   replace o_a4:=o_a4.same B
   replace o_a5:=o_a5.same B
   replace o_a6:=o_a6.same B
   replace o_a7:=o_a7.same B
   replace o_a8:=o_a8.same B
   replace g_b1:=B _ _ g_b1
   generalize upd J14 b2 _=J15 at*
   show DB g_b1 g_b2 (small (show 12<=1000 by decide)) (λb3 hb3=>?_);have y:=AK hb3 (.lst ([.non, .int 7, .bl true, .ref a1, .ref a2, .ref S]++[.int 0, .ref a4, .ref U, .ref a6, .ref a7, .ref a8]));have o_b3:Odp K p (upd J15 b3 (.lst ([.non, .int 7, .bl true, .ref a1, .ref a2, .ref S]++[.int 0, .ref a4, .ref U, .ref a6, .ref a7, .ref a8]))) (.ref b3):= .lst po_15 hb3;have g_b3:=AF (H:=J15) (a:=b3) (o:= .lst ([.non, .int 7, .bl true, .ref a1, .ref a2, .ref S]++[.int 0, .ref a4, .ref U, .ref a6, .ref a7, .ref a8]));have po_16:=po_15.same y;have sm_16:=sm_15.trans y;have dk_16:=dk_15.same y
   replace o_a1:=o_a1.same y
   replace o_a2:=o_a2.same y
   replace o_a3:=o_a3.same y
   replace o_b1:=o_b1.same y
   replace o_a4:=o_a4.same y
   replace o_a5:=o_a5.same y
   replace o_a6:=o_a6.same y
   replace o_a7:=o_a7.same y
   replace o_a8:=o_a8.same y
   replace o_b2:=o_b2.same y
   replace g_b1:=y _ _ g_b1
   replace g_b2:=y _ _ g_b2
   generalize upd J15 b3 _=J16 at*
   show BI po_16 (by decide) (by decide) (λa9 H9 a90 a91 po9 s9=>?_);obtain⟨v,hv,hat⟩:=Ls (xs:=[.non, .int 7, .bl true, .ref a1, .ref a2, .ref S]++[.int 0, .ref a4, .ref U, .ref a6, .ref a7, .ref a8]) a90 (by show a9<((12:Nat):Int);lia);refine AL (SqL.of (s9 _ _ g_b3 (o_b3.2 _ rfl))) hat ?_;have od:Odp K p J16 v:=by
    simp only[List.cons_append,List.nil_append,List.mem_cons,List.not_mem_nil,or_false]at hv;rcases hv with rfl|rfl|rfl|rfl|rfl|rfl|rfl|rfl|rfl|rfl|rfl|rfl
    ·exact .non
    ·exact .int 7
    ·exact .bl true
    ·exact o_a1
    ·exact o_a2
    ·exact o_a3
    ·exact .int 0
    ·exact o_a4
    ·exact o_a5
    ·exact o_a6
    ·exact o_a7
    ·exact o_a8
   exact rest _ _ ⟨v,_,rfl,od.drawn s9,SameBut1.fresh sm_16 s9 X,dk_16.but s9 Y Z⟩
  ·exact rest _ _ ⟨tx l,_,rfl, .inl ⟨l,rfl,hl⟩,sH5,dk5⟩
 intro σ' G6 z_;obtain⟨v,o5',rfl,rd,sG6,dk6⟩:=z_;obtain⟨b,hR,hT,hF⟩:=rd.is;show⟨v,b,rfl,hR,λH7 s7=>?_⟩;have dk7:=dk6.same s7;have sH7:=sG6.trans s7;ext
 cases b with
 |true=>
  obtain⟨l2,rfl,hl2,hk2⟩:=hT rfl;obtain⟨x,hk3⟩:=Option.isSome_iff_exists.mp hk2;refine Nh dk7 hl2 hk3 (λf8 H8 f1 f2 fb=>?_);have s8:Same H H8:=λb o z=>fb b o (sH7 _ _ z) (by simp;exact⟨AM z hd,AM z M⟩);show ifq (decide_eq_false f1) ?_;ext;rw[decide_eq_false f2];show ifq (by decide) ?_;show ifq rfl ?_;show⟨rfl,λd9 r9 H9 hd9 hr9 s9 dk9=>?_⟩;ext;exact⟨d9,r9,_,_,_,_,_,_,_,rfl,s8.trans s9,s8.free hd9,s8.free hr9,dk9⟩
 |false=>
  refine QV dk7 ((hF rfl).same s7) (λH8 s8=>?_);have dk8:=dk7.same s8;have sH8:=sH7.trans s8;show ifq (by decide) ?_;show ifq (by decide) ?_;show ifp rfl ?_;show IF dk8 (by decide) Sk (a:=[40,63]) rfl ⟨by decide,by decide,by decide⟩ (by decide) (λH9 s9=>?_);have dk9:=dk8.same s9;show IF dk9 (by decide) Pi (a:=[]) rfl ⟨by decide,by decide,by decide⟩ (by decide) (λH10 s10=>?_);have dk10:=dk9.same s10;have sH10:=(sH8.trans s9).trans s10;show⟨small (show 2<=1000 by decide),λl1 hl1=>?_⟩;have t1:=AK hl1 (.lst [tx (shw [40,63]),tx (shw [])]);have g1:=AF (H:=H10) (a:=l1) (o:= .lst [tx (shw [40,63]),tx (shw [])]);have dk11:=dk10.same t1;have sH11:=sH10.trans t1;generalize upd H10 l1 _=H11 at*
  obtain⟨⟨dx,e1⟩,_⟩:=id dk11;show⟨d,dx,_,rfl,e1,rfl,?_⟩;show⟨d,r,4,kv0,_,rfl,dk11,MN,λl2 H12 hl2 s12 g2=>?_⟩;refine DB (s12 _ _ g1) g2 (small (show 4<=1000 by decide)) (λl3 hl3=>?_);have t3:=AK hl3 (.lst ([tx (shw [40,63]),tx (shw [])]++[[97,98],[110,111,110,101]].map tx));have g3:=AF (H:=H12) (a:=l3) (o:= .lst ([tx (shw [40,63]),tx (shw [])]++[[97,98],[110,111,110,101]].map tx));have dk13:=(dk11.same s12).same t3;have sH13:=(sH11.trans s12).trans t3;generalize upd H12 l3 _=H13 at*
  show⟨small (show 4<=1000 by decide),λl4 hl4=>?_⟩;have t4:=AK hl4 (.lst [tx [40,63],tx [110,111,110,101],tx [97,98],tx [110,111,110,101]]);refine Lj (SqL.of (t4 _ _ g3)) (SqL.of AF) rfl rfl ?_;ext;exact⟨d,r,_,_,_,_,_,_,_,rfl,sH13.trans t4,hd,M,dk13.same t4⟩
end
def fin{K:W.Frag}{fa aK x0 x1 x2 x3 x4 x5 x6 x7 x8 x9 x10 x11 aC aE aF aD:Addr}(d:mg "law"=some (.ref fa))(T:Txt l.prog w K mg aK ⟨x0,x1,x2,x3,x4,x5,x6,x7,x8,x9,x10,x11⟩ aC aE aF aD):∃fd:FuncData,(∀ (s:Shared) (v:Value),BindsTo s fd ⟨[v],[]⟩ [("script",v)])/\∀base:Heap,K.In base->base.Ns mainGlobals mg->FnOk l.prog w K mg base CX0 11 fa fd ["script"] (spLaw K):=
 let⟨fd,a,b⟩:=Us (T.f.at 71) d (λ_ _ _ _ _ _ _ _=> .of_eq rfl) λ_ _ _ F=>Up (k:=0) T F
 ⟨fd,a,λbase x y=>(b base x y).imp λvs H Q E h=>⟨by obtain⟨a,ns,rfl,_⟩:=h;rfl,h⟩⟩
def walk{d:DefRec}(e:l.most=some 63)(b:d.params.defaults=[])
 (i:∀ (w:World) (h:Heap),YP w h->(K w.params).In h)
 (F:∀ (w:World) (mg:Str->Option Value) (fa:Addr) (h:Heap),(K w.params).In h->h.Ns mainGlobals mg->mg d.name=some (.ref fa)->
   ∃fd:FuncData,(∀ (s:Shared) (u:Value),BindsTo s fd ⟨[u],[]⟩ [("script",u)])/\∀base:Heap,(K w.params).In base->base.Ns mainGlobals mg->FnOk l.prog w (K w.params) mg base CX0 11 fa fd ["script"] (spLaw (K w.params))):
 W.WalkO q loose XP YP l.row.toRowW d [] (λf vs=>PySem.call f vs):=
 L2.walk_of (n:=63) (k:=11) (x:="script") (CX:=λ_=>CX0) (sp:=λw=>spLaw (K w.params)) e (by decide) b ⟨rfl,by decide,by decide,rfl⟩ i F (λ_ _ a ns j _ o=>⟨a,ns,rfl,o,j,λ_=>rfl⟩) λ_ _ _ _ _ z=>z
end Bk
namespace PySem.W.Fast
def tw4276643777084708375:=0
def tw14217643906185035490:=0
def tw12102039848435159193:=0
def tw3836944303398394199:=0
def tw7067929479843367341:=0
def tw10579497285915784347:=0
def tw10971370834486690502:=0
def tw1925902529973965496:=0
def tw6581164493973789980:=0
def tw18156522112974928196:=0
def tw13562109817591343706:=0
def tw7413945128578782627:=0
def tw14172278544515390147:=0
def tw14800454986325054146:=0
def tw6487905641310342139:=0
def tw3062108300435684265:=0
def tw6051038605454083475:=0
def tw7492471059230372481:=0
def tw10609013470348215689:=0
def tw49547103694914939:=0
def tw17305319345302902743:=0
def tw14231744013665658116:=0
def tw4742950736392900859:=0
def tw11646592328472855180:=0
def tw8695293094038552226:=0
def tw640578044527064902:=0
def tw13589839472001898028:=0
def tw7728830251814941211:=0
def tw38825253995537599:=0
def tw7377468257524845469:=0
def tw4337281283341725580:=0
def tw10891686813032755615:=0
def tw10428904252218339691:=0
def tw11897789055782679465:=0
def tw7797007491050026593:=0
def tw16426857518780528477:=0
def tw866164868041945390:=0
def tw14302291133276628084:=0
def tw5755457587956488311:=0
def tw17669946100009262007:=0
def tw11381552231278739370:=0
def tw16259905130967759974:=0
def tw3609252129142878866:=0
def tw3267130251093653721:=0
def tw15942744235242383945:=0
def tw9631086054534995052:=0
def tw17166324517281760080:=0
def tw11167378642501768588:=0
def tw2885508260260527683:=0
def tw4363363462050558149:=0
def tw11891490052745638550:=0
def tw3626072399416693288:=0
def tw1917387097021777958:=0
def tw9731148459679762508:=0
def tw5730809545133307746:=0
def tw12358267454655200769:=0
def tw15026770264171758910:=0
def tw17524764168117387130:=0
def tw5224709601958906975:=0
def tw14163307482020396776:=0
def tw6035894823395098839:=0
def tw4774181138987819285:=0
def tw11122814020659545717:=0
def tw9815003168559745588:=0
def tw17004403405576363506:=0
def tw152271168944182279:=0
def tw6422659982872840951:=0
def tw15890045393747976656:=0
def tw15561580099505963858:=0
def tw616902854630672698:=0
def tw13248130723401483531:=0
def tw2311432437943676278:=0
def tw9709523232847139879:=0
def tw12875619157111927880:=0
def tw18346275614007489826:=0
def tw13573092192399458872:=0
def tw17673789570088605648:=0
def tw11143207288067852593:=0
def tw3444810818955880570:=0
def tw6701038829520917935:=0
def tw6931702506079261406:=0
def tw11484187215455580300:=0
def tw4814747308453567984:=0
def tw17466572076129147939:=0
def tw3738590869683234494:=0
def tw18123722927601930149:=0
def tw17341237156722470746:=0
def tw14686697718233716115:=0
def tw17148584877381339864:=0
def tw9980520978723075000:=0
def tw5658123066520829654:=0
def tw6518296395246253364:=0
def tw5828148387957177788:=0
def tw17230360926476323927:=0
def tw12722668458849165341:=0
def tw18383693816834125651:=0
def tw3265246050710824892:=0
def tw10468971455266196908:=0
def tw9352629925505052081:=0
def tw13613253000005628086:=0
def tw10960149148543388313:=0
def tw273852190910996256:=0
def tw11765541114270776547:=0
def tw12958232506992020694:=0
def tw17053970627324959040:=0
def tw14027092763147106045:=0
def tw9936989057024031622:=0
def tw2702153387722138673:=0
def tw16389074417930726727:=0
def tw1981221523619543610:=0
def tw14838906663565648916:=0
def tw17066667661050482367:=0
def tw3237302730630710323:=0
def tw12480114994826652650:=0
def tw9664894263017342941:=0
def tw11966269291552080749:=0
def tw11188592061316611795:=0
def tw16118654163551035112:=0
def tw17355997541486787075:=0
def tw12597789973419733034:=0
def tw12278147388961641027:=0
def tw12150756729145565936:=0
def tw15098603654992836815:=0
def tw15109901119184847326:=0
def tw7842570377717435898:=0
def tw15719804339719884609:=0
def tw10176748216643864213:=0
def tw11680560621420033306:=0
def tw2734376691702453822:=0
def tw11610152052962908470:=0
def tw15118384109367338046:=0
def tw15828015686674365164:=0
def tw2347520777350923353:=0
def tw14310788999769189018:=0
def tw9898886659567938204:=0
def tw5923460892316997151:=0
def tw17407476710121994252:=0
def tw7182836596482670017:=0
def tw9451138058098205590:=0
def tw12858028598809475784:=0
def tw3171778317619408771:=0
def tw3683210005606383419:=0
def tw8140409504038607516:=0
def tw1347402393795865186:=0
def tw12255223575178020489:=0
def tw16818968064003373693:=0
def tw17300708191963395123:=0
def tw14579031036135897756:=0
def tw1204385894931874318:=0
def tw9300826739592983422:=0
def tw5960194107738158103:=0
def tw5264922617664401415:=0
def tw1732345331016612736:=0
def tw9235053430170410278:=0
def tw13647754451853532638:=0
def tw13442755617924748713:=0
def tw11198197716262915507:=0
def tw17013460121625758655:=0
def tw6899165943804874447:=0
def tw1812970921557511939:=0
def tw9779730682403958462:=0
def tw4601163610357574534:=0
def tw1432494453758794391:=0
def tw11647627653602494440:=0
def tw7801197035119782584:=0
def tw16115291448107739336:=0
def tw14356592975367719588:=0
def tw10354493309880832309:=0
def tw3382400287184895651:=0
def tw8374007948008264855:=0
def tw4347126918767912610:=0
def tw11564499836823272393:=0
def tw5389559058696861765:=0
def tw9146350085988382041:=0
def tw14924638056148038808:=0
def tw8634571652540104272:=0
def tw5317137782000805526:=0
def tw2970463314444984444:=0
def tw13279706782386361940:=0
def tw13329344784975846929:=0
def tw11262210667472017484:=0
def tw3889050837629697654:=0
def tw8690382822239825211:=0
def tw10030471484128316002:=0
def tw18015036659888718759:=0
def tw6643695946947364812:=0
def tw9544454167748042784:=0
def tw16110866884342013597:=0
def tw6992145978491748124:=0
def tw1105607406628852965:=0
def tw458236691786833914:=0
def tw16157304334423382390:=0
def tw2912495672690424657:=0
def tw9505720103929113112:=0
def tw1961741669587824489:=0
def tw5444886623634828077:=0
def tw1173653623095282215:=0
def tw8991815381962307643:=0
def tw12831133863763268162:=0
def tw5557558261675995826:=0
def tw2623358873648045472:=0
def tw9262222255720645473:=0
def tw15828002456614947540:=0
def tw12139653625644471570:=0
def tw3694635765373234162:=0
end PySem.W.Fast
end
open PySem PySem.W PyProof.Rows
set_option maxRecDepth 100000 in
set_option maxHeartbeats 0 in
theorem PySem.Challenge.cw_bracketrows_k48_no_such_row_holds : PySem.Challenge.rw_bracketrows_k48_no_such_row.Holds := by
  w_on; o_law; k_head; (case hw => w_witness2)
  k_fill
  refine Bk.walk (l := PySem.Challenge.rw_bracketrows_k48_no_such_row) rfl rfl (fun w h Y => PySem.W.kIn_of Y) ?F
  case F =>
    intro w mg fa h KX G hmg
    refine' Bk.fin hmg ⟨L2.fnA KX G ?f, ?m, L2.nbA KX G ?n, L2.glA KX G ?g, L2.clA KX G ?c, ?k, ?F, ?D, L2.ownA KX G ?y ?z, L2.ownA KX G ?Y ?Z, ?t⟩
    (case y | Y => k_is)
    (case f => (repeat (apply L2.AllP.fn; k_is; k_is; k_is; k_is)); trivial)
    (case m => (repeat (apply L2.AllP.mt; k_is; k_is; k_is; k_is; k_is)); trivial)
    (case c => (repeat (apply L2.AllP.cl; k_is; kernel_rfl)); trivial)
    (case g => (repeat (first | (apply L2.AllP.tx; k_is; (first | rfl | decide +kernel)) | (apply L2.AllP.int; k_is; rfl) | (apply L2.AllP.ref; k_is))); trivial)
    (case n | z | Z | t => kernel_rfl)
    (case k => (apply L2.FTu.mk; k_is; rfl; rfl; decide +kernel; decide))
    (case F => (apply BrS.fm_mk8; k_is; exact ⟨rfl, rfl, rfl⟩; rfl; (first | rfl | decide +kernel); (first | rfl | decide +kernel); all_goals (apply L2.FTu.mk; k_is; rfl; rfl; decide +kernel; decide)))
    (case D => (apply BrS.dd_mk8; k_is; exact ⟨rfl, rfl, rfl⟩; rfl; (first | rfl | decide +kernel); (first | rfl | decide +kernel); all_goals (apply PySem.W.mg_of KX G; k_is)))
