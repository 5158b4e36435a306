import PyProof.Rows.All
import Wide.All
import OpenK.AllK
import Wide.FinOn
import Lean
import PyProof.EqAt
import PyProof.EqKinds
import PyProof.TupleCall
import PyProof.ExcStrCall
import PyProof.ExcStrAll.ValueError
import PyProof.TupleOfStr
import PyProof.DictIter
import PyProof.DictWalks
import PyProof.Rows.SetFrom
import PyProof.CollectWalk
import PyProof.Rows.SortShell
import PyProof.Rows.SortWalk
import PyProof.ListRange
import KE.KEqDict
import KE.KDictSum
import PyProof.ZipIter
import PyProof.Draws
import PyProof.EnumMake
import PyProof.Rows.StrFirst
import PyProof.NeData
import PyProof.P3In
import PySem.Challenge.RW_bracketrows_k30_whole_sure_in_long_rows
set_option Elab.async false
set_option linter.all false
set_option maxRecDepth 100000
section
local macro_rules | `(tactic| lia) => `(tactic| first|lia (splits:=9)|omega)
open PySem PySem.Spec PyProof.Rows
variable{XP:(Str->Option Value)->Heap->Prop}{C D I S aC aK co dx fa i1 i2 it p r z:Addr}{F:Addr->Prop}{params:Arguments}{A:Around}{es es':Array (Int×Value)}{osl:Array (Option Value)}{g':Array GenState}{G:Array GenState->Array GenState->Prop}{hs:Array Int}{xs:Array Nat}{itK items:Array Value}{expr:Bool}{gw:Bool->Sem Unit}{d:DefRec}{d':Drawn}{env:Env}{e elt iter kx target tg value vx:Expr}{fd:FuncData}{base h h' h0 h1 h2:Heap}{OK tn:Heap->Prop}{hi lo y:Int}{g:Int->Int->Int}{pins pins':List (Addr×Obj)}{ps:List (List Int)}{xss:List (List Nat)}{L:List (Nat×Nat)}{kw:List (Str×Value)}{ch fp fp1 fp2 ra:List Addr}{outer:List Env}{elts ifs rest:List Expr}{ms ns:List Int}{a sel st ws:List Nat}{S':List Nat->Prop}{body:List Stmt}{N loose own:List Str}{ds its its' us vals vs ys:List Value}{args:List WData}{M:Model}{at' b c ep i j m n n' n1 n2 q t' tk:Nat}{ad ads:Nat->Addr}{S1 S2:Nat->Heap->Prop}{f:Nat->Int}{th:Nat->Nat}{P P' T T':Nat->Nat->Int}{P2:Nat->Value->Prop}{o ob:Obj}{an od:Option Addr}{apos cpos np pos' sp tpos:Pos}{prog:Program}{B:Prop}{K:W.Frag}{R:Result->Shared->Prop}{osc sc scope:Scope}{pl:Sem Bool}{t:SetTable}{s s' s2 s₁:Shared}{src:Source}{b₀:Stmt}{name qual x:Str}{kindOf:Str->Option NameKind}{mA mg:Str->Option Value}{T1:String}{α β κ:Type}{a0 cd cdv ct doc oc pm v:Value}{E E' Q Qo xe:Value->Shared->Prop}{w:World}{YP:World->Heap->Prop}
namespace L2
abbrev Key:=Sum Int Str
def D6:Key->Value->Bool
 | .inl k,v=>Value.isInt k v
 | .inr x,v=>Value.isStrOf x v
def Ws(w:World):Key->Int
 | .inl k=>hashInt k
 | .inr x=>hashStr w x
theorem CG:∀ {k:Key} {v:Value},D6 k v=true->(∃i t,k=Sum.inl i/\v=Value.int i t)\/(∃x t,k=Sum.inr x/\v=Value.str x t)
 | .inl i,v,h=>by
   obtain⟨t,e⟩:=Value.isInt_shape (k:=i) (v:=v) h;exact .inl ⟨i,t,rfl,e⟩
 | .inr x,v,h=>by
   obtain⟨t,e⟩:=Value.isStrOf_shape (x:=x) (v:=v) h;exact .inr ⟨x,t,rfl,e⟩
theorem Q5(i:Int)(t:Tok):D6 (.inl i) (.int i t)=true:=by simp[D6,Value.isInt]
theorem Q4(x:Str)(t:Tok):D6 (.inr x) (.str x t)=true:=by simp[D6,Value.isStrOf]
theorem Ve(a b:Int):decide ((Sum.inl a:Key)=Sum.inl b)=(a==b):=by
 by_cases e:a=b
 ·subst e;simp
 ·have h:¬ (Sum.inl a:Key)=Sum.inl b:=λq=>e (Sum.inl.inj q);rw[decide_eq_false h];exact(beq_eq_false_iff_ne.mpr e).symm
theorem Vb(a b:Str):decide ((Sum.inr a:Key)=Sum.inr b)=decide (a=b):=by
 by_cases e:a=b
 ·subst e;simp
 ·have h:¬ (Sum.inr a:Key)=Sum.inr b:=λq=>e (Sum.inr.inj q);rw[decide_eq_false h,decide_eq_false e]
theorem Vd(a:Int)(b:Str):decide ((Sum.inl a:Key)=Sum.inr b)=false:=decide_eq_false (λq=>nomatch q)
theorem Vc(a:Str)(b:Int):decide ((Sum.inr a:Key)=Sum.inl b)=false:=decide_eq_false (λq=>nomatch q)
def A5(prog:Program)(w:World):PySem.KeyKind prog w Key where
 is:=D6
 hash:=Ws w
 inj:=λv a b ha hb=>by
  rcases CG ha with⟨i,t,rfl,rfl⟩|⟨x,t,rfl,rfl⟩
  ·rcases CG hb with⟨j,u,rfl,e⟩|⟨y,u,rfl,e⟩
   ·injection e with e1 _;rw[e1]
   ·exact nomatch e
  ·rcases CG hb with⟨j,u,rfl,e⟩|⟨y,u,rfl,e⟩
   ·exact nomatch e
   ·injection e with e1 _;rw[e1]
 byValue:=λk v h=>by
  rcases CG h with⟨i,t,rfl,rfl⟩|⟨x,t,rfl,rfl⟩<;>rfl
 pyHash:=λhv h=>by
  rcases CG hv with⟨i,t,rfl,rfl⟩|⟨x,t,rfl,rfl⟩
  ·exact wpAny_pyHash_int h
  ·exact wpAny_pyHash_str h
 eqBool:=λhu hv h=>by
  rcases CG hu with⟨i,t,rfl,rfl⟩|⟨x,t,rfl,rfl⟩
  ·rcases CG hv with⟨j,u,rfl,rfl⟩|⟨y,u,rfl,rfl⟩
   ·rw[Ve]at h;exact wpAny_eqBool_int h
   ·rw[Vd]at h;exact SeqAt.EqAt.int_str i t y u _ _ _ _ h
  ·rcases CG hv with⟨j,u,rfl,rfl⟩|⟨y,u,rfl,rfl⟩
   ·rw[Vc]at h;exact SeqAt.EqAt.str_int x t j u _ _ _ _ h
   ·rw[Vb]at h;exact wpAny_eqBool_str h
 «strs»:=λk x t v h=>by
  rcases CG h with⟨i,u,rfl,e⟩|⟨y,u,rfl,e⟩
  ·exact nomatch e
  ·injection e with e1 _
   subst e1
   cases v<;>rfl
theorem Pn(prog:Program)(w:World)(i:Int)(t:Tok):(A5 prog w).is (.inl i) (.int i t)=true:=Q5 i t
theorem Pm(prog:Program)(w:World)(x:Str)(t:Tok):(A5 prog w).is (.inr x) (.str x t)=true:=Q4 x t
inductive V where
 |non|bl (b:Bool)|int (i:Int)|str (x:Str)|byt (b:Array UInt8)|flt (b:UInt64)|ref (a:Addr)|ty (n:String)
 deriving DecidableEq
def RelV:V->Value->Prop
 | .non,u=>u=Value.none
 | .bl b,u=>u=Value.bool b
 | .int i,u=>∃t,u=Value.int i t
 | .str x,u=>∃t,u=Value.str x t
 | .byt b,u=>∃t,u=Value.bytes b t
 | .flt b,u=>∃t,u=Value.float b t
 | .ref a,u=>u=Value.ref a
 | .ty n,u=>u=Value.type n
abbrev Vals:List V->List Value->Prop:=Paired RelV
theorem Vals.length{xs:List V}(r:Vals xs us):xs.length=us.length:=Paired.length r
theorem Vals.get:∀ {xs:List V} {us:List Value} {i:Nat} {x:V},Vals xs us->xs[i]? =some x->∃u,us[i]? =some u/\RelV x u
 |_,_,_,_, .nil,e=>by simp at e
 |_,_,0,_, .cons r _,e=>by simp at e;subst e;exact⟨_,rfl,r⟩
 |_,_,i+1,x, .cons _ t,e=>by
  obtain⟨u,h1,h2⟩:=Vals.get (i:=i) (x:=x) t (by simpa using e);exact⟨u,by simpa using h1,h2⟩
theorem Vals.set{x:V}{u:Value}(r:RelV x u):∀ {xs:List V} {us:List Value} (i:Nat),Vals xs us->Vals (xs.set i x) (us.set i u)
 |_,_,_, .nil=> .nil
 |_,_,0, .cons _ t=> .cons r t
 |_,_,i+1, .cons q t=> .cons q (Vals.set r i t)
theorem Vals.append:∀ {xs ys:List V} {us ws:List Value},Vals xs us->Vals ys ws->Vals (xs++ys) (us++ws)
 |_,_,_,_, .nil,s=>s
 |_,_,_,_, .cons r t,s=> .cons r (Vals.append t s)
theorem Vals.take:∀ {xs:List V} {us:List Value} (n:Nat),Vals xs us->Vals (xs.take n) (us.take n)
 |_,_,0,_=> .nil
 |_,_,_+1, .nil=> .nil
 |_,_,n+1, .cons r t=> .cons r (Vals.take n t)
theorem Vals.drop:∀ {xs:List V} {us:List Value} (n:Nat),Vals xs us->Vals (xs.drop n) (us.drop n)
 |_,_,0,r=>r
 |_,_,_+1, .nil=> .nil
 |_,_,n+1, .cons _ t=>Vals.drop n t
def RelO:Option V->Option Value->Prop
 |some v,some u=>RelV v u
 |none,none=>True
 |_,_=>False
def KV{κ:Type}:List (κ×V)->List (κ×Value)->Prop:=Paired fun(p:κ×V) (q:κ×Value)=>p.1=q.1/\RelV p.2 q.2
def kV:Key->V
 | .inl i=> .int i
 | .inr x=> .str x
inductive HO where
 |lst (xs:List V)
 |tup (xs:List V)
 |dK (kvs:List (Key×V))|dT (kvs:List (List Key×V))
 |set (S:Int->Bool) (n:Nat)
 |ins (C dx:Addr) (fs:List (Str×V))
 |own (x:Addr)
 |xd (fs:List (Str×V))
 |met (f x:Addr)
 |rng (lo hi:Int)
 |frz (o:Obj) (u:HO)
 |tbl (ps:Array Value)
 |ext (φ:Heap->Prop)
abbrev Hp:=Addr->Option HO
end L2
variable{H H' H0 H1 H2 Hb Hz:Hp}{kvs:List (List Key×V)}{σ σ':List (Option V)}{ks:List Key}{dvs:List V}{Pv:Nat->List V->Hp->Prop}{Qx:Value->Hp->V->Prop}
namespace L2
variable{a b:Addr}{o:HO}{P:Program}
def upd(H:Hp)(a:Addr)(o:HO):Hp:=λb=>if b=a then some o else H b
theorem AJ:upd H a o a=some o:=by unfold upd;rw[if_pos rfl]
theorem AE(h:b≠a):upd H a o b=H b:=by unfold upd;rw[if_neg h]
theorem CF{u:HO}(h:H a=some o)(h':H b=some u)(d:o≠u):a≠b:=by
 intro e;subst e;rw[h]at h';exact d (Option.some.inj h')
theorem AT(h:H a=some o)(h':H b=none):a≠b:=by
 intro e;subst e;rw[h]at h';cases h'
section
variable(P:Program)(w:World)
def ObjOk(H:Hp)(h:Heap)(a:Addr):HO->Prop
 | .lst xs=>xs.length<=sizeLine/\∃ (its:List Value) (n:Nat),Vals xs its/\h.get? a=some {cls:= .type "list",data:= .seq its.toArray n}
 | .tup xs=>xs.length<=sizeLine/\∃its:List Value,Vals xs its/\IsTup h a its.toArray
 | .dK kvs=>kvs.length<=sizeLine/\(a==sysModules)=false/\∃vs,KV kvs vs/\h.DictOf (A5 P w) a vs
 | .dT kvs=>kvs.length<=sizeLine/\(a==sysModules)=false/\∃xs:List (List Key×Addr×Value),
     Paired (fun(p:List Key×V) (q:List Key×Addr×Value)=>p.1=q.1/\H q.2.1=some (.tup (p.1.map kV))/\RelV p.2 q.2.2) kvs xs/\
     ∃o es ep,h.get? a=some o/\o.ExactDict/\o.data= .dict es ep/\es.toList=xs.map (entryOfKey (tupleKind (A5 P w)))/\(xs.map (·.1)).Nodup
 | .set S n=>h.SetOf (intKind P w) a S n
 | .ins C dx fs=>H dx=some (.own a)/\fs.length<=1000/\dx≠a/\h.get? a=some (W.instObj C dx)/\
     ∃mA,h.Ns1 dx mA/\(∀f,RelO (fs.lookup f) (mA f))/\PySem.Within mA (fs.map (·.1))
 | .own _=>∃o,h.get? a=some o
 | .xd fs=>∃mA,h.Ns1 a mA/\∀f,RelO (fs.lookup f) (mA f)
 | .rng lo hi=>∃t u v,h.get? a=some {cls:= .type "range",data:= .fields #[.int lo t, .int hi u, .int 1 v]}
 | .frz o u=>h.get? a=some o/\ObjOk H h a u
 | .tbl ps=>h.get? a=some {cls:= .none,data:= .fields ps}
 | .met f x=>h.get? a=some (W.methodObj (.ref f) (.ref x))
 | .ext φ=>φ h/\(∃o,h.get? a=some o)/\∀h1 h2:Heap,φ h1->(∀o,h1.get? a=some o->h2.get? a=some o)->φ h2
structure HOk (H:Hp) (h:Heap):Prop where
 all:∀a o,H a=some o->ObjOk P w H h a o
 sm:∀o,H sysModules=some o->∃ob u,o= .frz ob u
 bg:∃b o,1<b/\h.get? b=some o
instance (H:Hp) (h:Heap):CoeFun (HOk P w H h) λ_=>∀a o,H a=some o->ObjOk P w H h a o:=⟨HOk.all⟩
end
theorem ObjOk.lt(x:ObjOk P w H h a o):a<h.objs.size:=by
 cases o with
 |lst xs=>obtain⟨_,_,_,_,e⟩:=x;exact Heap.lt_size e
 |tup xs=>obtain⟨_,_,_,p⟩:=x;exact p.lt
 |dK kvs=>obtain⟨_,_,_,_,o,_,_,e,_⟩:=x;exact Heap.lt_size e
 |dT kvs=>obtain⟨_,_,_,_,o,_,_,e,_⟩:=x;exact Heap.lt_size e
 |set S n=>obtain⟨o,_,_,_,e,_⟩:=x;exact Heap.lt_size e
 |ins C dx fs=>obtain⟨_,_,_,e,_⟩:=x;exact Heap.lt_size e
 |own y=>obtain⟨_,e⟩:=x;exact Heap.lt_size e
 |xd fs=>obtain⟨_,⟨_,_,_,e,_⟩,_⟩:=x;exact Heap.lt_size e
 |rng lo hi=>obtain⟨_,_,_,e⟩:=x;exact Heap.lt_size e
 |frz ob u=>obtain⟨e,_⟩:=x;exact Heap.lt_size e
 |tbl ps=>exact Heap.lt_size (show h.get? a=some _ from x)
 |met f y=>exact Heap.lt_size (show h.get? a=some _ from x)
 |ext φ=>obtain⟨_,⟨_,e⟩,_⟩:=x;exact Heap.lt_size e
theorem Paired.mapP{F G:α->β->Prop}:∀ {l₁:List α} {l₂:List β},Paired F l₁ l₂->(∀a b,F a b->G a b)->Paired G l₁ l₂
 |_,_, .nil,_=> .nil
 |_,_, .cons r t,f=> .cons (f _ _ r) (Paired.mapP t f)
theorem ObjOk.stay(x:ObjOk P w H h a o)(k:∀b u,(b=a\/H b=some (.own a))->h.get? b=some u->h'.get? b=some u)
 (ho:∀b,H b=some (.own a)->H' b=some (.own a)) (ht:∀b xs,H b=some (.tup xs)->H' b=some (.tup xs)):ObjOk P w H' h' a o:=by
 induction o with
 |lst xs=>obtain⟨z,its,n,r,e⟩:=x;exact⟨z,its,n,r,k _ _ (.inl rfl) e⟩
 |tup xs=>obtain⟨z,its,r,ob,e,c⟩:=x;exact⟨z,its,r,ob,k _ _ (.inl rfl) e,c⟩
 |dK kvs=>obtain⟨z,y,vs,r,ob,es,ep,e,c⟩:=x;exact⟨z,y,vs,r,ob,es,ep,k _ _ (.inl rfl) e,c⟩
 |dT kvs=>
  obtain⟨z,y,xs,r,ob,es,ep,e,c⟩:=x;exact⟨z,y,xs,Paired.mapP r λp q z=>⟨z.1,ht _ _ z.2.1,z.2.2⟩,ob,es,ep,k _ _ (.inl rfl) e,c⟩
 |set S n=>obtain⟨ob,es,ep,t,e,c⟩:=x;exact⟨ob,es,ep,t,k _ _ (.inl rfl) e,c⟩
 |ins C dx fs=>
  obtain⟨d,z,ne,e,mA,⟨od,es,ep,e2,c⟩,r⟩:=x;exact⟨ho _ d,z,ne,k _ _ (.inl rfl) e,mA,⟨od,es,ep,k _ _ (.inr d) e2,c⟩,r⟩
 |own y=>obtain⟨ob,e⟩:=x;exact⟨ob,k _ _ (.inl rfl) e⟩
 |xd fs=>obtain⟨mA,⟨od,es,ep,e,c⟩,r⟩:=x;exact⟨mA,⟨od,es,ep,k _ _ (.inl rfl) e,c⟩,r⟩
 |rng lo hi=>obtain⟨t,u,v,e⟩:=x;exact⟨t,u,v,k _ _ (.inl rfl) e⟩
 |frz ob u ih=>obtain⟨e,q⟩:=x;exact⟨k _ _ (.inl rfl) e,ih q⟩
 |tbl ps=>
  have e:h.get? a=some {cls:= .none,data:= .fields ps}:=x;show h'.get? a=some {cls:= .none,data:= .fields ps};exact k a _ (.inl rfl) e
 |met f y=>
  have e:h.get? a=some (W.methodObj (.ref f) (.ref y)):=x;show h'.get? a=some (W.methodObj (.ref f) (.ref y));exact k a _ (.inl rfl) e
 |ext φ=>obtain⟨p,⟨o,e⟩,st⟩:=x;exact⟨st _ _ p λo q=>k _ _ (.inl rfl) q,⟨o,k _ _ (.inl rfl) e⟩,st⟩
theorem HOk.lt(x:HOk P w H h)(e:H a=some o):a<h.objs.size:=(x a o e).lt
theorem HOk.fresh(x:HOk P w H h)(e:h.objs.size<=a):H a=none:=by
 cases q:H a with
 |none=>rfl
 |some u=>exact absurd (Nat.lt_of_lt_of_le (x.lt q) e) (Nat.lt_irrefl _)
theorem HOk.kept(x:HOk P w H h)(k:∀b u,h.get? b=some u->h'.get? b=some u):HOk P w H h':=⟨λa o e=>
 (x a o e).stay (λb u _ q=>k b u q) (λ_ q=>q) λ_ _ q=>q,x.sm,let⟨b,o,l,e⟩:=x.bg;⟨b,o,l,k _ _ e⟩⟩
theorem HOk.laid(x:HOk P w H h)(k:∀b u,h.get? b=some u->h'.get? b=some u)(hp:h.objs.size<=a)(new:ObjOk P w (upd H a o) h' a o):HOk P w (upd H a o) h':=by
 refine⟨λb u e=>?_,λu e=>?_,let⟨b,o,l,e⟩:=x.bg;⟨b,o,l,k _ _ e⟩⟩
 rotate_left
 ·by_cases hb:sysModules=a
  ·obtain⟨b,o,l,q⟩:=x.bg;exact absurd (Nat.lt_trans l (show b<sysModules from by rw[hb];exact Nat.lt_of_lt_of_le (Heap.lt_size q) hp)) (Nat.lt_irrefl 1)
  ·rw[AE hb]at e;exact x.sm u e
 have hn:=x.fresh hp
 by_cases hb:b=a
 ·subst hb;rw[AJ]at e;cases e;exact new
 ·rw[AE hb]at e;exact(x b u e).stay (λc v _ q=>k c v q) (λc q=>by rw[AE (AT q hn)];exact q) λc xs q=>by rw[AE (AT q hn)];exact q
def Rd(H:Hp)(a:Addr)(u:HO):Prop:=H a=some u\/∃o,H a=some (.frz o u)
theorem Rd.ok{u:HO}(r:Rd H a u)(x:HOk P w H h):ObjOk P w H h a u:=by
 rcases r with r|⟨o,r⟩
 ·exact x a u r
 ·obtain⟨_,q⟩:=x a _ r;exact q
def Mut:Option HO->Prop
 |some (.lst _)=>True
 |some (.dK _)=>True
 |some (.dT _)=>True
 |some (.set _ _)=>True
 |some (.ins _ _ _)=>True
 |some (.ext _)=>True
 |_=>False
section
variable{x e:Addr}{o':HO}
theorem HOk.write(ok:HOk P w H h)(mu:Mut (H x))(he:e=x\/H e=some (.own x))(k:∀b u,b≠e->h.get? b=some u->h'.get? b=some u)(heo:∃u,h'.get? e=some u)
 (new:ObjOk P w (upd H x o') h' x o'):HOk P w (upd H x o') h':=by
 refine⟨λb u q=>?_,λu q=>?_,?_⟩
 rotate_left
 ·by_cases hb:sysModules=x
  ·exfalso;subst hb
   cases z:H sysModules with
   |none=>rw[z]at mu;exact mu
   |some o=>
    obtain⟨ob,v,rfl⟩:=ok.sm o z;rw[z]at mu;exact mu
  ·rw[AE hb]at q;exact ok.sm u q
 ·obtain⟨b,o,l,z⟩:=ok.bg
  by_cases hb:b=e
  ·obtain⟨v,hv⟩:=heo;exact⟨e,v,hb▸l,hv⟩
  ·exact⟨b,o,l,k b o hb z⟩
 have nown:∀c y,H c=some (.own y)->c≠x:=λc y r z=>by subst z;rw[r]at mu;exact mu
 have ntup:∀c xs,H c=some (.tup xs)->c≠x:=λc xs r z=>by subst z;rw[r]at mu;exact mu
 by_cases hb:b=x
 ·subst hb;rw[AJ]at q;cases q;exact new
 ·rw[AE hb]at q
  by_cases hbe:b=e
  ·have q':H b=some (.own x):=by
    rcases he with z|z
    ·exact absurd (hbe.trans z) hb
    ·rw[hbe];exact z
   rw[q]at q';cases q';obtain⟨v,hv⟩:=heo;exact⟨v,by rw[hbe];exact hv⟩
  ·refine(ok b u q).stay (λc v hc r=>k c v ?_ r) (λc r=>by rw[AE (nown c b r)];exact r) λc xs r=>by rw[AE (ntup c xs r)];exact r
   rcases hc with rfl|hc
   ·exact hbe
   ·rintro rfl;rcases he with z|z
    ·exact nown c b hc z
    ·rw[hc]at z;cases z;exact hb rfl
end
structure Un (fs ex:List Addr) (H H':Hp) (h h':Heap):Prop where
 keep:∀b o,h.get? b=some o->H b=none->b∉fs->b∉ex->h'.get? b=some o
 slot:∀b o,h.get? b=some o->H b=none->b∈fs->b∉ex->∃sl,h'.get? b=some {o with slots:=sl}
 free:∀b o,h.get? b=some o->H b=none->b∉ex->H' b=none
 there:∀b o,h.get? b=some o->b∉ex->∃o',h'.get? b=some o'
 tups:∀b xs,H b=some (.tup xs)->H' b=some (.tup xs)
 frzs:∀b o u,H b=some (.frz o u)->H' b=some (.frz o u)
 tbls:∀b ps,H b=some (.tbl ps)->∃more,H' b=some (.tbl (ps++more))
section
variable{fs fs' ex ex':List Addr}{x e:Addr}
theorem Un.any(u:Un fs ex H H1 h h1)(q:h.get? b=some ob)(n:H b=none)(hx:b∉ex):∃sl,h1.get? b=some {ob with slots:=sl}:=by
 by_cases hb:b∈fs
 ·exact u.slot b ob q n hb hx
 ·exact⟨ob.slots,u.keep b ob q n hb hx⟩
theorem Un.kept(k:∀b u,h.get? b=some u->h'.get? b=some u):Un fs ex H H h h':=
 ⟨λb ob q _ _ _=>k b ob q,λb ob q _ _ _=>⟨ob.slots,k b ob q⟩,λ_ _ _ n _=>n,λb ob q _=>⟨ob,k b ob q⟩,λ_ _ q=>q,λ_ _ _ q=>q,λ_ ps q=>⟨#[],by rw[q];simp⟩⟩
theorem Un.refl:Un fs ex H H h h:=Un.kept λ_ _ q=>q
theorem Un.laid(k:∀b u,h.get? b=some u->h'.get? b=some u)(hp:h.objs.size<=a)(hn:H a=none):Un fs ex H (upd H a o) h h' where
 keep:=λb u q _ _ _=>k b u q
 slot:=λb u q _ _ _=>⟨u.slots,k b u q⟩
 free:=λb u q n _=>by rw[AE (Nat.ne_of_lt (Nat.lt_of_lt_of_le (Heap.lt_size q) hp))];exact n
 there:=λb u q _=>⟨u,k b u q⟩
 tups:=λb xs q=>by rw[AE (AT q hn)];exact q
 frzs:=λb u xs q=>by rw[AE (AT q hn)];exact q
 tbls:=λb ps q=>⟨#[],by rw[AE (AT q hn),q];simp⟩
theorem Un.write(mu:Mut (H x))(he:e=x\/H e=some (.own x))(k:∀b u,b≠e->h.get? b=some u->h'.get? b=some u)(heo:∃u,h'.get? e=some u):Un fs ex H (upd H x o) h h':=by
 have hx:∀b,H b=none->b≠x:=λb n z=>by subst z;rw[n]at mu;exact mu
 have hb:∀b,H b=none->b≠e:=λb n z=>by
  subst z;rcases he with r|r
  ·exact hx b n r
  ·rw[n]at r;cases r
 have hm:∀b u,H b=some u->¬Mut (some u)->b≠x:=λb u q nm z=>by subst z;rw[q]at mu;exact nm mu
 refine⟨λb u q n _ _=>k b u (hb b n) q,λb u q n _ _=>⟨u.slots,k b u (hb b n) q⟩,λb u q n _=>by rw[AE (hx b n)];exact n,λb u q _=>?_,
  λb xs q=>by rw[AE (hm b _ q λz=>z)];exact q,λb u xs q=>by rw[AE (hm b _ q λz=>z)];exact q,λb ps q=>⟨#[],by rw[AE (hm b _ q λz=>z),q];simp⟩⟩
 by_cases hbe:b=e
 ·subst hbe;exact heo
 ·exact⟨u,k b u hbe q⟩
end
def trk(h:Heap)(H:Hp):List Addr:=(List.range h.objs.size).filter λa=>(H a).isSome
def Cp(h:Heap)(H:Hp):Heap:=W.hideAll h (trk h H)
theorem Q9(h:Heap)(H:Hp):(Cp h H).objs.size=h.objs.size:=W.hideAll_size _ _
theorem SJ{o:Obj}(e:h.get? b=some o)(n:H b=none):(Cp h H).get? b=some o:=
 W.hideAll_get _ e λhm=>by
  have q:(H b).isSome=true:=(List.mem_filter.mp hm).2;rw[n]at q;simp at q
theorem T6{o:Obj}(e:(Cp h H).get? b=some o):h.get? b=some o/\H b=none:=by
 have e':h.get? b=some o:=W.of_hideAll (trk h H) e;refine⟨e',?_⟩
 cases q:H b with
 |none=>rfl
 |some x=>
  have hm:b∈trk h H:=List.mem_filter.mpr ⟨List.mem_range.mpr (Heap.lt_size e'),by simp[q]⟩;have z:(Cp h H).get? b=none:=W.hideAll_none (trk h H) hm;rw[z]at e;cases e
structure Mod (K:W.Frag) (mg:Str->Option Value) (base:Heap):Prop where
 kin:K.In base
 glob:base.Ns mainGlobals mg
 blt:∃mb,base.Ns builtinsNs mb/\∀x:Str,x≠"__name__"->mb x=bootBuiltins x
 nolimit:base.NoLimit
structure Cx where
 prog:Program
 w:World
 K:W.Frag
 mg:Str->Option Value
 base:Heap
 A:Around
 N:List Str
 s₀:Shared
 H₀:Hp
 env:Env
 outer:List Env
 stack:List Env
 ex:List Addr
 fn:Str->Bool
 calm:Bool
 pn:List (Addr×Obj)
 xe:Value->Shared->Prop
end L2
variable{X Y:Cx}
namespace L2
variable{a:Addr}{o:HO}{Q:Unit->Shared->Prop}{v:V}
def frs(l:List Env):List Addr:=l.filterMap (·.frame)
abbrev Cx.fs(X:Cx):List Addr:=frs X.outer
def Vis(sc:Scope)(x:Str):Prop:=sc.names.lookup x=some .local\/sc.names.lookup x=some .cell\/sc.names.lookup x=some .free
def Loc(sc:Scope)(x:Str):Prop:=sc.names.lookup x=some .local\/sc.names.lookup x=some .cell
def Look(env:Env)(h:Heap)(m:Str->Option Value)(x:Str)(u:Value):Prop:=
 (env.kindOf x=some .local/\m x=some u)\/((env.kindOf x=some .cell\/env.kindOf x=some .free)/\∃c,env.cells.lookup x=some c/\h.IsCell c (some u))
structure Cx.Ok (X:Cx):Prop where
 mod:Mod X.K X.mg X.base
 kind:X.env.scope.kind= .function
 glob:X.env.globals=mainGlobals
 blt:X.env.builtins=builtinsNs
 above:X.s₀.heap.objs.size<=X.env.locals
 inj:∀x y c,X.env.cells.lookup x=some c->X.env.cells.lookup y=some c->x=y
 has:∀x,(X.env.kindOf x=some .cell\/X.env.kindOf x=some .free)->∃c,X.env.cells.lookup x=some c
 cab:∀x c,X.fn x=true->X.env.cells.lookup x=some c->X.s₀.heap.objs.size<=c
 hd:X.calm=true->X.A.handled=none
 frames:X.A.frames=some X.stack
 stk:X.stack=X.outer\/(X.stack=X.env::X.outer/\X.env.frame=some X.env.locals)
 exf:∀b∈X.ex,b≠X.env.locals/\∀x c,X.env.cells.lookup x=some c->c≠b
 bs:∀b o,X.base.get? b=some o->X.s₀.heap.get? b=some o/\X.H₀ b=none
 bsz:X.base.objs.size<=X.s₀.heap.objs.size
 noex:∀b o,X.base.get? b=some o->b∉X.ex
 exfs:∀b∈X.ex,b∉X.fs
 funs:X.s₀.heap.FunFrames X.base X.outer
 frf:∀b∈X.fs,X.H₀ b=none
structure Inv (X:Cx) (pins:List (Addr×Obj)) (σ:List (Option V)) (H:Hp) (s:Shared):Prop where
 ok:X.Ok
 os:s.os=X.s₀.os
 bare:AllBare s.gens
 base:Un X.fs X.ex X.H₀ H X.s₀.heap s.heap
 loc:∃m,s.heap.Ns X.env.locals m/\∀ (i:Nat) (x:Str) (v:V),X.N[i]? =some x->σ[i]? =some (some v)->Vis X.env.scope x->∃u,RelV v u/\Look X.env s.heap m x u
 cell:∀x c,X.env.cells.lookup x=some c->∃v,s.heap.IsCell c v
 free:H X.env.locals=none
 freeC:∀x c,X.env.cells.lookup x=some c->H c=none
 pin:∀p∈X.pn++pins,s.heap.get? p.1=some p.2/\H p.1=none/\p.1≠X.env.locals/\p.1∉X.fs/\∀v,p.2.data≠ .cell v
 hok:HOk X.prog X.w H s.heap
 len:σ.length=X.N.length
theorem Cx.Ok.nofr(ok:X.Ok){b:Addr}{o:Obj}(e:X.base.get? b=some o):b∉X.fs:=λhb=>by
 have:=(ok.funs.mem hb).1;rw[e]at this;cases this
theorem Inv.bs(I:Inv X pins σ H s):∀b o,X.base.get? b=some o->s.heap.get? b=some o/\H b=none:=λb o e=>
 ⟨I.base.keep b o (I.ok.bs b o e).1 (I.ok.bs b o e).2 (I.ok.nofr e) (I.ok.noex b o e),I.base.free b o (I.ok.bs b o e).1 (I.ok.bs b o e).2 (I.ok.noex b o e)⟩
theorem Inv.bk(I:Inv X pins σ H s):∀b o,X.base.get? b=some o->s.heap.get? b=some o:=λb o e=>(I.bs b o e).1
theorem Inv.mod(I:Inv X pins σ H s):Mod X.K X.mg X.base:=I.ok.mod
theorem Inv.kIn(I:Inv X pins σ H s):X.K.In s.heap:=I.ok.mod.kin.keeps I.bk
theorem Inv.lt(I:Inv X pins σ H s):X.env.locals<s.heap.objs.size:=let⟨_,hn,_⟩:=I.loc;hn.lt
theorem Inv.sz(I:Inv X pins σ H s):X.s₀.heap.objs.size<=s.heap.objs.size:=Nat.le_trans I.ok.above (Nat.le_of_lt I.lt)
theorem Inv.nofs(I:Inv X pins σ H s)(h:s.heap.objs.size<=a):a∉X.fs:=λhb=>by
 obtain⟨_,o,ho,_⟩:=I.ok.funs.mem hb;exact absurd (Nat.lt_of_lt_of_le (Heap.lt_size ho) (Nat.le_trans I.sz h)) (Nat.lt_irrefl _)
theorem Inv.cne(I:Inv X pins σ H s):∀x c,X.env.cells.lookup x=some c->c≠X.env.locals:=λx c e z=>by
 obtain⟨v,o,ho,hd⟩:=I.cell x c e;obtain⟨m,⟨o',es,ep,ho',hd',_⟩,_⟩:=I.loc;rw[z,ho']at ho;cases ho;rw[hd']at hd;cases hd
theorem Inv.funs(I:Inv X pins σ H s):s.heap.FunFrames X.base X.outer:=by
 have all:∀ (l:List Env),(∀b∈frs l,b∈X.fs)->X.s₀.heap.FunFrames X.base l->s.heap.FunFrames X.base l:=by
  intro l
  induction l with
  |nil=>intro _ _;trivial
  |cons env r ih=>
   intro hs hl;obtain⟨hk,⟨L,o,hf,hn,ho,hd⟩,hr⟩:=hl;have hL:L∈X.fs:=hs L (by unfold frs;rw[List.filterMap_cons,hf];exact List.mem_cons_self);obtain⟨sl,e⟩:=I.base.slot L o ho (I.ok.frf L hL) hL λz=>I.ok.exfs L z hL;exact⟨hk,⟨L,_,hf,hn,e,hd⟩,ih (λb hb=>hs b (by unfold frs;rw[List.filterMap_cons,hf];exact List.mem_cons_of_mem _ hb)) hr⟩
 exact all X.outer (λ_ hb=>hb) I.ok.funs
theorem Inv.stack(I:Inv X pins σ H s):s.heap.FunFrames X.base X.stack:=by
 rcases I.ok.stk with e|⟨e,hf⟩
 ·rw[e];exact I.funs
 ·rw[e];obtain⟨m,hn,_⟩:=I.loc;refine .cons (by rw[I.ok.kind];decide) hf hn ?_ I.funs;exact Heap.get?_none_of_le (Nat.le_trans I.ok.bsz I.ok.above)
theorem Inv.stkSub(I:Inv X pins σ H s):∀b∈frs X.stack,b∈X.env.locals::X.fs:=λb hb=>by
 rcases I.ok.stk with e|⟨e,hf⟩
 ·rw[e]at hb;exact List.mem_cons_of_mem _ hb
 ·rw[e]at hb;unfold frs at hb;rw[List.filterMap_cons,hf]at hb;exact hb
theorem Inv.stkFree(I:Inv X pins σ H s):∀b∈frs X.stack,H b=none:=λb hb=>by
 rcases List.mem_cons.mp (I.stkSub b hb)with e|hb
 ·rw[e];exact I.free
 ·obtain⟨_,o,ho,_⟩:=I.ok.funs.mem hb;exact I.base.free b o ho (I.ok.frf b hb) λz=>I.ok.exfs b z hb
theorem Inv.step(I:Inv X pins σ H s)
 (hch:∀b∈ch,(b∈X.ex\/X.s₀.heap.objs.size<=b)/\b≠X.env.locals/\(∀x c,X.env.cells.lookup x=some c->c≠b)/\∀p∈X.pn++pins,p.1≠b)
 (keep:∀b o,b≠X.env.locals->b∉X.fs->b∉ch->s.heap.get? b=some o->H b=none->h'.get? b=some o)
 (slot:∀b o,b≠X.env.locals->b∈X.fs->b∉ch->s.heap.get? b=some o->H b=none->∃sl,h'.get? b=some {o with slots:=sl}) (free:∀b o,b∉ch->s.heap.get? b=some o->H b=none->H' b=none)
 (there:∀b o,b∉ch->s.heap.get? b=some o->∃o',h'.get? b=some o')
 (tups:∀b xs,H b=some (.tup xs)->H' b=some (.tup xs)) (frzs:∀b o u,H b=some (.frz o u)->H' b=some (.frz o u)) (tbls:∀b ps,H b=some (.tbl ps)->∃more,H' b=some (.tbl (ps++more)))
 (ns:∀m,s.heap.Ns X.env.locals m->h'.Ns X.env.locals m) (hok:HOk X.prog X.w H' h') (hg:AllBare g'):
 Inv X pins σ H' {s with heap:=h',gens:=g',drawn:=d',toks:=t'}:=by
 have neL:∀b o,X.s₀.heap.get? b=some o->b≠X.env.locals:=λb o e=>Nat.ne_of_lt (Nat.lt_of_lt_of_le (Heap.lt_size e) I.ok.above);have neC:∀b o,X.s₀.heap.get? b=some o->b∉X.ex->b∉ch:=λb o e hx hb=>by
  rcases(hch b hb).1 with z|z
  ·exact hx z
  ·exact absurd (Nat.lt_of_lt_of_le (Heap.lt_size e) z) (Nat.lt_irrefl _)
 have cellK:∀x c,X.env.cells.lookup x=some c->∀v,s.heap.IsCell c v->h'.IsCell c v:=λx c e v ⟨o,ho,hd⟩=>by
  have nch:c∉ch:=λz=>(hch c z).2.2.1 x c e rfl
  by_cases hc:c∈X.fs
  ·obtain⟨sl,q⟩:=slot c o (I.cne x c e) hc nch ho (I.freeC x c e);exact⟨_,q,hd⟩
  ·exact⟨o,keep c o (I.cne x c e) hc nch ho (I.freeC x c e),hd⟩
 refine⟨I.ok,I.os,hg,⟨λb o e n hb hx=>?_,λb o e n hb hx=>?_,λb o e n hx=>?_,λb o e hx=>?_,λb xs e=>tups b xs (I.base.tups b xs e),λb o xs e=>frzs b o xs (I.base.frzs b o xs e),λb ps e=>?_⟩,?_,λx c e=>?_,?_,λx c e=>?_,λp hp=>?_,hok,I.len⟩
 ·exact keep b o (neL b o e) hb (neC b o e hx) (I.base.keep b o e n hb hx) (I.base.free b o e n hx)
 ·obtain⟨sl,e1⟩:=I.base.slot b o e n hb hx;obtain⟨sl',e2⟩:=slot b _ (neL b o e) hb (neC b o e hx) e1 (I.base.free b o e n hx);exact⟨sl',e2⟩
 ·obtain⟨o',e1⟩:=I.base.there b o e hx;exact free b o' (neC b o e hx) e1 (I.base.free b o e n hx)
 ·obtain⟨o',e1⟩:=I.base.there b o e hx;exact there b o' (neC b o e hx) e1
 ·obtain⟨m1,e1⟩:=I.base.tbls b ps e;obtain⟨m2,e2⟩:=tbls b _ e1;exact⟨m1++m2,by rw[e2,Array.append_assoc]⟩
 ·obtain⟨m,hn,hl⟩:=I.loc;refine⟨m,ns m hn,λi x v e1 e2 e3=>?_⟩;obtain⟨u,r,l⟩:=hl i x v e1 e2 e3;refine⟨u,r,?_⟩;rcases l with l|⟨k,c,e,z⟩
  ·exact .inl l
  ·exact .inr ⟨k,c,e,cellK x c e _ z⟩
 ·obtain⟨v,z⟩:=I.cell x c e;exact⟨v,cellK x c e v z⟩
 ·obtain⟨m,⟨o,_,_,ho,_⟩,_⟩:=I.loc;exact free _ o (λz=>(hch _ z).2.1 rfl) ho I.free
 ·obtain⟨v,o,ho,hd⟩:=I.cell x c e;exact free c o (λz=>(hch c z).2.2.1 x c e rfl) ho (I.freeC x c e)
 ·obtain⟨e,n,ne,nf,d⟩:=I.pin p hp;have nch:p.1∉ch:=λz=>(hch p.1 z).2.2.2 p hp rfl;exact⟨keep p.1 p.2 ne nf nch e n,free p.1 p.2 nch e n,ne,nf,d⟩
theorem Inv.un(I:Inv X pins σ H s)(u:Un X.fs [] H H' s.heap h')(hok:HOk X.prog X.w H' h'):Inv X pins σ H' {s with heap:=h',toks:=t'}:=by
 obtain⟨m,⟨o,es,ep,ho,r⟩,_⟩:=id I.loc;obtain⟨sl,hL⟩:=u.any ho I.free (by simp);exact I.step (g':=s.gens) (d':=s.drawn) (ch:=[]) (λ_ z=>nomatch z) (λb o _ hb _ e n=>u.keep b o e n hb (by simp)) (λb o _ hb _ e n=>u.slot b o e n hb (by simp)) (λb o _ e n=>u.free b o e n (by simp)) (λb o _ e=>u.there b o e (by simp)) u.tups u.frzs u.tbls (λm' hm=>by
  obtain⟨o',es',ep',ho',r'⟩:=hm;rw[ho]at ho';cases ho';exact⟨_,es',ep',hL,r'⟩) hok I.bare
theorem Inv.call(I:Inv X pins σ H s)(u:Un (frs X.stack) ch H H' s.heap h')(hok:HOk X.prog X.w H' h')(hg:AllBare g')
 (hch:∀b∈ch,(b∈X.ex\/X.s₀.heap.objs.size<=b)/\b≠X.env.locals/\(∀x c,X.env.cells.lookup x=some c->c≠b)/\∀p∈X.pn++pins,p.1≠b):
 Inv X pins σ H' {s with heap:=h',gens:=g',drawn:=d',toks:=t'}:=by
 obtain⟨m,⟨o,es,ep,ho,r⟩,_⟩:=id I.loc;obtain⟨sl,hL⟩:=u.any ho I.free λz=>(hch _ z).2.1 rfl;exact I.step (ch:=ch) hch (λb o hL hb hc e n=>u.keep b o e n (λz=>(List.mem_cons.mp (I.stkSub b z)).elim hL hb) hc) (λb o _ _ hc e n=>u.any e n hc) (λb o hc e n=>u.free b o e n hc) (λb o hc e=>u.there b o e hc) u.tups u.frzs u.tbls (λm' hm=>by
  obtain⟨o',es',ep',ho',r'⟩:=hm;rw[ho]at ho';cases ho';exact⟨_,es',ep',hL,r'⟩) hok hg
theorem Inv.turned(I:Inv X pins σ H s)(k:∀b o,b≠it->s.heap.get? b=some o->h'.get? b=some o)(hn:H it=none)(hL:it≠X.env.locals)
 (h1:it∈X.ex\/X.s₀.heap.objs.size<=it) (h2:∀x c,X.env.cells.lookup x=some c->c≠it) (h3:∀p∈X.pn++pins,p.1≠it):Inv X pins σ H {s with heap:=h',toks:=t'}:=by
 have nit:∀b u,H b=some u->b≠it:=λb u e z=>by rw[z,hn]at e;cases e
 refine I.step (g':=s.gens) (d':=s.drawn) (ch:=[it]) (λb hb=>?_) (λb o _ _ hc e _=>k b o (λz=>hc (by simp[z])) e) (λb o _ _ hc e _=>⟨o.slots,k b o (λz=>hc (by simp[z])) e⟩) (λ_ _ _ _ n=>n)
  (λb o hc e=>⟨o,k b o (λz=>hc (by simp[z])) e⟩) (λ_ _ e=>e) (λ_ _ _ e=>e) (λb ps e=>⟨#[],by rw[e];simp⟩) (λm hm=>?_) ⟨λb u e=>?_,I.hok.sm,let⟨o,_,_,e,_⟩:=I.ok.mod.glob;⟨mainGlobals,o,by decide,k _ _ (λz=>by
    rcases h1 with q|q
    ·exact I.ok.noex _ _ e (z▸q)
    ·exact absurd (Nat.lt_of_lt_of_le (Heap.lt_size e) (Nat.le_trans I.ok.bsz q)) (by rw[z];exact Nat.lt_irrefl _)) (I.bk _ _ e)⟩⟩ I.bare
 ·have e:b=it:=by simpa using hb
  subst e;exact⟨h1,hL,h2,h3⟩
 ·obtain⟨o,es,ep,ho,r⟩:=hm;exact⟨o,es,ep,k _ o (Ne.symm hL) ho,r⟩
 ·refine(I.hok b u e).stay (λc v hc q=>k c v ?_ q) (λ_ q=>q) λ_ _ q=>q;rcases hc with z|z
  ·rw[z];exact nit b u e
  ·exact nit c _ z
theorem Inv.tok(I:Inv X pins σ H s)(t:Nat):Inv X pins σ H {s with toks:=t}:=I.un (h':=s.heap) (t':=t) Un.refl I.hok
theorem Inv.kept(I:Inv X pins σ H s)(k:∀b u,s.heap.get? b=some u->h'.get? b=some u):Inv X pins σ H {s with heap:=h',toks:=t'}:=I.un (Un.kept k) (I.hok.kept k)
theorem Inv.laid(I:Inv X pins σ H s)(k:∀b u,s.heap.get? b=some u->h'.get? b=some u)(hp:s.heap.objs.size<=a)(new:ObjOk X.prog X.w (upd H a o) h' a o):
 Inv X pins σ (upd H a o) {s with heap:=h',toks:=t'}:=I.un (Un.laid k hp (I.hok.fresh hp)) (I.hok.laid k hp new)
theorem Inv.write{x e:Addr}(I:Inv X pins σ H s)(mu:Mut (H x))(he:e=x\/H e=some (.own x))(k:∀b u,b≠e->s.heap.get? b=some u->h'.get? b=some u)(heo:∃u,h'.get? e=some u)
 (new:ObjOk X.prog X.w (upd H x o) h' x o):Inv X pins σ (upd H x o) {s with heap:=h',toks:=t'}:=I.un (Un.write mu he k heo) (I.hok.write mu he k heo new)
theorem Inv.weak(I:Inv X pins σ H s)(hl:σ'.length=σ.length)(w:∀ (i:Nat) v,σ'[i]? =some (some v)->σ[i]? =some (some v)):Inv X pins σ' H s:=
 ⟨I.ok,I.os,I.bare,I.base,let⟨m,hn,hl'⟩:=I.loc;⟨m,hn,λi x v e1 e2 e3=>hl' i x v e1 (w i v e2) e3⟩,I.cell,I.free,I.freeC,I.pin,I.hok,hl.trans I.len⟩
theorem Inv.pins_of(I:Inv X pins σ H s)(h:∀p∈pins',s.heap.get? p.1=some p.2/\H p.1=none/\p.1≠X.env.locals/\p.1∉X.fs/\∀v,p.2.data≠ .cell v):Inv X pins' σ H s:=
 ⟨I.ok,I.os,I.bare,I.base,I.loc,I.cell,I.free,I.freeC,λp hp=>(List.mem_append.mp hp).elim (λz=>I.pin p (List.mem_append_left _ z)) (h p),I.hok,I.len⟩
theorem Hn(hN:N.Nodup)(a:N[i]? =some x)(b:N[j]? =some x):i=j:=by
 obtain⟨h1,e1⟩:=List.getElem?_eq_some_iff.mp a;obtain⟨h2,e2⟩:=List.getElem?_eq_some_iff.mp b;exact(List.getElem_inj hN).mp (e1.trans e2.symm)
theorem KQ{u:Value}(I:Inv X pins σ H s)(hN:X.N.Nodup)(hi:X.N[i]? =some x)(hx:Loc X.env.scope x)(r:RelV v u)
 (h:∀s',Inv X pins (σ.set i (some v)) H s'->(∃a,Heap.SameBut a s.heap s'.heap/\(a=X.env.locals\/X.env.cells.lookup x=some a))->Q () s') (hf:X.fn x=true\/X.env.scope.names.lookup x=some .local:=by first|exact .inl rfl|exact .inr rfl|assumption):wpAny M A (storeName X.env x u) Q E s:=by
 obtain⟨m,hn,hl⟩:=id I.loc;have hcls:(X.env.scope.kind== .class||(X.env.scope.kind== .module&&X.env.locals !=X.env.globals))=false:=by rw[I.ok.kind];rfl
 have hiσ:i<σ.length:=by rw[I.len];exact(List.getElem?_eq_some_iff.mp hi).1
 have cne:=I.cne;have tracked:∀ {a:Addr} {h':Heap},(∃o,s.heap.get? a=some o/\H a=none)->Heap.SameBut a s.heap h'->(∃o',h'.get? a=some o')->HOk X.prog X.w H h':=fun{a h'} ha hs hz=>by
  refine⟨λb ob e=>?_,I.hok.sm,?_⟩
  rotate_left
  ·obtain⟨b,o,l,e⟩:=I.hok.bg
   by_cases hb:b=a
   ·obtain⟨v,hv⟩:=hz;exact⟨a,v,hb▸l,hv⟩
   ·exact⟨b,o,l,(hs.2 b hb).trans e⟩
  obtain⟨_,_,hfree⟩:=ha;refine(I.hok b ob e).stay (λc w' hc q=>(hs.2 c ?_).trans q) (λ_ q=>q) λ_ _ q=>q;rintro rfl;rcases hc with rfl|hc
  ·rw[hfree]at e;cases e
  ·rw[hfree]at hc;cases hc
 rcases hx with hk|hk
 ·refine wpAny_storeName_local hk hn (λh' hn' hs=>?_) hcls;obtain⟨oL,_,_,hoL,_⟩:=id hn;refine h _ ⟨I.ok,I.os,I.bare,⟨λb o e n hb hx=>?_,λb o e n hb hx=>?_,I.base.free,λb o e hx=>?_,I.base.tups,I.base.frzs,I.base.tbls⟩,⟨_,hn',λj y v' e1 e2 e3=>?_⟩,λy c e=>?_,I.free,I.freeC,λp hp=>?_,tracked ⟨oL,hoL,I.free⟩ hs (let⟨o,_,_,e,_⟩:=hn';⟨o,e⟩),by simpa using I.len⟩ ⟨_,hs, .inl rfl⟩
  ·exact(hs.2 b (Nat.ne_of_lt (Nat.lt_of_lt_of_le (Heap.lt_size e) I.ok.above))).trans (I.base.keep b o e n hb hx)
  ·obtain⟨sl,e1⟩:=I.base.slot b o e n hb hx;exact⟨sl,(hs.2 b (Nat.ne_of_lt (Nat.lt_of_lt_of_le (Heap.lt_size e) I.ok.above))).trans e1⟩
  ·obtain⟨o',e1⟩:=I.base.there b o e hx;exact⟨o',(hs.2 b (Nat.ne_of_lt (Nat.lt_of_lt_of_le (Heap.lt_size e) I.ok.above))).trans e1⟩
  ·by_cases hj:j=i
   ·subst hj;rw[hi]at e1;cases e1;rw[List.getElem?_set_self hiσ]at e2
    cases e2
    exact⟨u,r, .inl ⟨hk,by simp⟩⟩
   ·rw[List.getElem?_set_ne (Ne.symm hj)]at e2;obtain⟨u',r',q⟩:=hl j y v' e1 e2 e3;refine⟨u',r',?_⟩;rcases q with⟨k,e⟩|⟨k,c,e,z⟩
    ·refine .inl ⟨k,?_⟩;have:y≠x:=λe=>hj (Hn hN e1 (e▸hi));simp[this,e]
    ·exact .inr ⟨k,c,e,z.sameBut hs (cne y c e)⟩
  ·obtain⟨w',z⟩:=I.cell y c e;exact⟨w',z.sameBut hs (cne y c e)⟩
  ·obtain⟨e,n,ne,nf,d⟩:=I.pin p hp;exact⟨(hs.2 p.1 ne).trans e,n,ne,nf,d⟩
 ·have hfn:X.fn x=true:=by
   rcases hf with z|z
   ·exact z
   ·rw[z]at hk;cases hk
  obtain⟨c,hc⟩:=I.ok.has x (.inl hk);obtain⟨w',z⟩:=I.cell x c hc;refine wpAny_storeName_cell I.ok.kind hk hc z (λh' hc' hs=>?_);obtain⟨oc,hoc,hocd⟩:=id z;refine h {s with heap:=h'} ⟨I.ok,I.os,I.bare,⟨λb o e n hb hx=>?_,λb o e n hb hx=>?_,I.base.free,λb o e hx=>?_,I.base.tups,I.base.frzs,I.base.tbls⟩,⟨m,hn.sameBut hs (Ne.symm (cne x c hc)),λj y v' e1 e2 e3=>?_⟩,λy c' e=>?_,I.free,I.freeC,λp hp=>?_,tracked ⟨oc,hoc,I.freeC x c hc⟩ hs (let⟨o,e,_⟩:=hc';⟨o,e⟩),by simpa using I.len⟩ ⟨c,hs, .inr hc⟩
  ·exact(hs.2 b (Nat.ne_of_lt (Nat.lt_of_lt_of_le (Heap.lt_size e) (I.ok.cab x c hfn hc)))).trans (I.base.keep b o e n hb hx)
  ·obtain⟨sl,e1⟩:=I.base.slot b o e n hb hx;exact⟨sl,(hs.2 b (Nat.ne_of_lt (Nat.lt_of_lt_of_le (Heap.lt_size e) (I.ok.cab x c hfn hc)))).trans e1⟩
  ·obtain⟨o',e1⟩:=I.base.there b o e hx;exact⟨o',(hs.2 b (Nat.ne_of_lt (Nat.lt_of_lt_of_le (Heap.lt_size e) (I.ok.cab x c hfn hc)))).trans e1⟩
  ·by_cases hj:j=i
   ·subst hj;rw[hi]at e1;cases e1;rw[List.getElem?_set_self hiσ]at e2
    cases e2
    exact⟨u,r, .inr ⟨.inl hk,c,hc,hc'⟩⟩
   ·rw[List.getElem?_set_ne (Ne.symm hj)]at e2;obtain⟨u',r',q⟩:=hl j y v' e1 e2 e3;refine⟨u',r',?_⟩;rcases q with q|⟨k,c',e,z'⟩
    ·exact .inl q
    ·refine .inr ⟨k,c',e,z'.sameBut hs ?_⟩;rintro rfl;exact hj (Hn hN e1 (I.ok.inj _ _ _ e hc▸hi))
  ·by_cases hcc:c'=c
   ·subst hcc;exact⟨_,hc'⟩
   ·obtain⟨w2,z2⟩:=I.cell y c' e;exact⟨w2,z2.sameBut hs hcc⟩
  ·obtain⟨e,n,ne,nf,d⟩:=I.pin p hp;refine⟨(hs.2 p.1 ?_).trans e,n,ne,nf,d⟩;intro q;rw[q,hoc]at e;have q':oc=p.2:=Option.some.inj e;exact d w' (by rw[<-q'];exact hocd)
theorem Df{u:Value}(I:Inv X pins σ H s)(hN:X.N.Nodup)(hi:X.N[i]? =some x)(hx:Loc X.env.scope x)(r:RelV v u)
 (h:∀s',Inv X pins (σ.set i (some v)) H s'->Q () s') (hf:X.fn x=true\/X.env.scope.names.lookup x=some .local:=by first|exact .inl rfl|exact .inr rfl|assumption):wpAny M A (storeName X.env x u) Q E s:=
 KQ I hN hi hx r (λs' I' _=>h s' I') hf
theorem Inv.call'(I:Inv X pins σ H s)(ho:s'.os=s.os)(u:Un (frs X.stack) ch H H' s.heap s'.heap)(hok:HOk X.prog X.w H' s'.heap)(hg:AllBare s'.gens)
 (hch:∀b∈ch,(b∈X.ex\/X.s₀.heap.objs.size<=b)/\b≠X.env.locals/\(∀x c,X.env.cells.lookup x=some c->c≠b)/\∀p∈X.pn++pins,p.1≠b):Inv X pins σ H' s':=by
 obtain⟨h',g',d',t',o'⟩:=s';have e:o'=s.os:=ho;subst e;exact I.call (g':=g') (t':=t') (d':=d') u hok hg hch
abbrev XK:=Value->Option Addr->Hp->Prop
abbrev W2:=List (Option V)
abbrev VK:=V->Hp->Prop
abbrev TE:=W2->Hp->VK->Prop
abbrev TT:=W2->Hp->(Bool->Hp->Prop)->Prop
abbrev TA:=W2->Hp->(List V->Hp->Prop)->Prop
structure Ends where
 nx:W2->Hp->Prop
 rt:VK
 bk:W2->Hp->Prop:=λ_ _=>False
 ct:W2->Hp->Prop:=λ_ _=>False
abbrev TS:=Ends->W2->Hp->Prop
end L2
variable{ta td te ti tl to tv:TE}{tb ts:TS}{tc tt:TT}{r':V->Option Int->Option Int->Hp->VK->Prop}{rd tget:V->V->Hp->VK->Prop}{μ:W2->Hp->Nat}
namespace L2
variable{a b c:Expr}{es:List Expr}{rest st:List Stmt}{t:TS}{v x:V}{σ:W2}
def EP(X:Cx)(pins:List (Addr×Obj))(σ:W2)(Q:VK)(u:Value)(s':Shared):Prop:=∃v H',Inv X pins σ H' s'/\RelV v u/\Q v H'
def TP(X:Cx)(pins:List (Addr×Obj))(σ:W2)(Q:Bool->Hp->Prop)(b:Bool)(s':Shared):Prop:=∃H',Inv X pins σ H' s'/\Q b H'
def AP(X:Cx)(pins:List (Addr×Obj))(σ:W2)(Q:List V->Hp->Prop)(us:List Value)(s':Shared):Prop:=∃vs H',Inv X pins σ H' s'/\Vals vs us/\Q vs H'
def SP(X:Cx)(pins:List (Addr×Obj))(D:Ends)(f:Flow)(s':Shared):Prop:=
 match f with
 | .next=>∃σ' H',Inv X pins σ' H' s'/\D.nx σ' H'
 | .brk=>∃σ' H',Inv X pins σ' H' s'/\D.bk σ' H'
 | .cont=>∃σ' H',Inv X pins σ' H' s'/\D.ct σ' H'
 | .ret u=>∃v σ' H',Inv X pins σ' H' s'/\RelV v u/\D.rt v H'
def PE(X:Cx)(e:Expr)(t:TE):Prop:=
 ∀ (pins:List (Addr×Obj)) (s:Shared) (σ:W2) (H:Hp) (Q:VK),Inv X pins σ H s->t σ H Q->wpAny (model X.prog X.w) X.A (eval e X.env) (EP X pins σ Q) X.xe s
def PT(X:Cx)(e:Expr)(t:TT):Prop:=
 ∀ (pins:List (Addr×Obj)) (s:Shared) (σ:W2) (H:Hp) (Q:Bool->Hp->Prop),Inv X pins σ H s->t σ H Q->wpAny (model X.prog X.w) X.A (isTrue e X.env (eval e X.env)) (TP X pins σ Q) X.xe s
def PW(X:Cx)(e:Expr)(t:TT):Prop:=
 ∀ (whole:Sem Value) (pins:List (Addr×Obj)) (s:Shared) (σ:W2) (H:Hp) (Q:Bool->Hp->Prop),Inv X pins σ H s->t σ H Q->wpAny (model X.prog X.w) X.A (isTrue e X.env whole) (TP X pins σ Q) X.xe s
theorem PW.pt{t:TT}(h:PW X e t):PT X e t:=h _
def PA(X:Cx)(es:List Expr)(t:TA):Prop:=
 ∀ (pos:Pos) (pins:List (Addr×Obj)) (s:Shared) (σ:W2) (H:Hp) (Q:List V->Hp->Prop),Inv X pins σ H s->t σ H Q->wpAny (model X.prog X.w) X.A (spliced (backTo pos (starEach es X.env))) (AP X pins σ Q) X.xe s
def PS(X:Cx)(st:Stmt)(t:TS):Prop:=
 ∀ (pins:List (Addr×Obj)) (s:Shared) (σ:W2) (H:Hp) (D:Ends),Inv X pins σ H s->t D σ H->wpAny (model X.prog X.w) X.A (exec st X.env) (SP X pins D) X.xe s
def PSs(X:Cx)(st:List Stmt)(t:TS):Prop:=
 ∀ (pins:List (Addr×Obj)) (s:Shared) (σ:W2) (H:Hp) (D:Ends),Inv X pins σ H s->t D σ H->wpAny (model X.prog X.w) X.A (execs st X.env) (SP X pins D) X.xe s
theorem thn{t:Sem α}{Q Q':α->Shared->Prop}(h:wpAny M A t Q E s)(hQ:∀a s,Q a s->Q' a s):wpAny M A t Q' E s:=wpAny_mono h hQ λ_ _ x=>x
section
def Ah(i:Nat):TE:=λσ H Q=>∃v,σ[i]? =some (some v)/\Q v H
def tC(v:V):TE:=λ_ H Q=>Q v H
theorem VM{x:Str}{pos:Pos}(hN:X.N[i]? =some x)(hv:Vis X.env.scope x)(hd:(x==("__debug__":Str))=false:=by decide)(hcd:(x==("__classdict__":Str))=false:=by decide):PE X (.Name x pos) (Ah i):=by
 intro pins s σ H Q I h;obtain⟨v,e,h⟩:=h;obtain⟨m,hn,hl⟩:=I.loc;obtain⟨u,r,l⟩:=hl i x v hN e hv;have fin:EP X pins σ Q u s:=⟨v,H,I,r,h⟩;rcases l with⟨hk,hm⟩|⟨hk,c,hc,hcell⟩
 ·exact wpAny_Name (wpAny_loadName_local I.ok.kind hk hn hm fin) hd
 ·rcases hk with hk|hk
  ·exact wpAny_Name (wpAny_loadName_cell I.ok.kind hk hc hcell fin) hd
  ·exact wpAny_Name (wpAny_loadName_free I.ok.kind hk hc hcell fin hcd) hd
theorem AC{i j pos}:PE X (.Constant (.int i) j pos) (tC (.int i)):=λ_ _ _ H _ I h=>wpAny_Constant_int ⟨.int i,H,I.tok _,⟨_,rfl⟩,h⟩
theorem Cg{b j pos}:PE X (.Constant (.bool b) j pos) (tC (.bl b)):=λ_ _ _ H _ I h=>Constant_bool ⟨.bl b,H,I,rfl,h⟩
theorem A6{j pos}:PE X (.Constant .none j pos) (tC .non):=λ_ _ _ H _ I h=>Constant_none ⟨.non,H,I,rfl,h⟩
theorem VN{x j pos}:PE X (.Constant (.str x) j pos) (tC (.str x)):=λ_ _ _ H _ I h=>Calls.Constant_str ⟨.str x,H,I.tok _,⟨_,rfl⟩,h⟩
def Gl(X:Cx)(x:Str):Prop:=X.env.kindOf x=some .globalImplicit
theorem Dl{x:Str}{u:Value}{pos:Pos}(I:Inv X pins σ H s)(hg:Gl X x)(hm:X.mg x=some u)(h:Q u s)
 (hd:(x==("__debug__":Str))=false:=by decide):wpAny (model X.prog X.w) X.A (eval (.Name x pos) X.env) Q E s:=
 Calls.Name_function_global I.ok.kind hg (Calls.loadGlobal_global (by rw[I.ok.glob];exact I.mod.glob.keeps I.bk) hm h) hd
theorem CB{x:Str}{u:Value}{pos:Pos}(I:Inv X pins σ H s)(hg:Gl X x)(hm:X.mg x=none)(hv:bootBuiltins x=some u)(h:Q u s)
 (hn:x≠"__name__":=by decide) (hd:(x==("__debug__":Str))=false:=by decide):wpAny (model X.prog X.w) X.A (eval (.Name x pos) X.env) Q E s:=by
 obtain⟨mb,h1,h2⟩:=I.mod.blt;exact Calls.Name_function_global I.ok.kind hg (Calls.loadGlobal_builtin (by rw[I.ok.glob];exact I.mod.glob.keeps I.bk) hm (by rw[I.ok.blt];exact h1.keeps I.bk) ((h2 x hn).trans hv) h) hd
theorem To{x:Str}{u:Value}{pos:Pos}(hg:Gl X x)(hm:X.mg x=some u)(r:RelV v u)(hd:(x==("__debug__":Str))=false:=by decide):PE X (.Name x pos) (tC v):=
 λ_ _ _ H _ I h=>Dl I hg hm ⟨v,H,I,r,h⟩ hd
theorem Tq{x:Str}{u:Value}{pos:Pos}(hg:Gl X x)(hm:X.mg x=none)(hv:bootBuiltins x=some u)(r:RelV v u)(hn:x≠"__name__":=by decide)(hd:(x==("__debug__":Str))=false:=by decide):PE X (.Name x pos) (tC v):=
 λ_ _ _ H _ I h=>CB I hg hm hv ⟨v,H,I,r,h⟩ hn hd
variable{tb:TE}{pos:Pos}
variable{tA tB':TT}{rest:List Expr}
def Nn(t u:TT):TT:=λσ H Q=>t σ H λc H1=>if c=true then u σ H1 Q else Q false H1
def tOr(t u:TT):TT:=λσ H Q=>t σ H λc H1=>if c=true then Q true H1 else u σ H1 Q
def Nl(t:TT):TT:=λσ H Q=>t σ H λc H1=>Q (!c) H1
theorem EY(ha:PT X a tA):PW X (.BoolOp .And [a] pos) tA:=by
 intro wh pins s σ H Q I h;refine isTrue_and (thn (ha pins s σ H Q I h) λc s1 e=>?_)
 cases c with
 |true=>exact isTrue_and_nil e
 |false=>exact e
theorem Bo(ha:PT X a tA):PW X (.BoolOp .Or [a] pos) tA:=by
 intro wh pins s σ H Q I h;refine isTrue_or (thn (ha pins s σ H Q I h) λc s1 e=>?_)
 cases c with
 |false=>exact isTrue_or_nil e
 |true=>exact e
theorem El(ha:PT X a tA)(hb:PW X (.BoolOp .And (b::rest) pos) tB'):PW X (.BoolOp .And (a::b::rest) pos) (Nn tA tB'):=by
 intro wh pins s σ H Q I h;refine isTrue_and (thn (ha pins s σ H _ I h) λc s1 ⟨H1,I1,q1⟩=>?_)
 cases c with
 |true=>exact hb wh pins s1 σ H1 Q I1 q1
 |false=>exact⟨H1,I1,q1⟩
theorem Bf(ha:PT X a tA)(hb:PW X (.BoolOp .Or (b::rest) pos) tB'):PW X (.BoolOp .Or (a::b::rest) pos) (tOr tA tB'):=by
 intro wh pins s σ H Q I h;refine isTrue_or (thn (ha pins s σ H _ I h) λc s1 ⟨H1,I1,q1⟩=>?_)
 cases c with
 |true=>exact⟨H1,I1,q1⟩
 |false=>exact hb wh pins s1 σ H1 Q I1 q1
theorem Be(ha:PT X a tA):PT X (.UnaryOp .Not a pos) (Nl tA):=by
 intro pins s σ H Q I h;exact isTrue_not (ha pins s σ H (λc H1=>Q (!c) H1) I h)
def JO(ta tb:TE):TE:=λσ H Q=>ta σ H λx H1=>∃c,x= .bl c/\if c=true then tb σ H1 Q else Q (.bl false) H1
def NN(ta:TE):TE:=λσ H Q=>ta σ H λx H1=>∃c,x= .bl c/\Q (.bl (!c)) H1
theorem Eo{op}{t:TE}(h:PE X a t):PE X (.BoolOp op [a] pos) t:=λpins s σ H Q I hw=>BoolOp_one (h pins s σ H Q I hw)
theorem Er(ha:PE X a ta)(hb:PE X (.BoolOp .And (b::rest) pos) tb):PE X (.BoolOp .And (a::b::rest) pos) (JO ta tb):=by
 intro pins s σ H Q I h;refine BoolOp_and (thn (ha pins s σ H _ I h) λv s1 ⟨x,H1,I1,r1,q1⟩=>?_);obtain⟨c,rfl,q1⟩:=q1
 cases r1
 refine wpAny_truthy_bool ?_
 cases c with
 |true=>exact hb pins s1 σ H1 Q I1 q1
 |false=>exact⟨.bl false,H1,I1,rfl,q1⟩
theorem VO(ha:PE X a ta):PE X (.UnaryOp .Not a pos) (NN ta):=by
 intro pins s σ H Q I h;refine UnaryOp_ (thn (ha pins s σ H _ I h) λv s1 ⟨x,H1,I1,r1,q1⟩=>?_);obtain⟨c,rfl,q1⟩:=q1
 cases r1
 exact not_of (wpAny_truthy_bool ⟨.bl (!c),H1,I1,rfl,q1⟩)
def tIf(t:TT)(ta tb:TE):TE:=λσ H Q=>t σ H λc H1=>if c=true then ta σ H1 Q else tb σ H1 Q
theorem EU(hc:PT X c tA)(ha:PE X a ta)(hb:PE X b tb):PE X (.IfExp c a b pos) (tIf tA ta tb):=by
 intro pins s σ H Q I h;refine wpAny_IfExp (thn (hc pins s σ H _ I h) λd s1 ⟨H1,I1,q1⟩=>?_)
 cases d with
 |true=>exact ha pins s1 σ H1 Q I1 q1
 |false=>exact hb pins s1 σ H1 Q I1 q1
end
def SqL(K:W.Frag)(H:Hp)(a:Addr)(xs:List V):Prop:=
 Rd H a (.lst xs)\/
  ∃ (o:Obj) (its:Array Value) (n:Nat),K.lookup a=some o/\o.cls= .type "list"/\o.dict=none/\o.data= .seq its n/\its.size<=sizeLine/\Vals xs its.toList
def SqT(K:W.Frag)(H:Hp)(a:Addr)(xs:List V):Prop:=
 Rd H a (.tup xs)\/
  ∃ (o:Obj) (its:Array Value) (n:Nat),K.lookup a=some o/\o.cls= .type "tuple"/\o.data= .seq its n/\its.size<=sizeLine/\Vals xs its.toList
def GR:Value->Option V
 | .none=>some .non
 | .bool b=>some (.bl b)
 | .int i _=>some (.int i)
 | .str x _=>some (.str x)
 | .bytes b _=>some (.byt b)
 | .float b _=>some (.flt b)
 | .ref a=>some (.ref a)
 | .type n=>some (.ty n)
 |_=>none
theorem RelV.abs{u:Value}(r:RelV x u):GR u=some x:=by
 cases x with
 |non=>cases r;rfl
 |bl _=>cases r;rfl
 |int _=>obtain⟨t,rfl⟩:=r;rfl
 |str _=>obtain⟨t,rfl⟩:=r;rfl
 |byt _=>obtain⟨t,rfl⟩:=r;rfl
 |flt _=>obtain⟨t,rfl⟩:=r;rfl
 |ref _=>cases r;rfl
 |ty _=>cases r;rfl
theorem RelV.inj{y:V}{u:Value}(r:RelV x u)(q:RelV y u):x=y:=Option.some.inj (r.abs.symm.trans q.abs)
theorem Vals.inj:∀ {xs ys:List V} {us:List Value},Vals xs us->Vals ys us->xs=ys
 |_,_,_, .nil, .nil=>rfl
 |_,_,_, .cons r t, .cons r' t'=>by rw[r.inj r',Vals.inj t t']
section
variable{a:Addr}{xs ys:List V}
theorem SqL.of(h:H a=some (.lst xs)):SqL K H a xs:= .inl (.inl h)
theorem SqT.of(h:H a=some (.tup xs)):SqT K H a xs:= .inl (.inl h)
theorem Inv.list(I:Inv X pins σ H s)(h:SqL X.K H a xs):∃its:List Value,Vals xs its/\PlainL s.heap a its.toArray/\xs.length<=sizeLine:=by
 rcases h with h|⟨o,its,n,hk,hc,hd,hs,hz,r⟩
 ·obtain⟨z,its,n,r,e⟩:=h.ok I.hok;exact⟨its,r,⟨_,n,e,rfl,rfl,rfl⟩,z⟩
 ·refine⟨its.toList,r,⟨o,n,I.kIn a o hk,hc,hd,by simpa using hs⟩,?_⟩;have e:=r.length;simp only[Array.length_toList]at e;lia
theorem Inv.tuple(I:Inv X pins σ H s)(h:SqT X.K H a xs):∃its:List Value,Vals xs its/\IsTup s.heap a its.toArray/\xs.length<=sizeLine:=by
 rcases h with h|⟨o,its,n,hk,hc,hs,hz,r⟩
 ·obtain⟨z,its,r,p⟩:=h.ok I.hok;exact⟨its,r,p,z⟩
 ·refine⟨its.toList,r,⟨o,I.kIn a o hk,hc,n,by simpa using hs⟩,?_⟩;have e:=r.length;simp only[Array.length_toList]at e;lia
theorem Inv.list_inj(I:Inv X pins σ H s)(h:SqL X.K H a xs)(h':SqL X.K H a ys):xs=ys:=by
 obtain⟨its,r,⟨o,n,e,_,_,d⟩,_⟩:=I.list h;obtain⟨its',r',⟨o',n',e',_,_,d'⟩,_⟩:=I.list h';rw[e]at e';cases e';rw[d]at d';injection d' with d1 _
 have:its=its':=by simpa using congrArg Array.toList d1
 subst this;exact r.inj r'
end
abbrev Cx.wish(X:Cx)(E:Value->Shared->Prop):Cx:={X with xe:=E}
abbrev Cx.nox(X:Cx):Cx:=X.wish λ_ _=>False
theorem Cx.Ok.wish(ok:X.Ok)(E:Value->Shared->Prop):(X.wish E).Ok:=
 ⟨ok.mod,ok.kind,ok.glob,ok.blt,ok.above,ok.inj,ok.has,ok.cab,ok.hd,ok.frames,ok.stk,ok.exf,ok.bs,ok.bsz,ok.noex,ok.exfs,ok.funs,ok.frf⟩
theorem Cx.Ok.unwish(ok:(X.wish E).Ok):X.Ok:=
 ⟨ok.mod,ok.kind,ok.glob,ok.blt,ok.above,ok.inj,ok.has,ok.cab,ok.hd,ok.frames,ok.stk,ok.exf,ok.bs,ok.bsz,ok.noex,ok.exfs,ok.funs,ok.frf⟩
theorem Inv.wish(I:Inv X pins σ H s)(E:Value->Shared->Prop):Inv (X.wish E) pins σ H s:=⟨I.ok.wish E,I.os,I.bare,I.base,I.loc,I.cell,I.free,I.freeC,I.pin,I.hok,I.len⟩
theorem Inv.unwish(I:Inv (X.wish E) pins σ H s):Inv X pins σ H s:=⟨I.ok.unwish,I.os,I.bare,I.base,I.loc,I.cell,I.free,I.freeC,I.pin,I.hok,I.len⟩
theorem SP.unwish{D:Ends}{f:Flow}(h:SP (X.wish E) pins D f s'):SP X pins D f s':=by
 cases f with
 |next=>obtain⟨σ',H',I,q⟩:=h;exact⟨σ',H',I.unwish,q⟩
 |brk=>obtain⟨σ',H',I,q⟩:=h;exact⟨σ',H',I.unwish,q⟩
 |cont=>obtain⟨σ',H',I,q⟩:=h;exact⟨σ',H',I.unwish,q⟩
 |ret u=>obtain⟨v,σ',H',I,r,q⟩:=h;exact⟨v,σ',H',I.unwish,r,q⟩
theorem PSs.nox(h:PSs X.nox st t):PSs X st t:=λpins s σ H D I hw=>
 wpAny_mono (h pins s σ H D (I.wish _) hw) (λ_ _ q=>q.unwish) λ_ _ z=>False.elim z
section
variable{st:Stmt}{u:TS}{pos:Pos}
def tNext:TS:=λD σ H=>D.nx σ H
def DV(t u:TS):TS:=λD σ H=>t {D with nx:=u D} σ H
theorem Ad:PSs X [] tNext:=λ_ _ σ H _ I h=>wpAny_execs_nil ⟨σ,H,I,h⟩
theorem AD(h1:PS X st t)(h2:PSs X rest u):PSs X (st::rest) (DV t u):=by
 intro pins s σ H D I h;refine wpAny_execs_cons (thn (h1 pins s σ H {D with nx:=u D} I h) λf s1 q=>?_)
 cases f with
 |next=>
  obtain⟨σ',H',I',q⟩:=q;exact h2 pins s1 σ' H' D I' q
 |ret v=>exact q
 |brk=>exact q
 |cont=>exact q
theorem AF(h1:PS X st t):PSs X [st] t:=by
 intro pins s σ H D I h;refine wpAny_execs_cons (thn (h1 pins s σ H D I h) λf s1 q=>?_)
 cases f with
 |next=>exact wpAny_execs_nil q
 |ret v=>exact q
 |brk=>exact q
 |cont=>exact q
def tCont:TS:=λD σ H=>D.ct σ H
theorem Pc:PS X (.Continue pos) tCont:=λ_ _ σ H _ I h=>wpAny_Continue ⟨σ,H,I,h⟩
theorem Inv.quiet(I:Inv X pins σ H s):interactive X.env=false:=by simp[interactive,I.ok.kind]
def Ez(te:TE):TS:=λD σ H=>te σ H λ_ H1=>D.nx σ H1
theorem Al(he:PE X e te)(hs:swapsWith e none pos.line X.env=pure false:=by rfl):PS X (.Expr e pos) (Ez te):=by
 intro pins s σ H D I h;exact wpAny_Expr_any (thn (he pins s σ H _ I h) λv s1 ⟨x,H1,I1,r1,q1⟩=>⟨σ,H1,I1,q1⟩) I.quiet hs
def Jh(te:TE):TS:=λD σ H=>te σ H D.rt
theorem AR(he:PE X e te):PS X (.Return (some e) pos) (Jh te):=by
 intro pins s σ H D I h;exact wpAny_Return_some (thn (he pins s σ H _ I h) λv s1 ⟨x,H1,I1,r1,q1⟩=>⟨x,σ,H1,I1,r1,q1⟩)
def Ji(c:TT)(t u:TS):TS:=λD σ H=>c σ H λb H1=>if b=true then t D σ H1 else u D σ H1
theorem Ac{a b:List Stmt}(hc:PT X c tc)(ha:PSs X a t)(hb:PSs X b u):PS X (.If c a b pos) (Ji tc t u):=by
 intro pins s σ H D I h;refine wpAny_If (thn (hc pins s σ H _ I h) λd s1 ⟨H1,I1,q1⟩=>?_)
 cases d with
 |true=>exact ha pins s1 σ H1 D I1 q1
 |false=>exact hb pins s1 σ H1 D I1 q1
def tNever:TS:=λ_ _ _=>False
theorem Wv:PS X st tNever:=λ_ _ _ _ _ _ h=>h.elim
end
abbrev TG:=V->W2->Hp->(W2->Hp->Prop)->Prop
abbrev TGs:=List V->W2->Hp->(W2->Hp->Prop)->Prop
def PG(X:Cx)(target:Expr)(t:TG):Prop:=
 ∀ (pins:List (Addr×Obj)) (s:Shared) (σ:W2) (H:Hp) (v:V) (u:Value) (Q:W2->Hp->Prop),Inv X pins σ H s->RelV v u->t v σ H Q->
   wpAny (model X.prog X.w) X.A (assign target X.env u) (λ_ s'=>∃σ' H',Inv X pins σ' H' s'/\Q σ' H') X.xe s
def PGs(X:Cx)(ts:List Expr)(t:TGs):Prop:=
 ∀ (pins:List (Addr×Obj)) (s:Shared) (σ:W2) (H:Hp) (vs:List V) (us:List Value) (Q:W2->Hp->Prop),Inv X pins σ H s->Vals vs us->t vs σ H Q->
   wpAny (model X.prog X.w) X.A (assignInOrder ((assignEach ts X.env).map (·.2)) us) (λ_ s'=>∃σ' H',Inv X pins σ' H' s'/\Q σ' H') X.xe s
abbrev TSet:=V->V->V->Hp->(Hp->Prop)->Prop
def Jq(X:Cx)(t:TSet):Prop:=
 ∀ (pins:List (Addr×Obj)) (s:Shared) (σ:W2) (H:Hp) (o i v:V) (ov iv u:Value) (Q:Hp->Prop),Inv X pins σ H s->RelV o ov->RelV i iv->RelV v u->t o i v H Q->
   wpAny (model X.prog X.w) X.A (setItem ov iv u) (λ_ s'=>∃H',Inv X pins σ H' s'/\Q H') X.xe s
abbrev TIp:=V->V->Hp->VK->Prop
def PIp(X:Cx)(op:Operator)(t:TIp):Prop:=
 ∀ (pins:List (Addr×Obj)) (s:Shared) (σ:W2) (H:Hp) (x y:V) (v u:Value) (Q:VK),Inv X pins σ H s->RelV x v->RelV y u->t x y H Q->
   wpAny (model X.prog X.w) X.A (inplaceOp op v u) (EP X pins σ Q) X.xe s
section
variable{pos:Pos}
def BY(i:Nat):TG:=λv σ H Q=>Q (σ.set i (some v)) H
theorem AU{x:Str}(hN:X.N.Nodup)(hi:X.N[i]? =some x)(hx:Loc X.env.scope x)(hf:X.fn x=true\/X.env.scope.names.lookup x=some .local:=by first|exact .inl rfl|exact .inr rfl|assumption):PG X (.Name x pos) (BY i):=by
 intro pins s σ H v u Q I r h;exact wpAny_assign_Name (Df I hN hi hx r (λs' I'=>⟨_,H,I',h⟩) hf)
def gNil:TGs:=λvs σ H Q=>vs=[]/\Q σ H
def GG(t:TG)(u:TGs):TGs:=λvs σ H Q=>∃v r,vs=v::r/\t v σ H λσ' H'=>u r σ' H' Q
theorem Bm:PGs X [] gNil:=by
 intro pins s σ H vs us Q I r h;obtain⟨e,h⟩:=h;subst e
 cases r
 exact assignInOrder_nil ⟨σ,H,I,h⟩
theorem Aj{t:TG}{u:TGs}(h1:PG X e t)(h2:PGs X es u)
 (hs:(assignEach (e::es) X.env).map (·.2)=assign e X.env::(assignEach es X.env).map (·.2):=by rfl):PGs X (e::es) (GG t u):=by
 intro pins s σ H vs us Q I r h;obtain⟨v,vr,e1,h⟩:=h;subst e1
 cases r with
 |cons r rr=>
  rw[hs];refine assignInOrder_cons (thn (h1 pins s σ H _ _ _ I r h) λ_ s1 ⟨σ1,H1,I1,q1⟩=>?_);exact h2 pins s1 σ1 H1 _ _ Q I1 rr q1
def EG(K:W.Frag)(n:Nat)(t:TGs):TG:=λv σ H Q=>∃a xs,v= .ref a/\SqT K H a xs/\xs.length=n/\t xs σ H Q
theorem VL{k:Nat}{t:TGs}(hc:X.calm=true)(h:PGs X es t)
 (hn:(assignEach es X.env).length=n:=by rfl) (hst:(assignEach es X.env).findIdx? (·.1)=none:=by rfl):PG X (.Tuple es k pos) (EG X.K n t):=by
 intro pins s σ H v u Q I r hw;obtain⟨a,xs,e1,hq,hl,hw⟩:=hw;subst e1
 cases r
 obtain⟨its,rv,ht,hz⟩:=I.tuple hq;refine assign_Tuple_tuple (I.ok.hd hc) ht (by simp[hn,<-hl,rv.length]) hst λh' hx=>?_;have I1:Inv X pins σ H {s with heap:=h'}:=I.kept (t':=s.toks) λb o e=>hx b o (Nat.ne_of_lt (Heap.lt_size e)) e;exact h pins _ σ H xs _ Q I1 (by simpa using rv) hw
def GP(to ti:TE)(t:TSet):TG:=λv σ H Q=>to σ H λo H1=>ti σ H1 λi H2=>t o i v H2 λH3=>Q σ H3
theorem CK{o i:Expr}{t:TSet}(ho:PE X o to)(hi:PE X i ti)(hs:Jq X t)
 (ha:∀v,assign (.Subscript o i pos) X.env v=(do
   let ov<-holding [v] (eval o X.env)
   let iv<-holding [v,ov] (eval i X.env)
   standAt pos
   holding [v,ov,iv] (setItem ov iv v)
   release [v,ov,iv] []):=by intro _;rfl):PG X (.Subscript o i pos) (GP to ti t):=by
 intro pins s σ H v u Q I r h;rw[ha];refine wpAny_bind (wpAny_holding (thn (ho pins s σ H _ I h) λov s1 ⟨x,H1,I1,r1,q1⟩=>?_));refine wpAny_bind (wpAny_holding (thn (hi pins s1 σ H1 _ I1 q1) λiv s2 ⟨y,H2,I2,r2,q2⟩=>?_));refine wpAny_bind (wpAny_standAt (wpAny_bind (wpAny_holding (thn (hs pins s2 σ H2 x y v ov iv u _ I2 r1 r2 r q2) λ_ s3 ⟨H3,I3,q3⟩=>?_))));exact wpAny_release ⟨σ,H3,I3,q3⟩
def Ck(te:TE)(g:TG):TS:=λD σ H=>te σ H λx H1=>g x σ H1 D.nx
theorem BV{g:TG}(he:PE X e te)(hg:PG X tg g)(hs:swapsWithSole [tg] e pos.line X.env=pure false:=by rfl)(hw:swappedStores [tg] e X.env=pure none:=by rfl)
 (h1:(assignEach [tg] X.env).map (·.2)=[assign tg X.env]:=by rfl):PS X (.Assign [tg] e pos) (Ck te g):=by
 intro pins s σ H D I h;refine wpAny_Assign_stores (thn (he pins s σ H _ I h) λv s1 ⟨x,H1,I1,r1,q1⟩=>?_) hs hw;rw[h1];exact thn (hg pins s1 σ H1 x v _ I1 r1 q1) λ_ s2 q=>q
theorem AO{x:Str}(hN:X.N.Nodup)(hi:X.N[i]? =some x)(hx:Loc X.env.scope x)(he:PE X e te)(hs:swapsWith e (some (.Name x pos')) pos.line X.env=pure false:=by rfl)(hf:X.fn x=true\/X.env.scope.names.lookup x=some .local:=by first|exact .inl rfl|exact .inr rfl|assumption):
 PS X (.Assign [.Name x pos'] e pos) (Ck te (BY i)):=by
 intro pins s σ H D I h;refine wpAny_Assign_Name (thn (he pins s σ H _ I h) λv s1 ⟨y,H1,I1,r1,q1⟩=>?_) hs;exact Df I1 hN hi hx r1 (λs2 I2=>⟨_,H1,I2,q1⟩) hf
def Nk(i j:Nat)(ta:TA):TS:=λD σ H=>ta σ H λvs H1=>∃v w,vs=[v,w]/\D.nx ((σ.set i (some v)).set j (some w)) H1
theorem VD{x y:Str}{ta:TA}{px py pt:Pos}{kt k2 pt2}(hc:X.calm=true)(hN:X.N.Nodup)(hi:X.N[i]? =some x)(hj:X.N[j]? =some y)(hij:i≠j)
 (hx:X.env.scope.names.lookup x=some .local) (hy:X.env.scope.names.lookup y=some .local) (ha:PA X [a,b] ta)
 (hw:swappedStores [.Tuple [.Name x px, .Name y py] kt pt] (.Tuple [a,b] k2 pt2) X.env=pure (some [x,y]))
 (hs:swapsWithSole [.Tuple [.Name x px, .Name y py] kt pt] (.Tuple [a,b] k2 pt2) pos.line X.env=pure false:=by rfl):
 PS X (.Assign [.Tuple [.Name x px, .Name y py] kt pt] (.Tuple [a,b] k2 pt2) pos) (Nk i j ta):=by
 intro pins s σ H D I h;rw[exec_Assign_arm];refine wpAny_bind (wpAny_standAt ?_);rw[hs];refine wpAny_bind (wpAny_pure ?_);rw[if_neg (by decide)];refine wpAny_bind (Tuple_ (thn (ha _ pins s σ H _ I h) λus s1 ⟨vs,H1,I1,r1,q1⟩=>?_));obtain⟨v,w,e1,q1⟩:=q1;subst e1;obtain⟨u1,u2,rfl,rv,rw'⟩:∃u1 u2,us=[u1,u2]/\RelV v u1/\RelV w u2:=by
  cases r1 with
  |cons p q=>
   cases q with
   |cons p' q'=>
    cases q'
    exact⟨_,_,rfl,p,p'⟩
 refine wpAny_newObj_type ?_ (by show 2<=sizeLine;decide);have I2:Inv X pins σ H1 {s1 with heap:=s1.heap.push {cls:= .type "tuple",data:= .seq [u1,u2].toArray}}:=I1.kept (t':=s1.toks) λb o e=>Heap.get?_push_of_some _ e;rw[hw];refine wpAny_bind (wpAny_pure ?_);show wpAny (model X.prog X.w) X.A (do rule "assign.swapped-stores";let items<-unpackItems (.ref s1.heap.objs.size) 2 none;assignInOrder [λv=>bindName X.env y v,λv=>bindName X.env x v] items.reverse;pure Flow.next) _ _ _;refine wpAny_bind (wpAny_rule (wpAny_bind (unpackItems_tuple (items:= #[u1,u2]) (I.ok.hd hc) (IsTup.new s1.heap _) λh' hx'=>?_)));have I3:=I2.kept (h':=h') (t':=s1.toks) λb o e=>hx' b o (Nat.ne_of_lt (Heap.lt_size e)) e;show wpAny _ _ (assignInOrder [λv=>bindName X.env y v,λv=>bindName X.env x v] [u2,u1]>>=λ_=>pure Flow.next) _ _ _;refine wpAny_bind (assignInOrder_cons (wpAny_bindName (Df I3 hN hj (.inl hy) rw' (λs2 I4=>?_) (.inr hy))));refine assignInOrder_cons (wpAny_bindName (Df I4 hN hi (.inl hx) rv (λs3 I5=>assignInOrder_nil (wpAny_pure ?_)) (.inr hx)));rw[List.set_comm _ _ (Ne.symm hij)]at I5;exact⟨_,H1,I5,q1⟩
def Nm(i:Nat)(te:TE)(ti:TIp):TS:=λD σ H=>∃x,σ[i]? =some (some x)/\te σ H λy H1=>ti x y H1 λz H2=>D.nx (σ.set i (some z)) H2
theorem F2{x:Str}{op:Operator}{ti:TIp}(hN:X.N.Nodup)(hi:X.N[i]? =some x)(hx:Loc X.env.scope x)(he:PE X e te)(ho:PIp X op ti)(hf:X.fn x=true\/X.env.scope.names.lookup x=some .local:=by first|exact .inl rfl|exact .inr rfl|assumption):
 PS X (.AugAssign (.Name x pos') op e pos) (Nm i te ti):=by
 intro pins s σ H D I h;obtain⟨v,e1,h⟩:=h;obtain⟨m,hn,hl⟩:=I.loc;have vis:Vis X.env.scope x:=by rcases hx with k|k;exact .inl k;exact .inr (.inl k)
 obtain⟨u,r,l⟩:=hl i x v hi e1 vis;refine wpAny_AugAssign_Name ?_;have go:wpAny (model X.prog X.w) X.A (eval e X.env) (λw s₂=>wpAny (model X.prog X.w) X.A (inplaceOp op u w) (λr s₃=>wpAny (model X.prog X.w) X.A (storeName X.env x r) (λ_=>SP X pins D .next) X.xe s₃) X.xe s₂) X.xe s:=by
  refine thn (he pins s σ H _ I h) λw s1 ⟨y,H1,I1,r1,q1⟩=>?_;refine thn (ho pins s1 σ H1 v y u w _ I1 r r1 q1) λz s2 ⟨zv,H2,I2,r2,q2⟩=>?_;exact Df I2 hN hi hx r2 (λs3 I3=>⟨_,H2,I3,q2⟩) hf
 rcases l with⟨hk,hm⟩|⟨hk,c,hc,hcell⟩
 ·exact wpAny_loadName_local I.ok.kind hk hn hm go
 ·rcases hk with hk|hk
  ·exact wpAny_loadName_cell I.ok.kind hk hc hcell go
  ·rcases hx with k|k
   ·have:X.env.scope.names.lookup x=some .free:=hk;rw[k]at this;cases this
   ·have:X.env.scope.names.lookup x=some .free:=hk;rw[k]at this;cases this
def NO(to ti te:TE)(tget:V->V->Hp->VK->Prop)(tip:TIp)(tset:TSet):TS:=λD σ H=>to σ H λo H1=>ti σ H1 λi H2=>tget o i H2 λx H3=>te σ H3 λy H4=>tip x y H4 λz H5=>tset o i z H5 λH6=>D.nx σ H6
def N7(X:Cx)(t:V->V->Hp->VK->Prop):Prop:=
 ∀ (pins:List (Addr×Obj)) (s:Shared) (σ:W2) (H:Hp) (o i:V) (ov iv:Value) (Q:VK),Inv X pins σ H s->RelV o ov->RelV i iv->t o i H Q->
   wpAny (model X.prog X.w) X.A (getItem ov iv) (EP X pins σ Q) X.xe s
theorem Ea{o i:Expr}{tip:TIp}{tset:TSet}{op:Operator}(ho:PE X o to)(hi:PE X i ti)(hg:N7 X tget)(he:PE X e te)(hp:PIp X op tip)(hs:Jq X tset)
 (ha:∀ov iv new,augStore i ov iv new=(do holding [new,ov,iv] (setItem ov iv new);release [new,ov,iv] [];pure .next):=by intros;rfl):PS X (.AugAssign (.Subscript o i tpos) op e pos) (NO to ti te tget tip tset):=by
 intro pins s σ H D I h;refine wpAny_AugAssign_SubscriptAny (thn (ho pins s σ H _ I h) λov s1 ⟨x1,H1,I1,r1,q1⟩=>?_) ha;refine thn (hi pins s1 σ H1 _ I1 q1) λiv s2 ⟨x2,H2,I2,r2,q2⟩=>?_;refine thn (hg pins s2 σ H2 x1 x2 ov iv _ I2 r1 r2 q2) λold s3 ⟨x3,H3,I3,r3,q3⟩=>?_;refine thn (he pins s3 σ H3 _ I3 q3) λv s4 ⟨x4,H4,I4,r4,q4⟩=>?_;refine thn (hp pins s4 σ H4 x3 x4 old v _ I4 r3 r4 q4) λnew s5 ⟨x5,H5,I5,r5,q5⟩=>?_;exact thn (hs pins s5 σ H5 x1 x2 x5 ov iv new _ I5 r1 r2 r5 q5) λ_ s6 ⟨H6,I6,q6⟩=>⟨σ,H6,I6,q6⟩
def ipI(f:Int->Int->Int):TIp:=λx y H Q=>∃i j,x= .int i/\y= .int j/\Q (.int (f i j)) H
theorem DP:PIp X .Add (ipI λi j=>i+j):=by
 intro pins s σ H x y v u Q I r1 r2 h;obtain⟨i,j,e1,e2,q⟩:=h;subst e1;subst e2;obtain⟨t,rfl⟩:=r1;obtain⟨t',rfl⟩:=r2;exact iadd_int ⟨.int _,H,I.tok _,⟨_,rfl⟩,q⟩
theorem Vi:PIp X .Sub (ipI λi j=>i-j):=by
 intro pins s σ H x y v u Q I r1 r2 h;obtain⟨i,j,e1,e2,q⟩:=h;subst e1;subst e2;obtain⟨t,rfl⟩:=r1;obtain⟨t',rfl⟩:=r2;exact isub_int ⟨.int _,H,I.tok _,⟨_,rfl⟩,q⟩
def Me(c:TT)(tb:TS):TS:=λD σ H=>∃W:Nat->W2->Hp->Prop,(∃m,W m σ H)/\∀m σ H,W m σ H->
 c σ H λb H1=>if b=true then∃N:W2->Hp->Prop,(∀σ' H',N σ' H'->∃m',m'<m/\W m' σ' H')/\tb {D with nx:=N,ct:=N,bk:=D.nx} σ H1 else D.nx σ H1
theorem Hj(hp:PassesOwn (model X.prog X.w) X.A X.env X.xe)(hc:PT X c tc)(hb:PSs X body tb):PS X (.While c body [] pos) (Me tc tb):=by
 intro pins s σ H D I h;obtain⟨W,⟨m0,w0⟩,turn⟩:=h;refine wpAny_While (codeAny_whileLoop (λn s'=>∃σ' H',Inv X pins σ' H' s'/\W n σ' H') ?_ m0 ⟨σ,H,I,w0⟩);rintro n s1 ⟨σ1,H1,I1,w1⟩;refine wpAny_passesOwn hp (thn (hc pins s1 σ1 H1 _ I1 (turn n σ1 H1 w1)) λb s2 ⟨H2,I2,q2⟩=>?_)
 cases b with
 |true=>
  obtain⟨N,hN,q2⟩:=q2;rw[if_pos rfl];refine wpAny_passesOwn hp (thn (hb pins s2 σ1 H2 _ I2 q2) λf s3 q3=>?_)
  cases f with
  |next=>
   obtain⟨σ3,H3,I3,n3⟩:=q3;obtain⟨m',hm,w3⟩:=hN σ3 H3 n3;exact⟨m',hm,σ3,H3,I3,w3⟩
  |cont=>
   obtain⟨σ3,H3,I3,n3⟩:=q3;obtain⟨m',hm,w3⟩:=hN σ3 H3 n3;exact⟨m',hm,σ3,H3,I3,w3⟩
  |brk=>exact q3
  |ret v=>exact q3
 |false=>
  rw[if_neg Bool.false_ne_true];exact wpAny_execs_nil ⟨σ1,H2,I2,q2⟩
end
structure W3 where
 go:Nat->Hp->Prop
 yld:Nat->Hp->V->Hp->Prop
 stop:Nat->Hp->Prop
def BF(X:Cx)(pins:List (Addr×Obj))(H:Hp)(b:Addr):Prop:=
 H b=none/\b≠X.env.locals/\b∉X.fs/\(b∈X.ex\/X.s₀.heap.objs.size<=b)/\(∀x c,X.env.cells.lookup x=some c->c≠b)/\∀p∈X.pn++pins,p.1≠b
theorem Inv.fpOk{b:Addr}(I:Inv X pins σ H s)(hb:s.heap.objs.size<=b)(hn:H' b=none):BF X pins H' b:=by
 refine⟨hn,Nat.ne_of_gt (Nat.lt_of_lt_of_le I.lt hb),I.nofs hb, .inr (Nat.le_trans I.sz hb),λx c e z=>?_,λp hp z=>?_⟩
 ·obtain⟨v,q⟩:=I.cell x c e;exact absurd (Nat.lt_of_lt_of_le q.lt (by rw[z];exact hb)) (Nat.lt_irrefl _)
 ·exact absurd (Nat.lt_of_lt_of_le (Heap.lt_size (I.pin p hp).1) (by rw[z];exact hb)) (Nat.lt_irrefl _)
structure Turn (P:Program) (w:World) (K:W.Frag) (tg:Expr) (J:W3) (fp:List Addr) (it:Addr) (tn:Nat->Heap->Prop):Prop where
 mem:it∈fp
 obj:∀i h,tn i h->∀b∈fp,∃o,h.get? b=some o/\∀v,o.data≠ .cell v
 keep:∀i h h',tn i h->(∀b∈fp,∀o,h.get? b=some o->h'.get? b=some o)->tn i h'
 item:∀ (X:Cx),X.prog=P->X.w=w->X.K=K->X.calm=true->∀ (i:Nat) (pins:List (Addr×Obj)) (s:Shared) (σ:W2) (H:Hp) (E:Value->Shared->Prop),Inv X pins σ H s->(∀b∈fp,BF X pins H b)->tn i s.heap->J.go i H->
  wpAny (model P w) X.A (pyNext (.ref it)) (λr s1=>∃u,r=some u/\
   wpAny (model P w) X.A (letOwnedTupleGo tg (.ref it) u) (λ_ s2=>∃x H',Inv X pins σ H' s2/\RelV x u/\J.yld i H x H'/\tn (i+1) s2.heap/\∀b∈fp,H' b=none) E s1) E s
 done:∀ (X:Cx),X.prog=P->X.w=w->X.K=K->X.calm=true->∀ (i:Nat) (pins:List (Addr×Obj)) (s:Shared) (σ:W2) (H:Hp) (E:Value->Shared->Prop),Inv X pins σ H s->(∀b∈fp,BF X pins H b)->tn i s.heap->J.stop i H->
  wpAny (model P w) X.A (pyNext (.ref it)) (λr s1=>r=none/\Inv X pins σ H s1) E s
 self:∀ (A:Around) (i:Nat) (s:Shared) (Q:Value->Shared->Prop) (E:Value->Shared->Prop),tn i s.heap->Q (.ref it) s->wpAny (model P w) A (pyIter (.ref it)) Q E s
abbrev TI:=W2->Hp->(W3->Hp->Prop)->Prop
end L2
variable{wi:TI}{tset:TSet}
namespace L2
variable{p:Addr×Obj}{vs:Array Value}{b:Bool}{D:Ends}{a:Expr}{C:Int->Int->Prop}{es:List Expr}{ns:List Str}{xs:List V}{o:Option Value}{P:Program}{g:TG}{v x y:V}{r:V->Hp->VK->Prop}{R:V->V->Hp->Prop}{f:Value->Value->Sem Value}{Q:Value×List Value->Shared->Prop}{σ:W2}
def PIE(X:Cx)(pins:List (Addr×Obj))(σ:W2)(tg:Expr)(R:W3->Hp->Prop)(itv:Value)(s2:Shared):Prop:=
 ∃ (it:Addr) (fp:List Addr) (tn:Nat->Heap->Prop) (J:W3) (H':Hp),itv= .ref it/\Inv X pins σ H' s2/\Turn X.prog X.w X.K tg J fp it tn/\tn 0 s2.heap/\(∀b∈fp,BF X pins H' b)/\R J H'
def PI(X:Cx)(tg iter:Expr)(wi:TI):Prop:=
 ∀ (pins:List (Addr×Obj)) (s:Shared) (σ:W2) (H:Hp) (R:W3->Hp->Prop),Inv X pins σ H s->wi σ H R->
   wpAny (model X.prog X.w) X.A (eval iter X.env) (λv s1=>wpAny (model X.prog X.w) X.A (pyIter v) (PIE X pins σ tg R) X.xe s1) X.xe s
theorem GF{u:Value}{o:Obj}{n:String}{Q:Unit->Shared->Prop}(ho:s.heap.get? it=some o)(hc:o.cls= .type n)(hd:o.data= .fields vs)
 (hn:["enumerate","zip","dict_itemiterator","dict_reverseitemiterator","odict_iterator","itertools.zip_longest","itertools.pairwise"].contains n=false) (hQ:Q () s):wpAny M A (letOwnedTupleGo tg (.ref it) u) Q E s:=by
 unfold letOwnedTupleGo
 cases tg<;>first
  |exact wpAny_pure hQ
  |(cases u<;>first
     |exact wpAny_pure hQ
     |(refine wpAny_bind (wpAny_load ho ?_)
       rw[hc,hd];show wpAny M A (if(["enumerate","zip","dict_itemiterator","dict_reverseitemiterator","odict_iterator","itertools.zip_longest","itertools.pairwise"].contains n&&vs[0]? ==some (rawInt _))=true then _ else _) Q E s;rw[if_neg (by intro h;rw[hn,Bool.false_and]at h;cases h)];exact wpAny_pure hQ))
def Itl(K:W.Frag)(a:Addr):W3:=
 ⟨λi H=>∃xs x,SqL K H a xs/\xs[i]? =some x,λi H x H'=>H'=H/\∀xs,SqL K H a xs->xs[i]? =some x,λi H=>∃xs,SqL K H a xs/\xs.length<=i⟩
def Itr(lo:Int)(n:Nat):W3:=⟨λi _=>i<n,λi H x H'=>H'=H/\x= .int (lo+i),λi _=>n<=i⟩
theorem Qa(a it:Addr):Turn P w K tg (Itl K a) [it] it (λi h=>h.IsListIter it a i) where
 mem:=by simp
 obj:=λi h st b hb=>by
  have e:b=it:=by simpa using hb
  subst e;obtain⟨o,e,c,d⟩:=st;exact⟨o,e,λv z=>by rw[d]at z;cases z⟩
 keep:=λi h h' st k=>st.at λo e=>k it (by simp) o e
 item:=by
  intro X hP hw hK hc i pins s σ H E I hf st hg;subst hP hw hK;obtain⟨xs,x,hq,hx⟩:=hg;obtain⟨its,rv,p,hz⟩:=I.list hq;obtain⟨u,hu,ru⟩:=rv.get hx;obtain⟨f0,f1,f2,f3,f4,f5⟩:=hf it (by simp);refine wpAny_pyNext_list_item st p.isList (x:=u) (by simpa using hu) λh' st' sb=>?_;have I1:Inv X pins σ H {s with heap:=h'}:=I.turned (t':=s.toks) (λb o hb e=>(sb.2 b hb).trans e) f0 f1 f3 f4 f5;obtain⟨o,e,c,d⟩:=id st';exact⟨u,rfl,GF (s:={s with heap:=h'}) e c d (by decide) ⟨x,H,I1,ru,⟨rfl,λys hy=>by rw[I.list_inj hy hq];exact hx⟩,st',λb hb=>(hf b hb).1⟩⟩
 done:=by
  intro X hP hw hK hc i pins s σ H E I hf st hg;subst hP hw hK;obtain⟨xs,hq,hx⟩:=hg;obtain⟨its,rv,p,hz⟩:=I.list hq;obtain⟨f0,f1,f2,f3,f4,f5⟩:=hf it (by simp);have hl:=rv.length;exact wpAny_pyNext_list_end (I.ok.hd hc) st p.isList (by simp;lia) λh' eb=>⟨rfl,I.turned (t':=s.toks) (λb o hb e=>eb b o hb e) f0 f1 f3 f4 f5⟩
 self:=λ_ _ _ _ _ st h=>wpAny_pyIter_listiter st h
theorem Py(it:Addr)(lo:Int)(n:Nat):Turn P w K tg (Itr lo n) [it] it (λi h=>IsRangeIter h it (lo+(i:Nat)*1) ((n:Int)-(i:Nat)) 1) where
 mem:=by simp
 obj:=λi h st b hb=>by
  have e:b=it:=by simpa using hb
  subst e;exact⟨_,st,λv z=>by
   have z':Data.fields _=Data.cell v:=z
   cases z'⟩
 keep:=λi h h' st k=>k it (by simp) _ st
 item:=by
  intro X hP hw hK hc i pins s σ H E I hf st hg;subst hP hw hK;obtain⟨f0,f1,f2,f3,f4,f5⟩:=hf it (by simp);have W:=Walks.range (prog:=X.prog) (w:=X.w) (I.ok.hd hc) it lo 1 n;refine W.item i s _ _ hg st λv h' tk hv st' kk=>?_;obtain⟨t,rfl⟩:=hv;have I1:Inv X pins σ H {s with heap:=h',toks:=tk}:=I.turned (λb o hb e=>kk b o (by simpa using hb) e) f0 f1 f3 f4 f5;refine⟨_,rfl,GF (s:={s with heap:=h',toks:=tk}) (n:="range_iterator") st' rfl rfl (by decide) ⟨.int (lo+i),H,I1,⟨t,?_⟩,⟨rfl,rfl⟩,st',λb hb=>(hf b hb).1⟩⟩;rw[Int.mul_one]
 done:=by
  intro X hP hw hK hc i pins s σ H E I hf st hg;subst hP hw hK;obtain⟨f0,f1,f2,f3,f4,f5⟩:=hf it (by simp);exact wpAny_pyNext_range_end (I.ok.hd hc) st (by have:n<=i:=hg;lia) λh' eb=>⟨rfl,I.turned (t':=s.toks) (λb o hb e=>eb b o hb e) f0 f1 f3 f4 f5⟩
 self:=λ_ _ _ _ _ st h=>wpAny_pyIter_rangeiter st h
def Jb(K:W.Frag)(tl:TE):TI:=λσ H R=>tl σ H λx H1=>∃a,x= .ref a/\(∃xs,SqL K H1 a xs)/\R (Itl K a) H1
theorem Td{l:Expr}(hl:PE X l tl):PI X tg l (Jb X.K tl):=by
 intro pins s σ H R I h;refine thn (hl pins s σ H _ I h) λv s1 ⟨x,H1,I1,r1,q1⟩=>?_;obtain⟨a,e,⟨xs,hq⟩,q⟩:=q1;subst e
 cases r1
 obtain⟨its,rv,p,hz⟩:=I1.list hq;refine wpAny_pyIter_list p.isList ?_;refine⟨s1.heap.objs.size,[s1.heap.objs.size],_,_,H1,rfl,I1.kept (t':=s1.toks) λb o e=>Heap.get?_push_of_some _ e,Qa a _,⟨_,Heap.get?_push_size _ rfl,rfl,rfl⟩,λb hb=>?_,q⟩;have e:b=s1.heap.objs.size:=by simpa using hb
 subst e;exact I1.fpOk (Nat.le_refl _) (I1.hok.fresh (Nat.le_refl _))
theorem Rn{R:W3->Hp->Prop}{t u v:Tok}(I:Inv X pins σ H s)(h1: -(2^62)<=lo)(h2:lo<2^62)(h3: -(2^62)<=hi)(h4:hi<2^62)
 (q:R (Itr lo (hi-lo).toNat) H):wpAny (model X.prog X.w) X.A (pyIter (.ref s.heap.objs.size)) (PIE X pins σ tg R) E {s with heap:=s.heap.push {cls:= .type "range",data:= .fields #[.int lo t, .int hi u, .int 1 v]},toks:=tk}:=by
 refine wpAny_pyIter_range (IsRange.new ..) (small_one h1 h2 h3 h4) ?_;have I1:Inv X pins σ H {s with heap:=s.heap.push {cls:= .type "range",data:= .fields #[.int lo t, .int hi u, .int 1 v]},toks:=tk}:=I.kept λb o e=>Heap.get?_push_of_some _ e;refine⟨(s.heap.push {cls:= .type "range",data:= .fields #[.int lo t, .int hi u, .int 1 v]}).objs.size,[(s.heap.push {cls:= .type "range",data:= .fields #[.int lo t, .int hi u, .int 1 v]}).objs.size],_,_,H,rfl,
  I1.kept (t':=tk) λb o e=>Heap.get?_push_of_some _ e,Py _ lo (hi-lo).toNat,?_,λb hb=>?_,q⟩
 ·have e1:lo+((0:Nat):Int)*1=lo:=by simp
  have e2:(((hi-lo).toNat:Nat):Int)-((0:Nat):Int)=Builtin.Range.rangeSize lo hi 1:=by rw[rangeSize_one];split<;>lia
  show IsRangeIter _ _ (lo+((0:Nat):Int)*1) ((((hi-lo).toNat:Nat):Int)-((0:Nat):Int)) 1;rw[e1,e2];exact Heap.get?_push_size _ rfl
 ·have e:b=(s.heap.push {cls:= .type "range",data:= .fields #[.int lo t, .int hi u, .int 1 v]}).objs.size:=by simpa using hb
  subst e;exact I1.fpOk (Nat.le_refl _) (I1.hok.fresh (Nat.le_refl _))
def GE(ta:TA):TI:=λσ H R=>ta σ H λvs H1=>∃j:Int,vs=[.int j]/\ -(2^62)<=j/\j<2^62/\R (Itr 0 j.toNat) H1
theorem CH{ta:TA}{p pos:Pos}(hg:Gl X "range")(hm:X.mg "range"=none)(ha:PA X [a] ta)(hs:starEach [a] X.env=[(false,eval a X.env)]:=by rfl):PI X tg (.Call (.Name "range" p) [a] [] pos) (GE ta):=by
 intro pins s σ H R I h;refine Call_ (CB I hg hm boot_range (PyProof.Rows.callWith_type1 (thn (ha pos pins s σ H _ I h) λus s1 ⟨vs,H1,I1,r1,q1⟩=>?_) hs rfl));obtain⟨j,e,q1,q2,q⟩:=q1;subst e
 cases r1 with
 |cons r rr=>
  cases rr
  obtain⟨t,rfl⟩:=r;exact call_range_1 (Rn I1 (by lia) (by lia) q1 q2 (by simpa using q))
def GJ(wi:TI)(g:TG)(tb:TS):TS:=λD σ H=>wi σ H λJ H1=>∃W:Nat->Nat->W2->Hp->Prop,(∃m,W 0 m σ H1)/\∀i m σ H,W i m σ H->
 (J.stop i H/\D.nx σ H)\/(J.go i H/\∃N:W2->Hp->Prop,(∀σ' H',N σ' H'->∃m',m'<m/\W (i+1) m' σ' H')/\∀x H',J.yld i H x H'->g x σ H' λσ2 H2=>tb {D with nx:=N,ct:=N,bk:=D.nx} σ2 H2)
def Cv(fp:List Addr)(h:Heap):List (Addr×Obj):=fp.filterMap λb=>(h.get? b).map λo=>(b,o)
theorem Cr{b:Addr}{o:Obj}(hb:b∈fp)(e:h.get? b=some o):(b,o)∈Cv fp h:=List.mem_filterMap.mpr ⟨b,hb,by rw[e];rfl⟩
theorem Qt(hp:p∈Cv fp h):p.1∈fp/\h.get? p.1=some p.2:=by
 obtain⟨b,hb,e⟩:=List.mem_filterMap.mp hp
 cases q:h.get? b with
 |none=>rw[q]at e;cases e
 |some o=>
  rw[q]at e;have e':(b,o)=p:=Option.some.inj e;subst e';exact⟨hb,q⟩
theorem Inv.pinned(I:Inv X pins σ H s)(hf:∀b∈fp,BF X pins H b)(ho:∀b∈fp,∃o,s.heap.get? b=some o/\∀v,o.data≠ .cell v):Inv X (pins++Cv fp s.heap) σ H s:=
 I.pins_of λp hp=>(List.mem_append.mp hp).elim (λz=>I.pin p (List.mem_append_right _ z)) λz=>by
  obtain⟨hb,e⟩:=Qt z;obtain⟨f0,f1,f2,_⟩:=hf p.1 hb;obtain⟨o,e',d⟩:=ho p.1 hb;rw[e]at e';cases e';exact⟨e,f0,f1,f2,d⟩
theorem Inv.unpinned{pl:List (Addr×Obj)}(I:Inv X (pins++pl) σ H s):Inv X pins σ H s:=I.pins_of λp hp=>I.pin p (List.mem_append_right _ (List.mem_append_left _ hp))
theorem A2{pos:Pos}(hp:PassesOwn (model X.prog X.w) X.A X.env X.xe)(hc:X.calm=true)(hi:PI X tg iter wi)(hg:PG X tg g)(hb:PSs X body tb)
 (hs:∀x,foldedSetIterable iter X.env x=pure x:=by intro _;rfl):PS X (.For tg iter body [] pos) (GJ wi g tb):=by
 intro pins s σ H D I h;refine wpAny_For (thn (hi pins s σ H _ I h) λv s1 h1=>thn h1 λitv s2 h2=>?_) hs;obtain⟨it,fp,tn,J,H2,e,I2,T,st2,f2,W,⟨m0,w0⟩,turn⟩:=h2;subst e;have stat:∀ {H':Hp},(∀b∈fp,H' b=none)->∀b∈fp,BF X pins H' b:=λhn b hb=>⟨hn b hb,(f2 b hb).2⟩;refine codeAny_forLoop_any (λn s'=>∃i σ' H',Inv X pins σ' H' s'/\tn i s'.heap/\(∀b∈fp,H' b=none)/\W i n σ' H') ?_ m0 ⟨0,σ,H2,I2,st2,λb hb=>(f2 b hb).1,w0⟩;rintro n s3 ⟨i,σ3,H3,I3,st3,fr3,w3⟩;rcases turn i n σ3 H3 w3 with⟨stop,qn⟩|⟨go,N,hN,step⟩
 ·refine wpAny_passesOwn hp (thn (T.done X rfl rfl rfl hc i pins s3 σ3 H3 X.xe I3 (stat fr3) st3 stop) λr s4 ⟨hr,I4⟩=>?_);subst hr;exact wpAny_execs_nil ⟨σ3,H3,I4,qn⟩
 ·refine wpAny_passesOwn hp (thn (T.item X rfl rfl rfl hc i pins s3 σ3 H3 X.xe I3 (stat fr3) st3 go) λr s4 ⟨u,hr,h4⟩=>?_);subst hr;refine wpAny_passesOwn hp (thn h4 λ_ s5 ⟨x,H5,I5,r5,y5,st5,fr5⟩=>?_);have I5':=I5.pinned (stat fr5) (T.obj _ _ st5);refine wpAny_passesOwn hp (thn (hg _ s5 σ3 H5 x u _ I5' r5 (step x H5 y5)) λ_ s6 ⟨σ6,H6,I6,q6⟩=>?_);refine wpAny_passesOwn hp (thn (hb _ s6 σ6 H6 _ I6 q6) λf s7 q7=>?_);have again:∀ {σ7:W2} {H7:Hp},Inv X (pins++Cv fp s5.heap) σ7 H7 s7->N σ7 H7->∃m,m<n/\∃i σ' H',Inv X pins σ' H' s7/\tn i s7.heap/\(∀b∈fp,H' b=none)/\W i m σ' H':=fun{σ7 H7} I7 n7=>by
   obtain⟨m',hm,w7⟩:=hN σ7 H7 n7;refine⟨m',hm,i+1,σ7,H7,I7.unpinned,T.keep _ _ _ st5 λb hb o e=>(I7.pin (b,o) (List.mem_append_right _ (List.mem_append_right _ (Cr hb e)))).1,λb hb=>?_,w7⟩;obtain⟨o,e,d⟩:=T.obj _ _ st5 b hb;exact(I7.pin (b,o) (List.mem_append_right _ (List.mem_append_right _ (Cr hb e)))).2.1
  cases f with
  |next=>obtain⟨σ7,H7,I7,n7⟩:=q7;exact again I7 n7
  |cont=>obtain⟨σ7,H7,I7,n7⟩:=q7;exact again I7 n7
  |brk=>obtain⟨σ7,H7,I7,q7⟩:=q7;exact⟨σ7,H7,I7.unpinned,q7⟩
  |ret v=>obtain⟨x7,σ7,H7,I7,r7,q7⟩:=q7;exact⟨x7,σ7,H7,I7.unpinned,r7,q7⟩
theorem SN{a:Addr}(Pv:Nat->W2->Hp->Prop)(h0:Pv 0 σ H)(hl:∀i σ H,i<=xs.length->Pv i σ H->SqL K H a xs)
 (hs:∀i x σ H,xs[i]? =some x->Pv i σ H->g x σ H λσ2 H2=>tb {D with nx:=Pv (i+1),ct:=Pv (i+1),bk:=D.nx} σ2 H2) (hd:∀σ H,Pv xs.length σ H->D.nx σ H):
 ∃W:Nat->Nat->W2->Hp->Prop,(∃m,W 0 m σ H)/\∀i m σ H,W i m σ H->
  ((Itl K a).stop i H/\D.nx σ H)\/((Itl K a).go i H/\∃N:W2->Hp->Prop,(∀σ' H',N σ' H'->∃m',m'<m/\W (i+1) m' σ' H')/\∀x H',(Itl K a).yld i H x H'->g x σ H' λσ2 H2=>tb {D with nx:=N,ct:=N,bk:=D.nx} σ2 H2):=by
 refine⟨λi m σ H=>m=xs.length-i/\i<=xs.length/\Pv i σ H,⟨xs.length,by simp,Nat.zero_le _,h0⟩,?_⟩;rintro i m σ H ⟨rfl,hi,p⟩;have q:=hl i σ H hi p
 by_cases hlt:i<xs.length
 ·refine .inr ⟨⟨xs,xs[i],q,by simp[hlt]⟩,Pv (i+1),λσ' H' p'=>⟨xs.length-(i+1),by lia,rfl,hlt,p'⟩,λx H' y=>?_⟩;obtain⟨e,y⟩:=y;subst e;exact hs i x σ _ (y xs q) p
 ·have e:i=xs.length:=by lia
  subst e;exact .inl ⟨⟨xs,q,Nat.le_refl _⟩,hd σ H p⟩
theorem RC(Pv:Nat->W2->Hp->Prop)(h0:Pv 0 σ H)
 (hs:∀i σ H,i<n->Pv i σ H->g (.int (lo+i)) σ H λσ2 H2=>tb {D with nx:=Pv (i+1),ct:=Pv (i+1),bk:=D.nx} σ2 H2) (hd:∀σ H,Pv n σ H->D.nx σ H):
 ∃W:Nat->Nat->W2->Hp->Prop,(∃m,W 0 m σ H)/\∀i m σ H,W i m σ H->
  ((Itr lo n).stop i H/\D.nx σ H)\/((Itr lo n).go i H/\∃N:W2->Hp->Prop,(∀σ' H',N σ' H'->∃m',m'<m/\W (i+1) m' σ' H')/\∀x H',(Itr lo n).yld i H x H'->g x σ H' λσ2 H2=>tb {D with nx:=N,ct:=N,bk:=D.nx} σ2 H2):=by
 refine⟨λi m σ H=>m=n-i/\i<=n/\Pv i σ H,⟨n,by simp,Nat.zero_le _,h0⟩,?_⟩;rintro i m σ H ⟨rfl,hi,p⟩
 by_cases hlt:i<n
 ·refine .inr ⟨hlt,Pv (i+1),λσ' H' p'=>⟨n-(i+1),by lia,rfl,hlt,p'⟩,λx H' y=>?_⟩;obtain⟨e,y⟩:=y;subst e y;exact hs i σ _ hlt p
 ·have e:i=n:=by lia
  subst e;exact .inl ⟨Nat.le_refl _,hd σ H p⟩
abbrev R2:=V->V->Hp->VK->Prop
def OpR(X:Cx)(f:Value->Value->Sem Value)(r:R2):Prop:=
 ∀ (pins:List (Addr×Obj)) (s:Shared) (σ:W2) (H:Hp) (x y:V) (v u:Value) (Q:VK),Inv X pins σ H s->RelV x v->RelV y u->r x y H Q->
   wpAny (model X.prog X.w) X.A (f v u) (EP X pins σ Q) X.xe s
def UnR(X:Cx)(f:Value->Sem Value)(r:V->Hp->VK->Prop):Prop:=
 ∀ (pins:List (Addr×Obj)) (s:Shared) (σ:W2) (H:Hp) (x:V) (v:Value) (Q:VK),Inv X pins σ H s->RelV x v->r x H Q->
   wpAny (model X.prog X.w) X.A (f v) (EP X pins σ Q) X.xe s
def CallR(X:Cx)(f:Value)(r:List V->Hp->VK->Prop):Prop:=
 ∀ (pins:List (Addr×Obj)) (s:Shared) (σ:W2) (H:Hp) (xs:List V) (us:List Value) (Q:VK),Inv X pins σ H s->Vals xs us->r xs H Q->
   wpAny (model X.prog X.w) X.A (call f us) (EP X pins σ Q) X.xe s
def Wt(X:Cx)(r:V->Hp->(Bool->Hp->Prop)->Prop):Prop:=
 ∀ (pins:List (Addr×Obj)) (s:Shared) (σ:W2) (H:Hp) (x:V) (v:Value) (Q:Bool->Hp->Prop),Inv X pins σ H s->RelV x v->r x H Q->
   wpAny (model X.prog X.w) X.A (truthy v) (TP X pins σ Q) X.xe s
def tOp(r:R2)(ta tb:TE):TE:=λσ H Q=>ta σ H λx H1=>tb σ H1 λy H2=>r x y H2 Q
def tUn(r:V->Hp->VK->Prop)(ta:TE):TE:=λσ H Q=>ta σ H λx H1=>r x H1 Q
def rI(C:Int->Int->Prop)(g:Int->Int->V):R2:=λx y H Q=>∃i j,x= .int i/\y= .int j/\C i j/\Q (g i j) H
def rI0(g:Int->Int->V):R2:=λx y H Q=>∃i j,x= .int i/\y= .int j/\Q (g i j) H
def rU(g:Int->V):V->Hp->VK->Prop:=λx H Q=>∃i,x= .int i/\Q (g i) H
section
variable{b c:Expr}{tb tc:TE}{pos:Pos}
theorem Jp(ha:PE X a ta)(hb:PE X b tb)(I:Inv X pins σ H s)
 (h:ta σ H λx H1=>tb σ H1 λy H2=>R x y H2) {Q:Value->Shared->Prop} {f:Value->Value->Sem Value}
 (hf:∀v u s2 x y H2,Inv X pins σ H2 s2->RelV x v->RelV y u->R x y H2->wpAny (model X.prog X.w) X.A (f v u) Q X.xe s2):
 wpAny (model X.prog X.w) X.A (eval a X.env) (λv s₁=>wpAny (model X.prog X.w) X.A (eval b X.env) (λu s₂=>wpAny (model X.prog X.w) X.A (f v u) Q X.xe s₂) X.xe s₁) X.xe s:=by
 refine thn (ha pins s σ H _ I h) λv s1 ⟨x,H1,I1,r1,q1⟩=>?_;refine thn (hb pins s1 σ H1 _ I1 q1) λu s2 ⟨y,H2,I2,r2,q2⟩=>?_;exact hf v u s2 x y H2 I2 r1 r2 q2
theorem AG{op:Operator}{r:R2}(ho:OpR X (binaryOp op) r)(ha:PE X a ta)(hb:PE X b tb):PE X (.BinOp a op b pos) (tOp r ta tb):=by
 intro pins s σ H Q I h;exact wpAny_BinOp (Jp ha hb I h λv u s2 x y H2 I2 rx ry q=>ho pins s2 σ H2 x y v u Q I2 rx ry q)
theorem CC{op:UnaryOp}(ho:UnR X (unaryOp op) r)(ha:PE X a ta):PE X (.UnaryOp op a pos) (tUn r ta):=by
 intro pins s σ H Q I h;exact UnaryOp_ (thn (ha pins s σ H _ I h) λv s1 ⟨x,H1,I1,r1,q1⟩=>ho pins s1 σ H1 x v Q I1 r1 q1)
theorem opI{g:Int->Int->Int}
 (rule:∀ (i j:Int) (t u:Tok) (s:Shared) (Q:Value->Shared->Prop) (E:Value->Shared->Prop),C i j->Q (.int (g i j) s.toks) {s with toks:=s.toks+1}->wpAny (model X.prog X.w) X.A (f (.int i t) (.int j u)) Q E s):
 OpR X f (rI C λi j=> .int (g i j)):=by
 intro pins s σ H x y v u Q I rx ry h;obtain⟨i,j,rfl,rfl,hc,q⟩:=h;obtain⟨t,rfl⟩:=rx;obtain⟨t',rfl⟩:=ry;exact rule i j t t' s _ _ hc ⟨.int (g i j),H,I.tok _,⟨_,rfl⟩,q⟩
theorem Nz{g:Int->Int->Int}
 (rule:∀ (i j:Int) (t u:Tok) (s:Shared) (Q:Value->Shared->Prop) (E:Value->Shared->Prop),Q (.int (g i j) s.toks) {s with toks:=s.toks+1}->wpAny (model X.prog X.w) X.A (f (.int i t) (.int j u)) Q E s):
 OpR X f (rI0 λi j=> .int (g i j)):=by
 intro pins s σ H x y v u Q I rx ry h;obtain⟨i,j,rfl,rfl,q⟩:=h;obtain⟨t,rfl⟩:=rx;obtain⟨t',rfl⟩:=ry;exact rule i j t t' s _ _ ⟨.int (g i j),H,I.tok _,⟨_,rfl⟩,q⟩
theorem GO{g:Int->Int->Bool}
 (rule:∀ (i j:Int) (t u:Tok) (s:Shared) (Q:Value->Shared->Prop) (E:Value->Shared->Prop),Q (.bool (g i j)) s->wpAny (model X.prog X.w) X.A (f (.int i t) (.int j u)) Q E s):
 OpR X f (rI0 λi j=> .bl (g i j)):=by
 intro pins s σ H x y v u Q I rx ry h;obtain⟨i,j,rfl,rfl,q⟩:=h;obtain⟨t,rfl⟩:=rx;obtain⟨t',rfl⟩:=ry;exact rule i j t t' s _ _ ⟨.bl (g i j),H,I,rfl,q⟩
def Wu(i j:Int):Prop:=0<j/\j<1073741824
def N9(i j:Int):Prop:=0<=j/\j<=1000000/\i.natAbs<2^64
def CMul(i j:Int):Prop:=(-(2^64)<i/\i<2^64)\/(-(2^64)<j/\j<2^64)
theorem CMul.ok{i j:Int}(h:CMul i j):IntMulOk i j:=by
 rcases h with⟨h1,h2⟩|⟨h1,h2⟩
 ·exact .of_left (intBits_le_64 h1 h2)
 ·exact .of_right (intBits_le_64 h1 h2)
theorem op_add:OpR X (binaryOp .Add) (rI0 λi j=> .int (i+j)):=Nz λ_ _ _ _ _ _ _ q=>add_int q
theorem My:OpR X (binaryOp .Sub) (rI0 λi j=> .int (i-j)):=Nz λ_ _ _ _ _ _ _ q=>sub_int q
theorem op_mul:OpR X (binaryOp .Mult) (rI CMul λi j=> .int (i*j)):=opI λ_ _ _ _ _ _ _ hc q=>mul_int q hc.ok
theorem Tx:OpR X (binaryOp .FloorDiv) (rI Wu λi j=> .int (i/j)):=opI λi j _ _ _ _ _ hc q=>by
 have h1:(0:Int)<j:=hc.1;have h2:j<1073741824:=hc.2;exact floordiv_int (by lia) (by rw[Int.fdiv_eq_ediv_of_nonneg i (by lia)];exact q) (.inl (PyProof.noPylong_small (by lia)))
theorem Cw:OpR X (binaryOp .Mod) (rI (λ_ j=>0<j) λi j=> .int (i%j)):=opI λi j _ _ _ _ _ hc q=>by
 have h1:(0:Int)<j:=hc;exact mod_int' (by lia) (by rw[Int.fmod_eq_emod_of_nonneg i (by lia)];exact q)
theorem VT:OpR X (binaryOp .Pow) (rI N9 λi j=> .int (i^j.toNat)):=opI λ_ _ _ _ _ _ _ hc q=>pow_int_small hc.1 hc.2.1 hc.2.2 q
theorem unI{f:Value->Sem Value}{g:Int->Int}
 (rule:∀ (i:Int) (t:Tok) (s:Shared) (Q:Value->Shared->Prop) (E:Value->Shared->Prop),Q (.int (g i) s.toks) {s with toks:=s.toks+1}->wpAny (model X.prog X.w) X.A (f (.int i t)) Q E s):
 UnR X f (rU λi=> .int (g i)):=by
 intro pins s σ H x v Q I rx h;obtain⟨i,rfl,q⟩:=h;obtain⟨t,rfl⟩:=rx;exact rule i t s _ _ ⟨.int (g i),H,I.tok _,⟨_,rfl⟩,q⟩
theorem B7:UnR X (unaryOp .USub) (rU λi=> .int (-i)):=unI λ_ _ _ _ _ q=>neg_int q
end
def Np:V->V->Bool
 | .non, .non=>true| .non, .int _=>true| .int _, .non=>true| .non, .bl _=>true| .bl _, .non=>true| .non, .str _=>true| .str _, .non=>true
 | .int _, .int _=>true| .bl _, .bl _=>true| .str _, .str _=>true| .byt _, .byt _=>true
 | .int _, .str _=>true| .str _, .int _=>true| .bl _, .str _=>true| .str _, .bl _=>true
 |_,_=>false
def rEq:R2:=λx y H Q=>Np x y=true/\Q (.bl (decide (x=y))) H
def rNe:R2:=λx y H Q=>Np x y=true/\Q (.bl (!decide (x=y))) H
theorem Fv{i j:Int}:decide (V.int i=V.int j)=(i==j):=by
 rw[Bool.eq_iff_iff];simp
theorem JH{i j:Bool}:decide (V.bl i=V.bl j)=(i==j):=by
 rw[Bool.eq_iff_iff];simp
theorem MS{i j:Str}:decide (V.str i=V.str j)=(i==j):=by
 rw[Bool.eq_iff_iff];simp
theorem MT{i j:Array UInt8}:decide (V.byt i=V.byt j)=(i.toList==j.toList):=by
 rw[Bool.eq_iff_iff]
 cases i
 cases j
 simp
section
variable{b c:Expr}{tb tc:TE}{pos:Pos}
theorem Af{Q:VK}{k k':Bool}(I:Inv X pins σ H s)(q:Q (.bl k) H)(e:k=k'):EP X pins σ Q (.bool k') s:=by
 subst e;exact⟨.bl k,H,I,rfl,q⟩
theorem op_eq:OpR X (compareOp .Eq) rEq:=by
 intro pins s σ H x y v u Q I rx ry h;obtain⟨hs,q⟩:=h
 cases x with
 |non=>
  cases rx
  cases y with
  |non=>cases ry;exact PySem.EqNone.eq_none_none (Af I q (by simp))
  |bl j=>cases ry;exact PySem.EqNone.eq_none_bool (Af I q (by simp))
  |int j=>obtain⟨t',rfl⟩:=ry;exact PySem.EqNone.eq_none_int (Af I q (by simp))
  |str j=>obtain⟨t',rfl⟩:=ry;exact PySem.EqNone.eq_none_str (Af I q (by simp))
  |_=>exact absurd (show false=true from hs) Bool.false_ne_true
 |bl i=>
  cases rx
  cases y with
  |non=>cases ry;exact PySem.EqNone.eq_bool_none (Af I q (by simp))
  |bl j=>cases ry;exact eq_bool (Af I q JH)
  |str j=>obtain⟨t',rfl⟩:=ry;exact PySem.EqMixed.eq_bool_str (Af I q (by simp))
  |_=>exact absurd (show false=true from hs) Bool.false_ne_true
 |int i=>
  obtain⟨t,rfl⟩:=rx
  cases y with
  |non=>cases ry;exact PySem.EqNone.eq_int_none (Af I q (by simp))
  |int j=>obtain⟨t',rfl⟩:=ry;exact eq_int (Af I q Fv)
  |str j=>obtain⟨t',rfl⟩:=ry;exact PySem.EqMixed.eq_int_str (Af I q (by simp))
  |_=>exact absurd (show false=true from hs) Bool.false_ne_true
 |str i=>
  obtain⟨t,rfl⟩:=rx
  cases y with
  |non=>cases ry;exact PySem.EqNone.eq_str_none (Af I q (by simp))
  |bl j=>cases ry;exact PySem.EqMixed.eq_str_bool (Af I q (by simp))
  |int j=>obtain⟨t',rfl⟩:=ry;exact PySem.EqMixed.eq_str_int (Af I q (by simp))
  |str j=>obtain⟨t',rfl⟩:=ry;exact eq_str (Af I q MS)
  |_=>exact absurd (show false=true from hs) Bool.false_ne_true
 |byt i=>
  obtain⟨t,rfl⟩:=rx
  cases y with
  |byt j=>obtain⟨t',rfl⟩:=ry;exact W.eq_bytes (Af I q MT)
  |_=>exact absurd (show false=true from hs) Bool.false_ne_true
 |_=>cases y<;>exact absurd (show false=true from hs) Bool.false_ne_true
theorem op_ne:OpR X (compareOp .NotEq) rNe:=by
 intro pins s σ H x y v u Q I rx ry h;obtain⟨hs,q⟩:=h
 cases x with
 |non=>
  cases rx
  cases y with
  |non=>cases ry;exact PySem.EqNone.ne_none_none (Af I q (by simp))
  |bl j=>cases ry;exact PySem.EqNone.ne_none_bool (Af I q (by simp))
  |int j=>obtain⟨t',rfl⟩:=ry;exact PySem.EqNone.ne_none_int (Af I q (by simp))
  |str j=>obtain⟨t',rfl⟩:=ry;exact PySem.EqNone.ne_none_str (Af I q (by simp))
  |_=>exact absurd (show false=true from hs) Bool.false_ne_true
 |bl i=>
  cases rx
  cases y with
  |non=>cases ry;exact PySem.EqNone.ne_bool_none (Af I q (by simp))
  |bl j=>cases ry;exact ne_bool (Af I q (congrArg not JH))
  |str j=>obtain⟨t',rfl⟩:=ry;exact PySem.EqMixed.ne_bool_str (Af I q (by simp))
  |_=>exact absurd (show false=true from hs) Bool.false_ne_true
 |int i=>
  obtain⟨t,rfl⟩:=rx
  cases y with
  |non=>cases ry;exact PySem.EqNone.ne_int_none (Af I q (by simp))
  |int j=>obtain⟨t',rfl⟩:=ry;exact ne_int (Af I q (congrArg not Fv))
  |str j=>obtain⟨t',rfl⟩:=ry;exact PySem.EqMixed.ne_int_str (Af I q (by simp))
  |_=>exact absurd (show false=true from hs) Bool.false_ne_true
 |str i=>
  obtain⟨t,rfl⟩:=rx
  cases y with
  |non=>cases ry;exact PySem.EqNone.ne_str_none (Af I q (by simp))
  |bl j=>cases ry;exact PySem.EqMixed.ne_str_bool (Af I q (by simp))
  |int j=>obtain⟨t',rfl⟩:=ry;exact PySem.EqMixed.ne_str_int (Af I q (by simp))
  |str j=>obtain⟨t',rfl⟩:=ry;exact ne_str (Af I q (congrArg not MS))
  |_=>exact absurd (show false=true from hs) Bool.false_ne_true
 |byt i=>
  obtain⟨t,rfl⟩:=rx
  cases y with
  |byt j=>obtain⟨t',rfl⟩:=ry;exact W.ne_bytes (Af I q (congrArg not MT))
  |_=>exact absurd (show false=true from hs) Bool.false_ne_true
 |_=>cases y<;>exact absurd (show false=true from hs) Bool.false_ne_true
theorem D5:OpR X (compareOp .Lt) (rI0 λi j=> .bl (decide (i<j))):=GO λ_ _ _ _ _ _ _ q=>lt_int q
theorem GD:OpR X (compareOp .LtE) (rI0 λi j=> .bl (decide (i<=j))):=GO λ_ _ _ _ _ _ _ q=>le_int q
theorem DT:OpR X (compareOp .Gt) (rI0 λi j=> .bl (decide (j<i))):=GO λ_ _ _ _ _ _ _ q=>gt_int q
theorem JX:OpR X (compareOp .GtE) (rI0 λi j=> .bl (decide (j<=i))):=GO λ_ _ _ _ _ _ _ q=>ge_int q
theorem Qp:OpR X (compareOp .In) (λx y H Q=>∃i j,x= .str i/\y= .str j/\Q (.bl (!(Builtin.Str.occurrences j i 0 j.length 1).isEmpty)) H):=by
 intro pins s σ H x y v u Q I rx ry h;obtain⟨i,j,rfl,rfl,q⟩:=h;obtain⟨t,rfl⟩:=rx;obtain⟨t',rfl⟩:=ry;exact in_str (Af I q rfl)
theorem PF:OpR X (compareOp .NotIn) (λx y H Q=>∃i j,x= .str i/\y= .str j/\Q (.bl (!(!(Builtin.Str.occurrences j i 0 j.length 1).isEmpty))) H):=by
 intro pins s σ H x y v u Q I rx ry h;obtain⟨i,j,rfl,rfl,q⟩:=h;obtain⟨t,rfl⟩:=rx;obtain⟨t',rfl⟩:=ry;exact notIn_str (Af I q rfl)
theorem OpR.or{r r':R2}(h:OpR X f r)(h':OpR X f r'):OpR X f (λx y H Q=>r x y H Q\/r' x y H Q):=by
 intro pins s σ H x y v u Q I rx ry q;rcases q with q|q
 ·exact h pins s σ H x y v u Q I rx ry q
 ·exact h' pins s σ H x y v u Q I rx ry q
theorem AS(b:Expr){op:CmpOp}(h:op≠ .In:=by decide)(h2:op≠ .NotIn:=by decide):behindInMarks op b=false:=by
 have e1:(op==CmpOp.In)=false:=by cases op<;>first|rfl|exact absurd rfl h
 have e2:(op==CmpOp.NotIn)=false:=by cases op<;>first|rfl|exact absurd rfl h2
 cases b<;>simp[behindInMarks,e1,e2]
theorem BG{op:CmpOp}{r:R2}(ho:OpR X (compareOp op) r)(ha:PE X a ta)(hb:PE X b tb)(hm:behindInMarks op b=false):PE X (.Compare a [op] [b] pos) (tOp r ta tb):=by
 intro pins s σ H Q I h;exact wpAny_Compare1 (Jp ha hb I h λv u s2 x y H2 I2 rx ry q=>ho pins s2 σ H2 x y v u Q I2 rx ry q) hm
def F7(t:TE):TT:=λσ H Q=>t σ H λx H'=>∃k,x= .bl k/\Q k H'
theorem AW{op:CmpOp}{r:R2}(ho:OpR X (compareOp op) r)(ha:PE X a ta)(hb:PE X b tb)(hm:behindInMarks op b=false):PT X (.Compare a [op] [b] pos) (F7 (tOp r ta tb)):=by
 intro pins s σ H Q I h;refine wpAny_isTrue_Compare1 (thn (ha pins s σ H _ I h) λv s1 ⟨x,H1,I1,r1,q1⟩=>thn (hb pins s1 σ H1 _ I1 q1) λu s2 ⟨y,H2,I2,r2,q2⟩=>
  thn (ho pins s2 σ H2 x y v u _ I2 r1 r2 q2) λc s3 ⟨z,H3,I3,r3,k,e,q3⟩=>?_) hm
 subst e
 cases r3
 exact wpAny_truthy_bool ⟨H3,I3,q3⟩
def Mg(r r':R2)(ta tb tc:TE):TE:=λσ H Q=>ta σ H λx H1=>tb σ H1 λy H2=>r x y H2 λz H3=>∃k,z= .bl k/\
 (if k=true then tc σ H3 λw' H4=>r' y w' H4 Q else Q (.bl false) H3)
theorem Hi{op op':CmpOp}{r r':R2}(ho:OpR X (compareOp op) r)(ho':OpR X (compareOp op') r')(ha:PE X a ta)(hb:PE X b tb)(hc:PE X c tc)
 (hm:lastMarks [op,op'] [b,c]=false:=by with_unfolding_all rfl):PT X (.Compare a [op,op'] [b,c] pos) (F7 (Mg r r' ta tb tc)):=by
 intro pins s σ H Q I h;refine isTrue_chain (thn (ha pins s σ H _ I h) λv s1 ⟨x,H1,I1,r1,q1⟩=>test_link (thn (hb pins s1 σ H1 _ I1 q1) λu s2 ⟨y,H2,I2,r2,q2⟩=>
  thn (ho pins s2 σ H2 x y v u _ I2 r1 r2 q2) λd s3 ⟨z,H3,I3,r3,k,e,q3⟩=>?_)) hm
 subst e
 cases r3
 refine wpAny_truthy_bool ?_
 cases k with
 |false=>
  obtain⟨k',e',q'⟩:=q3
  cases e'
  exact ite_ff ⟨H3,I3,q'⟩
 |true=>
  refine ite_tt (test_last (thn (hc pins s3 σ H3 _ I3 q3) λw' s4 ⟨z',H4,I4,r4,q4⟩=>thn (ho' pins s4 σ H4 y z' u w' _ I4 r2 r4 q4) λd' s5 ⟨z2,H5,I5,r5,k2,e2,q5⟩=>?_));subst e2
  cases r5
  exact wpAny_truthy_bool ⟨H5,I5,q5⟩
def EH(K:W.Frag)(x:V)(H:Hp)(k:Bool):Prop:=
 match x with
 | .non=>k=false
 | .bl b=>k=b
 | .int i=>k=(i !=0)
 | .str y=>y.length<=sizeLine/\k=((y.length:Int) !=0)
 | .byt y=>y.size<=sizeLine/\k=((y.size:Int) !=0)
 | .ref p=>(∃xs,SqL K H p xs/\k= !xs.isEmpty)\/(∃xs,SqT K H p xs/\k= !xs.isEmpty)\/∃kvs,H p=some (.dK kvs)/\k= !kvs.isEmpty
 |_=>False
theorem QL{kvs:List (κ×V)}{vs:List (κ×Value)}(r:KV kvs vs):(!vs.isEmpty)= !kvs.isEmpty:=by
 cases r<;>rfl
theorem KH(r:Vals xs its):(!its.toArray.isEmpty)= !xs.isEmpty:=by
 cases r<;>simp
theorem Cy:(sizeLine:Nat)<2^63:=by rw[sizeLine_eq];decide
theorem Ue:Wt X (λx H Q=>∃k,EH X.K x H k/\Q k H):=by
 intro pins s σ H x v Q I rx h;obtain⟨k,e,q⟩:=h;have hl:=Cy;have hs:sizeLine=16777216:=sizeLine_eq
 cases x with
 |non=>
  cases rx
  have e':k=false:=e;subst e';exact truthy_none ⟨H,I,q⟩
 |bl b=>
  cases rx
  have e':k=b:=e;subst e';exact wpAny_truthy_bool ⟨H,I,q⟩
 |int i=>
  obtain⟨t,rfl⟩:=rx;have e':k=(i !=0):=e;subst e';exact PySem.P.truthy_int ⟨H,I,q⟩
 |str y=>
  obtain⟨t,rfl⟩:=rx;obtain⟨hy,e'⟩:y.length<=sizeLine/\k=((y.length:Int) !=0):=e;subst e';exact PySem.P.truthy_str (by lia) ⟨H,I.tok _,q⟩
 |byt y=>
  obtain⟨t,rfl⟩:=rx;obtain⟨hy,e'⟩:y.size<=sizeLine/\k=((y.size:Int) !=0):=e;subst e';exact W.truthy_bytes (by lia) ⟨H,I.tok _,q⟩
 |ref p=>
  cases rx
  have e':(∃xs,SqL X.K H p xs/\k= !xs.isEmpty)\/(∃xs,SqT X.K H p xs/\k= !xs.isEmpty)\/∃kvs,H p=some (.dK kvs)/\k= !kvs.isEmpty:=e;rcases e' with⟨xs,hx,e'⟩|⟨xs,hx,e'⟩|⟨kvs,hx,e'⟩
  ·subst e';obtain⟨its,r,pl,hz⟩:=I.list hx;have hlen:=r.length;exact wpAny_truthy_list pl.isList (by simp only[List.size_toArray];lia) ⟨H,I.tok _,by rw[KH r];exact q⟩
  ·subst e';obtain⟨its,r,pl,hz⟩:=I.tuple hx;have hlen:=r.length;exact truthy_tuple pl (by simp only[List.size_toArray];lia) ⟨H,I.tok _,by rw[KH r];exact q⟩
  ·subst e';obtain⟨hz,hS,vs,r,m⟩:kvs.length<=sizeLine/\(p==sysModules)=false/\∃vs,KV kvs vs/\s.heap.DictOf (A5 X.prog X.w) p vs:=I.hok p _ hx;have hlen:kvs.length=vs.length:=Paired.length r;exact wpAny_truthy_dict hS m (by lia) ⟨H,I.tok _,by rw[QL r];exact q⟩
 |_=>exact(show False from e).elim
theorem Ro(ha:PE X a ta)(he:∀whole,isTrue a X.env whole=(do let v<-whole;standAt a.pos;holding [v] (truthy v))):
 PT X a (λσ H Q=>ta σ H λx H'=>∃k,EH X.K x H' k/\Q k H'):=by
 intro pins s σ H Q I h;exact isTrue_plain (thn (ha pins s σ H _ I h) λv s1 ⟨x,H1,I1,r1,q1⟩=>Ue pins s1 σ H1 x v Q I1 r1 q1) (he _)
theorem QB:OpR X (binaryOp .Add) (λx y H Q=>∃i j,x= .str i/\y= .str j/\i.length+j.length<=sizeLine/\Q (.str (i++j)) H):=by
 intro pins s σ H x y v u Q I rx ry h;obtain⟨i,j,rfl,rfl,hz,q⟩:=h;obtain⟨t,rfl⟩:=rx;obtain⟨t',rfl⟩:=ry;exact add_str (λt' tk=>⟨.str (i++j),H,I.tok _,⟨_,rfl⟩,q⟩) hz
theorem vals1(r:Vals [x] us):∃u,us=[u]/\RelV x u:=by
 cases r with
 |cons r1 r2=>cases r2;exact⟨_,rfl,r1⟩
theorem vals2(r:Vals [x,y] us):∃u w',us=[u,w']/\RelV x u/\RelV y w':=by
 cases r with
 |cons r1 r2=>
  cases r2 with
  |cons r3 r4=>cases r4;exact⟨_,_,rfl,r1,r3⟩
theorem RK:CallR X (.type "int") (λxs H Q=>(∃i,xs=[.int i]/\Q (.int i) H)\/∃k,xs=[.bl k]/\Q (.int (if k then 1 else 0)) H):=by
 intro pins s σ H xs us Q I r h;rcases h with⟨i,rfl,q⟩|⟨k,rfl,q⟩
 ·obtain⟨u,rfl,t,rfl⟩:=vals1 r;exact call_int_int ⟨.int i,H,I,⟨_,rfl⟩,q⟩
 ·obtain⟨u,rfl,r1⟩:=vals1 r
  cases r1
  exact call_int_bool ⟨.int (if k then 1 else 0),H,I.tok _,⟨_,rfl⟩,q⟩
end
structure ObjM (h:Heap) (x dx C:Addr) (mA:Str->Option Value):Prop where
 obj:h.get? x=some (W.instObj C dx)
 ns:h.Ns1 dx mA
 ne:dx≠x
theorem Q0(n:h.Ns1 dx mA):∃od,h.get? dx=some od/\∀name,W.lookIn name od=some (mA name):=by
 obtain⟨o,es,ep,ho,hd,hk,_,hm⟩:=n;refine⟨o,ho,λname=>?_⟩;have e:=hm name;unfold nsFind findBy at e;rw[<-Array.find?_toList]at e;unfold W.lookIn;rw[hd]
 dsimp only
 split
 ·rename_i y q
  rw[q]at e;exact congrArg some e
 ·rename_i q
  rw[q]at e;have a:es.toList.any (·.refKey)=false:=by
   rw[List.any_eq_false];intro y hy;obtain⟨z,t,hkey⟩:=hk y (Array.mem_toList_iff.mp hy);simp[DictEntry.refKey,hkey]
  have a':¬es.toList.any (·.refKey)=true:=by rw[a];exact Bool.false_ne_true
  rw[if_neg a'];exact congrArg some e
theorem ObjM.look{x C:Addr}(I:ObjM h x dx C mA):∃od,W.InstAt h x (W.instObj C dx) C (some od)/\∀name,W.lookIn name od=some (mA name):=
 let⟨od,ho,hl⟩:=Q0 I.ns
 ⟨od,⟨I.obj,rfl,rfl,ho⟩,hl⟩
section
variable{x C f:Addr}{v:Value}
theorem UP{Q:Value->Shared->Prop}(X:K.In s.heap)(I:ObjM s.heap x dx C mA)(hg:W.plainGet K C name=true)(hh:W.hasDictIn K C=true)
 (ha:W.findIn K (.ref C) name=some none) (hv:mA name=some v) (hv':W.handedIn v=true) (h:Q v {s with toks:=s.toks+1}):
 wpAny (model prog w) A (getAttr (.ref x) name expr) Q E s:=by
 obtain⟨od,J,hl⟩:=I.look;exact W.get_value X J (W.plainGet_of hg).1 (W.findObj_own hh ha rfl (by rw[hl,hv])) hv' h
theorem SK(X:K.In s.heap)(I:ObjM s.heap x dx C mA)(hg:W.plainGet K C name=true)
 (hf:W.findIn K (.ref C) name=some (some (.ref f))) (ht:W.isFn K (.ref f)=true) (hv:mA name=none) (h:Q (.ref f,[.ref x]) s):
 wpAny (model prog w) A (getMethod (.ref x) name pl) Q E s:=by
 obtain⟨od,J,hl⟩:=I.look;exact W.method_fn X J (W.plainGet_of hg).1 (W.plainGet_of hg).2 hf (beq_iff_eq.mp ht) (by show(W.lookIn name od).map (·.isSome)=some false;rw[hl,hv];rfl) h
theorem Sx{Q:Unit->Shared->Prop}(X:K.In s.heap)(I:ObjM s.heap x dx C mA)
 (hs:W.findIn K (.ref C) "__setattr__"=some (some (.builtin "object.__setattr__"))) (hp:W.plainOver K C=true) (ht:W.takerIn K C name=some none) (hh:W.hasDictIn K C=true)
 (hw:PySem.Within mA ns) (hsz:ns.length<=sizeLine)
 (h:∀h',ObjM h' x dx C (λy=>if y=name then some v else mA y)->Heap.SameBut dx s.heap h'->Q () {s with heap:=h',toks:=s.toks+2}):
 wpAny (model prog w) A (setAttr (.ref x) name v) Q E s:=by
 obtain⟨od,J,hl⟩:=I.look;refine W.set_plain X J hs (W.osa_open (s:={s with toks:=s.toks+1}) (r:=none) X J hp ht λb=>?_);obtain⟨cd,hc,hd'⟩:=W.any_some hh;have hx:s.heap.get? x=some ⟨.ref C,some dx, .plain,#[]⟩:=I.obj;refine wpAny_bind (wpAny_pure (wpAny_bind (wpAny_bind (wpAny_loadPart hx (wpAny_bind (W.Looks.here (s:={s with toks:=s.toks+1}) (W.looks_clsIn X hc) ?_))))));rw[hd'];refine wpAny_pure (a:=some dx) (wpAny_bind (wpAny_pure (wpAny_bind ?_)));refine wpAny_nsSet1 (s:={s with toks:=s.toks+1}) I.ns λh' hn2 hs2=>?_;obtain⟨oD,esD,epD,hoD,hdD,hcD⟩:=hn2.count (PySem.Within.cons name v hw);refine wpAny_bind (wpAny_lookBehind hoD (by rw[hdD];exact pastItsLine_dict (Nat.le_trans hcD (by rw[List.length_cons];lia))) ?_);exact wpAny_pure (h _ ⟨(hs2.2 _ (Ne.symm I.ne)).trans I.obj,hn2,I.ne⟩ hs2)
theorem R8{R:Result->Shared->Prop}{vs:List Value}(X:K.In s.heap)(hm:W.makesIn K C=true)
 (hi:W.findIn K (.ref C) "__init__"=some (some (.ref f))) (hf:W.typeIn K (.ref f)=some (.type "function"))
 (h:codeAny (model prog w) (A.under (.builtin "type.__call__" ⟨.ref C::vs,kw⟩)) (.call (.ref f) ⟨.ref (s.heap.objs.size+1)::vs,kw⟩) (W.InitBack (s.heap.objs.size+1) R)
   {s with heap:=(s.heap.push W.emptyDict).push (W.instObj C s.heap.objs.size)}):
 codeAny (model prog w) A (.call (.ref C) ⟨vs,kw⟩) R s:=by
 obtain⟨hh,g,d,t,os⟩:=s;exact W.make_core (W.makes_of X hm) (W.looks_findIn X hi) (λself=>W.bind_fn X self hf) (.inl rfl) h
end
def Ai(f:Str)(v:V):List (Str×V)->List (Str×V)
 |[]=>[(f,v)]
 |(g,x)::r=>if g=f then(g,v)::r else(g,x)::Ai f v r
theorem J3(f g:Str)(v:V):∀fs:List (Str×V),(Ai f v fs).lookup g=if g=f then some v else fs.lookup g
 |[]=>by
  show List.lookup g [(f,v)]=_
  by_cases h:g=f
  ·have hb:(g==f)=true:=beq_iff_eq.mpr h;simp only[List.lookup,hb,if_pos h]
  ·have hb:(g==f)=false:=beq_eq_false_iff_ne.mpr h;simp only[List.lookup,hb,if_neg h]
 |(k,x)::r=>by
  have ih:=J3 f g v r;rw[show Ai f v ((k,x)::r)=(if k=f then(k,v)::r else(k,x)::Ai f v r)from rfl]
  by_cases hk:k=f
  ·rw[if_pos hk]
   by_cases h:g=k
   ·have hb:(g==k)=true:=beq_iff_eq.mpr h;simp only[List.lookup,hb,if_pos (h.trans hk)]
   ·have hb:(g==k)=false:=beq_eq_false_iff_ne.mpr h;simp only[List.lookup,hb,if_neg (λe:g=f=>h (e.trans hk.symm))]
  ·rw[if_neg hk]
   by_cases h:g=k
   ·have hb:(g==k)=true:=beq_iff_eq.mpr h;simp only[List.lookup,hb,if_neg (λe:g=f=>hk (h.symm.trans e))]
   ·have hb:(g==k)=false:=beq_eq_false_iff_ne.mpr h;simp only[List.lookup,hb];exact ih
theorem HM(f:Str)(v:V):∀fs:List (Str×V),f∈(Ai f v fs).map (·.1)/\∀g,g∈fs.map (·.1)->g∈(Ai f v fs).map (·.1)
 |[]=>⟨by simp[Ai],λg h=>by simp at h⟩
 |(k,x)::r=>by
  obtain⟨i1,i2⟩:=HM f v r;rw[show Ai f v ((k,x)::r)=(if k=f then(k,v)::r else(k,x)::Ai f v r)from rfl]
  by_cases hk:k=f
  ·rw[if_pos hk];subst hk;exact⟨by simp,λg h=>by simpa using h⟩
  ·rw[if_neg hk];refine⟨?_,λg h=>?_⟩
   ·rw[List.map_cons];exact List.mem_cons_of_mem _ i1
   ·rw[List.map_cons]at h⊢;rcases List.mem_cons.mp h with e|e
    ·exact List.mem_cons.mpr (.inl e)
    ·exact List.mem_cons_of_mem _ (i2 g e)
theorem J4(f:Str)(v:V):∀fs:List (Str×V),(Ai f v fs).length<=fs.length+1
 |[]=>by simp[Ai]
 |(k,x)::r=>by
  have ih:=J4 f v r;rw[show Ai f v ((k,x)::r)=(if k=f then(k,v)::r else(k,x)::Ai f v r)from rfl]
  by_cases hk:k=f
  ·rw[if_pos hk,List.length_cons,List.length_cons];lia
  ·rw[if_neg hk,List.length_cons,List.length_cons];lia
theorem RelO.some_of(r:RelO (some v) o):∃u,o=some u/\RelV v u:=by
 cases o with
 |none=>exact(show False from r).elim
 |some u=>exact⟨u,rfl,r⟩
theorem RelO.none_of(r:RelO none o):o=none:=by
 cases o with
 |none=>rfl
 |some u=>exact(show False from r).elim
theorem RA{u:Value}(r:RelV v u):W.handedIn u=true:=by
 cases v with
 |non=>cases(show u=Value.none from r);rfl
 |bl b=>cases(show u=Value.bool b from r);rfl
 |int i=>obtain⟨t,e⟩:=(show∃t,u=Value.int i t from r);cases e;rfl
 |str x=>obtain⟨t,e⟩:=(show∃t,u=Value.str x t from r);cases e;rfl
 |byt b=>obtain⟨t,e⟩:=(show∃t,u=Value.bytes b t from r);cases e;rfl
 |flt b=>obtain⟨t,e⟩:=(show∃t,u=Value.float b t from r);cases e;rfl
 |ref a=>cases(show u=Value.ref a from r);rfl
 |ty n=>cases(show u=Value.type n from r);rfl
section
variable{a C:Addr}{fs fs':List (Str×V)}
theorem Fo(hok:HOk P w H h)(e:H a=some (.ins C dx fs)):∃mA,ObjM h a dx C mA/\(∀f,RelO (fs.lookup f) (mA f))/\PySem.Within mA (fs.map (·.1))/\fs.length<=1000/\H dx=some (.own a):=by
 obtain⟨d,z,ne,ob,mA,n,r,q⟩:=(show ObjOk P w H h a (.ins C dx fs)from hok a _ e);exact⟨mA,⟨ob,n,ne⟩,r,q,z,d⟩
end
structure Cls (K:W.Frag) (C:Addr):Prop where
 pg:W.plainGet K C Str.empty=true
 hd:W.hasDictIn K C=true
 po:W.plainOver K C=true
 sa:W.findIn K (.ref C) "__setattr__"=some (some (.builtin "object.__setattr__"))
theorem Cls.get{C:Addr}(c:Cls K C)(f:Str):W.plainGet K C f=true:=c.pg
def NoAttr(K:W.Frag)(C:Addr)(f:Str):Prop:=W.findIn K (.ref C) f=some none
theorem NoAttr.taker{C:Addr}{f:Str}(n:NoAttr K C f):W.takerIn K C f=some none:=by
 unfold W.takerIn;rw[show W.findIn K (.ref C) f=some none from n]
 rfl
structure Meth (K:W.Frag) (C:Addr) (m:Str) (f:Addr):Prop where
 at_:W.findIn K (.ref C) m=some (some (.ref f))
 fn:W.isFn K (.ref f)=true
 kp:W.keepIn K (.ref f)=true
section
variable{a C:Addr}{fs:List (Str×V)}{f:Str}
theorem KL{Q:Value->Shared->Prop}(I:Inv X pins σ H s)(e:H a=some (.ins C dx fs))(c:Cls X.K C)(n:NoAttr X.K C f)(l:fs.lookup f=some v)
 (h:∀u s',Inv X pins σ H s'->RelV v u->Q u s'):wpAny (model X.prog X.w) A (getAttr (.ref a) f b) Q E s:=by
 obtain⟨mA,O,r,_,_,_⟩:=Fo I.hok e;obtain⟨u,hu,ru⟩:=RelO.some_of (v:=v) (o:=mA f) (by rw[<-l];exact r f);exact UP I.kIn O (c.get f) c.hd n hu (RA ru) (h u _ (I.tok _) ru)
theorem KJ{m:Str}{g:Addr}(I:Inv X pins σ H s)(e:H a=some (.ins C dx fs))(c:Cls X.K C)(k:Meth X.K C m g)(l:fs.lookup m=none)
 (h:Q (.ref g,[.ref a]) s):wpAny (model X.prog X.w) A (getMethod (.ref a) m pl) Q E s:=by
 obtain⟨mA,O,r,_,_,_⟩:=Fo I.hok e;have hn:mA m=none:=RelO.none_of (by rw[<-l];exact r m);exact SK I.kIn O (c.get m) k.at_ k.fn hn h
theorem KB{u:Value}{Q:Unit->Shared->Prop}(I:Inv X pins σ H s)(e:H a=some (.ins C dx fs))(c:Cls X.K C)(n:NoAttr X.K C f)(hl:fs.length<1000)(ry:RelV y u)
 (h:∀s',Inv X pins σ (upd H a (.ins C dx (Ai f y fs))) s'->Q () s'):wpAny (model X.prog X.w) A (setAttr (.ref a) f u) Q E s:=by
 obtain⟨mA,O,r,wi,_,ho⟩:=Fo I.hok e;have hz:(fs.map (·.1)).length<=sizeLine:=by rw[List.length_map,sizeLine_eq];lia
 refine Sx I.kIn O c.sa c.po n.taker c.hd wi hz λh' O' sb=>h _ ?_;have hd:∃o,h'.get? dx=some o:=let⟨o,_,_,e',_⟩:=O'.ns;⟨o,e'⟩;refine I.write (x:=a) (e:=dx) (by rw[e];exact True.intro) (.inr ho) (λb q hb z=>(sb.2 b hb).trans z) hd ?_;refine⟨by rw[AE O.ne];exact ho,?_,O.ne,O'.obj,_,O'.ns,λg=>?_,λg hg=>?_⟩
 ·have:=J4 f y fs;lia
 ·show RelO ((Ai f y fs).lookup g) (if g=f then some u else mA g);rw[J3]
  by_cases q:g=f
  ·rw[if_pos q,if_pos q];exact ry
  ·rw[if_neg q,if_neg q];exact r g
 ·by_cases q:g=f
  ·rw[q];exact(HM f y fs).1
  ·refine(HM f y fs).2 g (wi g λz=>hg ?_);show(if g=f then some u else mA g)=none;rw[if_neg q];exact z
theorem Inv.made(I:Inv X pins σ H s):Inv X pins σ (upd (upd H s.heap.objs.size (.own (s.heap.objs.size+1))) (s.heap.objs.size+1) (.ins C s.heap.objs.size []))
 {s with heap:=(s.heap.push W.emptyDict).push (W.instObj C s.heap.objs.size)}:=by
 have e1:(s.heap.push W.emptyDict).get? s.heap.objs.size=some W.emptyDict:=Heap.get?_push_size s.heap rfl;have e2:((s.heap.push W.emptyDict).push (W.instObj C s.heap.objs.size)).get? (s.heap.objs.size+1)=some (W.instObj C s.heap.objs.size):=by
  have:=Heap.get?_push_size (s.heap.push W.emptyDict) (o:=W.instObj C s.heap.objs.size) rfl;rwa[Heap.size_push]at this
 have e3:(s.heap.push W.emptyDict).Ns s.heap.objs.size (λ_=>none):=⟨W.emptyDict,#[],_,e1,rfl,(λe he=>absurd he (by simp)),λ_=>rfl⟩;have I1:=I.laid (a:=s.heap.objs.size) (o:= .own (s.heap.objs.size+1)) (h':=s.heap.push W.emptyDict) (t':=s.toks) (λb u q=>Heap.get?_push_of_some _ q) (Nat.le_refl _) ⟨_,e1⟩;refine I1.laid (a:=s.heap.objs.size+1) (o:= .ins C s.heap.objs.size []) (t':=s.toks) (λb u q=>Heap.get?_push_of_some _ q) (Nat.le_of_eq (Heap.size_push _ _)) ?_;have ne:s.heap.objs.size≠s.heap.objs.size+1:=Nat.ne_of_lt (Nat.lt_succ_self _);refine⟨by rw[AE ne,AJ],Nat.zero_le _,ne,e2,λ_=>none,(Heap.Ns1.of_empty e3).at λo q=>Heap.get?_push_of_some _ q,λ_=>True.intro,λy hy=>absurd rfl hy⟩
theorem UZ{pos:Pos}{Q:Value->Shared->Prop}(hb:attributeBase e f env (eval e env)=eval e env)
 (h:wpAny (model prog w) A (eval e env) (λo s₁=>wpAny (model prog w) A (getAttr o f true) Q E s₁) E s):wpAny (model prog w) A (eval (.Attribute e f pos) env) Q E s:=
 Attribute_any_ h (by rw[arm_eval_Attribute,hb])
end
def Jj(K:W.Frag)(ta:TE)(f:Str):TE:=λσ H Q=>ta σ H λx H1=>∃a C dx fs v,x= .ref a/\H1 a=some (.ins C dx fs)/\Cls K C/\NoAttr K C f/\fs.lookup f=some v/\Q v H1
def Jk(K:W.Frag)(ta tv:TE)(f:Str):TS:=λD σ H=>tv σ H λy H1=>ta σ H1 λx H2=>∃a C dx fs,x= .ref a/\H2 a=some (.ins C dx fs)/\Cls K C/\NoAttr K C f/\fs.length<1000/\
 D.nx σ (upd H2 a (.ins C dx (Ai f y fs)))
def GT(X:Cx)(op:Operator)(rd:V->V->Hp->VK->Prop):Prop:=
 ∀ (pins:List (Addr×Obj)) (s:Shared) (σ:W2) (H:Hp) (x y:V) (u v:Value) (Q:VK),Inv X pins σ H s->RelV x u->RelV y v->rd x y H Q->wpAny (model X.prog X.w) X.A (inplaceOp op u v) (EP X pins σ Q) X.xe s
def IN(K:W.Frag)(ta tv:TE)(rd:V->V->Hp->VK->Prop)(f:Str):TS:=λD σ H=>ta σ H λx H1=>∃a C dx fs v,x= .ref a/\H1 a=some (.ins C dx fs)/\Cls K C/\NoAttr K C f/\fs.lookup f=some v/\
 tv σ H1 λy H2=>rd v y H2 λz H3=>∃dx' fs',H3 a=some (.ins C dx' fs')/\fs'.length<1000/\D.nx σ (upd H3 a (.ins C dx' (Ai f z fs')))
section
variable{o:Expr}{f:Str}{pos:Pos}
theorem VQ(he:PE X e ta)(hb:attributeBase e f X.env (eval e X.env)=eval e X.env):PE X (.Attribute e f pos) (Jj X.K ta f):=by
 intro pins s σ H Q I h;refine UZ hb (thn (he pins s σ H _ I h) λu s1 ⟨x,H1,I1,rx,a,C,dx,fs,v,ex,ea,c,n,l,q⟩=>?_);subst ex;obtain rfl:u=Value.ref a:=rx;exact KL I1 ea c n l λu' s2 I2 ru=>⟨v,H1,I2,ru,q⟩
theorem VE(ha:PE X o ta)(hv:PE X value tv)(hs:swapsWith value (some (.Attribute o f pos')) pos.line X.env=pure false):PS X (.Assign [.Attribute o f pos'] value pos) (Jk X.K ta tv f):=by
 intro pins s σ H D I h;refine plainObj_wpAny_Assign_Attribute (thn (hv pins s σ H _ I h) λu s1 ⟨y,H1,I1,ry,q⟩=>thn (ha pins s1 σ H1 _ I1 q) λov s2 ⟨x,H2,I2,rx,a,C,dx,fs,ex,ea,c,n,l,q2⟩=>?_) hs;subst ex;obtain rfl:ov=Value.ref a:=rx;exact KB I2 ea c n l ry λs3 I3=>⟨σ,_,I3,q2⟩
theorem Qg{op:Operator}(ha:PE X o ta)(hv:PE X value tv)(hop:GT X op rd):PS X (.AugAssign (.Attribute o f tpos) op value pos) (IN X.K ta tv rd f):=by
 intro pins s σ H D I h;refine wpAny_AugAssign_AttributeAny (thn (ha pins s σ H _ I h) λov s1 ⟨x,H1,I1,rx,a,C,dx,fs,v,ex,ea,c,n,l,q⟩=>?_);subst ex;obtain rfl:ov=Value.ref a:=rx;refine KL I1 ea c n l λu s2 I2 ru=>thn (hv pins s2 σ H1 _ I2 q) λw3 s3 ⟨y,H2,I3,ry,q3⟩=>thn (hop pins s3 σ H2 v y u w3 _ I3 ru ry q3) λw4 s4 ⟨z,H3,I4,rz,dx',fs',ea',l',q4⟩=>?_;exact KB I4 ea' c n l' rz λs5 I5=>⟨σ,_,I5,q4⟩
def rAdd:V->V->Hp->VK->Prop:=λx y H Q=>∃i j,x= .int i/\y= .int j/\Q (.int (i+j)) H
theorem Vj:GT X .Add rAdd:=by
 rintro pins s σ H x y u v Q I rx ry ⟨i,j,rfl,rfl,q⟩;obtain⟨t,rfl⟩:=(show∃t,u=Value.int i t from rx);obtain⟨t',rfl⟩:=(show∃t',v=Value.int j t' from ry);exact PyProof.Rows.iadd_int ⟨.int (i+j),H,I.tok _,⟨_,rfl⟩,q⟩
end
section
variable{Q:Value->Shared->Prop}{c:Value}
inductive TyOf (K:W.Frag) (H:Hp):V->Value->Prop where
 |non:TyOf K H .non (.type "NoneType")
 |bl (x:Bool):TyOf K H (.bl x) (.type "bool")
 |int (i:Int):TyOf K H (.int i) (.type "int")
 |str (x:Str):TyOf K H (.str x) (.type "str")
 |flt (x:UInt64):TyOf K H (.flt x) (.type "float")
 |lst {a:Addr} {xs:List V} (e:H a=some (.lst xs)):TyOf K H (.ref a) (.type "list")
 |frz {a:Addr} {o:Obj} {xs:List V} (e:H a=some (.frz o (.lst xs))):TyOf K H (.ref a) (.type "list")
 |tup {a:Addr} {xs:List V} (e:H a=some (.tup xs)):TyOf K H (.ref a) (.type "tuple")
 |dK {a:Addr} {kvs:List (Key×V)} (e:H a=some (.dK kvs)):TyOf K H (.ref a) (.type "dict")
 |dT {a:Addr} {kvs:List (List Key×V)} (e:H a=some (.dT kvs)):TyOf K H (.ref a) (.type "dict")
 |ins {a C dx:Addr} {fs:List (Str×V)} (e:H a=some (.ins C dx fs)) (cl:Cls K C) (ha:W.findIn K (.ref C) "__class__"=some (some (.builtin "object.__class__")))
   (hn:W.specialIn K (.builtin "object.__class__") "__get__"=some (some (.builtin "getset_descriptor.__get__"))) (htk:W.takesIn K (.builtin "object.__class__")=some true)
   (hm:W.mroIn K C (.type "object")=some true):TyOf K H (.ref a) (.ref C)
theorem Q6{u t:Value}(I:Inv X pins σ H s)(rx:RelV x u)(ty:TyOf X.K H x t)(e:W.kitOne X.K t c=some b)(h:∀tk,Q (.bool b) {s with toks:=tk}):
 wpAny (model X.prog X.w) A (call (.builtin "isinstance") [u,c]) Q E s:=by
 cases ty with
 |non=>cases(show u=Value.none from rx);exact W.kia_one W.kitx_none I.kIn True.intro e (λz=>nomatch z) h
 |bl y=>cases(show u=Value.bool y from rx);exact W.kia_one W.kitx_bool I.kIn True.intro e (λz=>nomatch z) h
 |int i=>obtain⟨t,q⟩:=(show∃t,u=Value.int i t from rx);cases q;exact W.kia_one W.kitx_int I.kIn True.intro e (λz=>nomatch z) h
 |str y=>obtain⟨t,q⟩:=(show∃t,u=Value.str y t from rx);cases q;exact W.kia_one W.kitx_str I.kIn True.intro e (λz=>nomatch z) h
 |flt y=>obtain⟨t,q⟩:=(show∃t,u=Value.float y t from rx);cases q;exact W.kia_one W.kitx_float I.kIn True.intro e (λz=>nomatch z) h
 | @lst a xs ea=>
   cases(show u=Value.ref a from rx)
   obtain⟨_,_,n,_,h1⟩:=(show ObjOk X.prog X.w H s.heap a (.lst xs)from I.hok a _ ea);exact W.kia_one W.kitx_list I.kIn ⟨_,h1,rfl⟩ e (λz=>nomatch z) h
 | @frz a ob xs ea=>
   cases(show u=Value.ref a from rx)
   obtain⟨_,_,_,n,_,h1⟩:=(show ObjOk X.prog X.w H s.heap a (.frz ob (.lst xs))from I.hok a _ ea);exact W.kia_one W.kitx_list I.kIn ⟨_,h1,rfl⟩ e (λz=>nomatch z) h
 | @tup a xs ea=>
   cases(show u=Value.ref a from rx)
   obtain⟨_,_,_,p⟩:=(show ObjOk X.prog X.w H s.heap a (.tup xs)from I.hok a _ ea);obtain⟨o,h1,h2,_⟩:=p;exact W.kia_one W.kitx_tuple I.kIn ⟨o,h1,h2⟩ e (λz=>nomatch z) h
 | @dK a kvs ea=>
   cases(show u=Value.ref a from rx)
   obtain⟨_,_,vs,_,p⟩:=(show ObjOk X.prog X.w H s.heap a (.dK kvs)from I.hok a _ ea);obtain⟨o,es,ep,h1,h2,_⟩:=p;exact W.kia_one W.kitx_dict I.kIn ⟨o,h1,h2.1⟩ e (λz=>nomatch z) h
 | @dT a kvs ea=>
   cases(show u=Value.ref a from rx)
   obtain⟨_,_,xs,_,o,es,ep,h1,h2,_⟩:=(show ObjOk X.prog X.w H s.heap a (.dT kvs)from I.hok a _ ea);exact W.kia_one W.kitx_dict I.kIn ⟨o,h1,h2.1⟩ e (λz=>nomatch z) h
 | @ins a C dx fs ea cl ha hn htk hm=>
   cases(show u=Value.ref a from rx)
   obtain⟨mA,O,_⟩:=Fo I.hok ea;obtain⟨od,J,_⟩:=O.look;exact W.kia_one (W.kitx_own (cl.get _) cl.hd ha hn htk hm) I.kIn J e (λz=>nomatch z) h
end
structure Room (k:Nat) (A:Around):Prop where
 hd:A.handled=none
 dp:A.depth+3*k+5<recursionLimit
 un:A.units+16*k+200<cLine
 gd:A.guards=some []
theorem Room.mono{k:Nat}(r:Room k A)(h:j<=k):Room j A:=⟨r.hd,by have:=r.dp;lia,by have:=r.un;lia,by first|exact r.gd|simpa[Around.deeper,Around.under,Code.guards,Code.isGuard,guardIds,pushGuards]using r.gd⟩
theorem Room.deeper{k:Nat}(r:Room (k+1) A)(env:Env):Room k (A.deeper env):=
 ⟨r.hd,by have:=r.dp;show A.depth+1+3*k+5<_;lia,by have:=r.un;show A.units+3+16*k+200<_;lia,by first|exact r.gd|simpa[Around.deeper,Around.under,Code.guards,Code.isGuard,guardIds,pushGuards]using r.gd⟩
theorem QK{C:Addr}:(A.under (.builtin "type.__call__" ⟨.ref C::us,kw⟩)).depth=A.depth+1:=by
 first|rfl|simp[Around.under,Code.weight,Code.isCreation,Code.isGuard,Code.isCaller,Code.frames,Code.isFrame,guardIds]
theorem QJ{C:Addr}:(A.under (.builtin "type.__call__" ⟨.ref C::us,kw⟩)).units=A.units+1:=by
 first|rfl|simp[Around.under,Code.cUnits,Code.frames,Code.isFrame]
theorem Room.make{k:Nat}(r:Room (k+1) A)(C:Addr)(us:List Value)(kw:List (Str×Value)):Room k (A.under (.builtin "type.__call__" ⟨.ref C::us,kw⟩)):=
 ⟨r.hd,by have:=r.dp;rw[QK];lia,by have:=r.un;rw[QJ];lia,by first|exact r.gd|simpa[Around.deeper,Around.under,Code.guards,Code.isGuard,guardIds,pushGuards]using r.gd⟩
theorem Room.depth{k:Nat}(r:Room k A):A.depth<recursionLimit:=by have:=r.dp;lia
theorem Room.units0{k:Nat}(r:Room k A):A.units<cLine:=by have:=r.un;lia
def tNil:TA:=λ_ H Q=>Q [] H
def Ag(ta:TE)(tr:TA):TA:=λσ H Q=>ta σ H λx H1=>tr σ H1 λxs H2=>Q (x::xs) H2
section
variable{t:TA}{pos:Pos}
theorem AB:PA X [] tNil:=λ_ _ _ _ H Q I h=>Calls.spliced_nil ⟨[],H,I, .nil,h⟩
theorem AA(ha:PE X e te)(hr:PA X es t)(hs:starEach (e::es) X.env=(false,eval e X.env)::starEach es X.env:=by rfl):PA X (e::es) (Ag te t):=by
 intro pos pins s σ H Q I h;rw[hs];show wpAny _ _ (spliced ((false,eval e X.env)::backTo pos (starEach es X.env))) _ _ s;refine Calls.spliced_cons (thn (ha pins s σ H _ I h) λu s1 ⟨x,H1,I1,r1,q1⟩=>?_);exact thn (hr pos pins s1 σ H1 _ I1 q1) λus s2 ⟨xs,H2,I2,r2,q2⟩=>⟨x::xs,H2,I2, .cons r1 r2,q2⟩
def Ng(t:TA):TE:=λσ H Q=>t σ H λxs H1=>xs.length<=sizeLine/\∀p,H1 p=none->Q (.ref p) (upd H1 p (.tup xs))
def E6(t:TA):TE:=λσ H Q=>t σ H λxs H1=>xs.length<=sizeLine/\∀p,H1 p=none->Q (.ref p) (upd H1 p (.lst xs))
theorem BW{x1}(h:PA X es t):PE X (.Tuple es x1 pos) (Ng t):=by
 intro pins s σ H Q I hq;refine wpAny_Tuple_spliced (thn (h pos pins s σ H _ I hq) λus s1 ⟨xs,H1,I1,r,z,q⟩=>⟨by rw[<-r.length];exact z,?_⟩);have hf:H1 s1.heap.objs.size=none:=I1.hok.fresh (Nat.le_refl _);refine⟨.ref s1.heap.objs.size,upd H1 s1.heap.objs.size (.tup xs),I1.laid (t':=s1.toks) (λb u e=>Heap.get?_push_of_some _ e) (Nat.le_refl _) ?_,rfl,q _ hf⟩;exact⟨z,us,r,⟨_,Heap.get?_push_size _ rfl,rfl,_,rfl⟩⟩
theorem Am(h:PA X es t):PE X (.List es pos) (E6 t):=by
 intro pins s σ H Q I hq;refine wpAny_List_spliced (thn (h pos pins s σ H _ I hq) λus s1 ⟨xs,H1,I1,r,z,q⟩=>⟨by rw[<-r.length];exact z,?_⟩);have hf:H1 s1.heap.objs.size=none:=I1.hok.fresh (Nat.le_refl _);refine⟨.ref s1.heap.objs.size,upd H1 s1.heap.objs.size (.lst xs),I1.laid (t':=s1.toks) (λb u e=>Heap.get?_push_of_some _ e) (Nat.le_refl _) ?_,rfl,q _ hf⟩;exact⟨z,us,0,r,Heap.get?_push_size _ rfl⟩
end
abbrev Sp:=List V->Hp->VK->XK->Prop
abbrev CXT:=List Env->Hp->Shared->XK->Value->Shared->Prop
end L2
variable{CX:CXT}
namespace L2
variable{f:Addr}{es:List Expr}{ps:List Str}{vs:List V}{r:List V->Hp->VK->Prop}{P:Program}{sp:Sp}{t:TA}{Q:VK}{σ:W2}{E:XK}
structure Env0 (P:Program) (w:World) (K:W.Frag) (mg:Str->Option Value) (base:Heap) (A:Around) (outer:List Env) (s:Shared) (H:Hp):Prop where
 frames:A.frames=some outer
 mod:Mod K mg base
 bs:∀b o,base.get? b=some o->s.heap.get? b=some o/\H b=none
 bsz:base.objs.size<=s.heap.objs.size
 funs:s.heap.FunFrames base outer
 frf:∀b∈frs outer,H b=none
 hok:HOk P w H s.heap
 bare:AllBare s.gens
def CE(outer:List Env)(P:Program)(w:World)(H:Hp)(s:Shared)(Q:VK)(u:Value)(s':Shared):Prop:=
 ∃v H',s'.os=s.os/\AllBare s'.gens/\Un (frs outer) [] H H' s.heap s'.heap/\HOk P w H' s'.heap/\RelV v u/\Q v H'
def CR(CX:CXT)(outer:List Env)(P:Program)(w:World)(H:Hp)(s:Shared)(Q:VK)(E:XK)(r:Result)(s':Shared):Prop:=
 match r with
 | .ok (.ret u)=>CE outer P w H s Q u s'
 | .ok _=>False
 | .error e=>CX outer H s E e s'
structure FnOk (P:Program) (w:World) (K:W.Frag) (mg:Str->Option Value) (base:Heap) (CX:CXT) (k:Nat) (f:Addr) (fd:FuncData) (ps:List Str) (sp:Sp):Prop where
 len:∀vs H Q E,sp vs H Q E->vs.length=ps.length
 run:∀ (A:Around) (outer:List Env) (s:Shared) (H:Hp) (args:Args) (us:List Value) (vs:List V) (Q:VK) (E:XK),Room k A->Env0 P w K mg base A outer s H->BindsTo s fd args (ps.zip us)->Vals vs us->sp vs H Q E->
  codeAny (model P w) A (.call (.ref f) args) (CR CX outer P w H s Q E) s
theorem FnOk.mono{k:Nat}(F:FnOk P w K mg base CX j f fd ps sp)(h:j<=k):
 FnOk P w K mg base CX k f fd ps sp:=⟨F.len,λA outer s H args us vs Q E hr=>F.run A outer s H args us vs Q E (hr.mono h)⟩
theorem Env0.make(e:Env0 P w K mg base A outer s H)(C:Addr)(us:List Value)(kw:List (Str×Value)):
 Env0 P w K mg base (A.under (.builtin "type.__call__" ⟨.ref C::us,kw⟩)) outer s H:=⟨by first|exact e.frames|(simpa[Around.under,Code.envs,Code.isFrame,pushEnvs]using e.frames),e.mod,e.bs,e.bsz,e.funs,e.frf,e.hok,e.bare⟩
theorem Inv.env0(I:Inv X pins σ H s):Env0 X.prog X.w X.K X.mg X.base X.A X.stack s H:=
 ⟨I.ok.frames,I.ok.mod,I.bs,Nat.le_trans I.ok.bsz I.sz,I.stack,I.stkFree,I.hok,I.bare⟩
theorem Inv.after{u:Value}(I:Inv X pins σ H s)(h:CE X.stack X.prog X.w H s Q u s'):EP X pins σ Q u s':=by
 obtain⟨v,H',os,bare,un,hok,r,q⟩:=h;obtain⟨hh,g,d,t,os'⟩:=s';obtain rfl:os'=s.os:=os;exact⟨v,H',I.call (h':=hh) (g':=g) (d':=d) (t':=t) (ch:=[]) un hok bare (λb z=>absurd z (by simp)),r,q⟩
def CM(sp:Sp)(dvs:List V)(E:XK)(t:TA):TE:=λσ H Q=>t σ H λvs H1=>sp (vs++dvs) H1 Q E
def Ey(C:Addr)(m:Str)(sp:Sp)(dvs:List V)(E:XK)(ta:TE)(t:TA):TE:=λσ H Q=>ta σ H λx H1=>∃a dx fs,x= .ref a/\H1 a=some (.ins C dx fs)/\fs.lookup m=none/\
 t σ H1 λvs H2=>sp (x::(vs++dvs)) H2 Q E
def JN(C:Addr)(sp:Sp)(dvs:List V)(E:XK)(t:TA):TE:=λσ H Q=>t σ H λvs H1=>∀x dx,H1 x=none->H1 dx=none->dx≠x->
 sp (.ref x::(vs++dvs)) (upd (upd H1 dx (.own x)) x (.ins C dx [])) (λv H2=>v= .non/\Q (.ref x) H2) E
def Binds(K:W.Frag)(fd:FuncData)(ps:List Str)(ds:List Value):Prop:=
 ∀ (s:Shared) (us:List Value),K.In s.heap->(us++ds).length=ps.length->BindsTo s fd ⟨us,[]⟩ (ps.zip (us++ds))
theorem Binds.all(h:∀us:List Value,us.length=ps.length->bindArgs fd ⟨us,[]⟩=pure (ps.zip us)):Binds K fd ps []:=λs us _ hl=>by
 rw[List.append_nil]at hl⊢;exact .of_eq (h us hl)
def DR(CX:CXT)(X:Cx)(E:XK):Prop:=∀ (pins:List (Addr×Obj)) (σ:W2) (H:Hp) (s:Shared) (e:Value) (s':Shared),Inv X pins σ H s->CX X.stack H s E e s'->X.xe e s'
section
variable{k:Nat}{m:Str}{p pos:Pos}{o:Expr}
theorem JA(F:FnOk X.prog X.w X.K X.mg X.base CX k f fd ps sp)(hr:Room k X.A)(hb:Binds X.K fd ps ds)(hd:Vals dvs ds)(hx:DR CX X E)
 (I:Inv X pins σ H s) (r:Vals vs us) (h:sp (vs++dvs) H Q E):wpAny (model X.prog X.w) X.A (call (.ref f) us) (EP X pins σ Q) X.xe s:=by
 have r2:Vals (vs++dvs) (us++ds):=r.append hd;have hl:(us++ds).length=ps.length:=by rw[<-r2.length];exact F.len _ _ _ _ h
 refine wpAny_call (codeAny_mono (F.run X.A X.stack s H ⟨us,[]⟩ (us++ds) (vs++dvs) Q E hr I.env0 (hb s us I.kIn hl) r2 h) λr s' hq=>?_)
 cases r with
 |error e=>exact hx pins σ H s e s' I hq
 |ok fl=>
  cases fl with
  |ret u=>exact I.after hq
  |next=>exact False.elim hq
  |brk=>exact False.elim hq
  |cont=>exact False.elim hq
theorem Tp(F:FnOk X.prog X.w X.K X.mg X.base CX k f fd ps sp)(hr:Room k X.A)(hg:Gl X x)(hm:X.mg x=some (.ref f))(hk:W.keepIn X.K (.ref f)=true)(hb:Binds X.K fd ps ds)(hd:Vals dvs ds)(hx:DR CX X E)
 (ha:PA X (e::es) t) (hdb:(x==("__debug__":Str))=false:=by decide) (he:starEach (e::es) X.env=(false,eval e X.env)::starEach es X.env:=by rfl) (hpl:(backTo pos (starEach es X.env)).any (·.1)=false:=by rfl):
 PE X (.Call (.Name x p) (e::es) [] pos) (CM sp dvs E t):=by
 intro pins s σ H Q I h;refine wpAny_Call_Name_kw (Dl I hg hm ?_ hdb);refine W.callWith_K (h₀:=X.base) I.ok.mod.kin hk (thn (ha pos pins s σ H _ I h) λus s1 ⟨vs,H1,I1,r,q⟩=>⟨I1.kIn,?_⟩) he hpl;exact JA F hr hb hd hx I1 r q
theorem Tj(he:PE X o ta)(c:Cls X.K C)(hm:Meth X.K C m f)(F:FnOk X.prog X.w X.K X.mg X.base CX k f fd ps sp)(hr:Room k X.A)(hb:Binds X.K fd ps ds)(hd:Vals dvs ds)(hx:DR CX X E)(ha:PA X (e::es) t)
 (hst:starEach (e::es) X.env=(false,eval e X.env)::starEach es X.env:=by rfl) (hpl:(backTo pos (starEach es X.env)).any (·.1)=false:=by rfl)
 (ht:eval (.Call (.Attribute o m apos) (e::es) [] pos) X.env=(do
   let ov<-eval o X.env
   standAt apos.atName
   let(f,first)<-holding [ov] (getMethod ov m pl)
   callWith pos f first (backTo pos (starEach (e::es) X.env)) (backToKw pos (keywordEach [] X.env))):=by rfl):
 PE X (.Call (.Attribute o m apos) (e::es) [] pos) (Ey C m sp dvs E ta t):=by
 intro pins s σ H Q I h;refine W.methodCall_KW (pl:=pl) (thn (he pins s σ H _ I h) λu s1 ⟨x,H1,I1,rx,a,dx,fs,ex,ea,l,q⟩=>?_) ht;subst ex;obtain rfl:u=Value.ref a:=rx;refine KJ I1 ea c hm l ?_;refine W.callWith_K (first:=[.ref a]) (h₀:=X.base) I.ok.mod.kin hm.kp (thn (ha pos pins s1 σ H1 _ I1 q) λus s2 ⟨vs,H2,I2,r,q2⟩=>⟨I2.kIn,?_⟩) hst hpl;exact JA (us:= .ref a::us) (vs:= .ref a::vs) F hr hb hd hx I2 (.cons rfl r) q2
theorem Rv(he:PE X o ta)(c:Cls X.K C)(hm:Meth X.K C m f)(F:FnOk X.prog X.w X.K X.mg X.base CX k f fd ps sp)(hr:Room k X.A)(hb:Binds X.K fd ps ds)(hd:Vals dvs ds)(hx:DR CX X E)
 (ht:eval (.Call (.Attribute o m apos) [] [] pos) X.env=(do
   let ov<-eval o X.env
   standAt apos.atName
   let(f,first)<-holding [ov] (getMethod ov m pl)
   callWith pos f first (backTo pos (starEach [] X.env)) (backToKw pos (keywordEach [] X.env))):=by rfl):
 PE X (.Call (.Attribute o m apos) [] [] pos) (Ey C m sp dvs E ta tNil):=by
 intro pins s σ H Q I h;refine W.methodCall_KW (pl:=pl) (thn (he pins s σ H _ I h) λu s1 ⟨x,H1,I1,rx,a,dx,fs,ex,ea,l,q⟩=>?_) ht;subst ex;obtain rfl:u=Value.ref a:=rx;refine KJ I1 ea c hm l ?_;exact W.callWith_K0 (first:=[.ref a]) I1.kIn hm.kp (JA (us:=[.ref a]) (vs:=[.ref a]) F hr hb hd hx I1 (.cons rfl .nil) q)
structure Mk (K:W.Frag) (C f:Addr):Prop where
 makes:W.makesIn K C=true
 init:W.findIn K (.ref C) "__init__"=some (some (.ref f))
 fn:W.isFn K (.ref f)=true
 kp:W.keepIn K (.ref C)=true
theorem Rh(M:Mk X.K C f)(F:FnOk X.prog X.w X.K X.mg X.base CX k f fd ps sp)(hr:Room (k+1) X.A)(hb:Binds X.K fd ps ds)(hd:Vals dvs ds)
 (hx:DR CX X E) (I:Inv X pins σ H s) (r:Vals vs us)
 (h:∀x dx,H x=none->H dx=none->dx≠x->sp (.ref x::(vs++dvs)) (upd (upd H dx (.own x)) x (.ins C dx [])) (λv H2=>v= .non/\Q (.ref x) H2) E):
 wpAny (model X.prog X.w) X.A (call (.ref C) us) (EP X pins σ Q) X.xe s:=by
 have hq:=h (s.heap.objs.size+1) s.heap.objs.size (I.hok.fresh (Nat.le_succ _)) (I.hok.fresh (Nat.le_refl _)) (Nat.ne_of_lt (Nat.lt_succ_self _));have I2:=Inv.made (C:=C) I;have r2:Vals (V.ref (s.heap.objs.size+1)::(vs++dvs)) (Value.ref (s.heap.objs.size+1)::(us++ds)):= .cons rfl (r.append hd);have hl:(Value.ref (s.heap.objs.size+1)::us++ds).length=ps.length:=by
  have e:=r2.length;rw[F.len _ _ _ _ hq]at e;exact e.symm
 refine wpAny_call (R8 (f:=f) I.kIn M.makes M.init (beq_iff_eq.mp M.fn) (codeAny_mono (F.run _ X.stack _ _ ⟨Value.ref (s.heap.objs.size+1)::us,[]⟩ (Value.ref (s.heap.objs.size+1)::(us++ds)) _ _ E (hr.make C us [])
  (I2.env0.make C us []) (hb _ (Value.ref (s.heap.objs.size+1)::us) I2.kIn hl) r2 hq) λr s' hq'=>?_))
 cases r with
 |error e=>exact hx pins σ _ _ e s' I2 hq'
 |ok fl=>
  cases fl with
  |ret u=>
   obtain⟨v,H',I3,rv,ev,q3⟩:=I2.after hq';subst ev;exact⟨rv,⟨V.ref (s.heap.objs.size+1),H',I3,rfl,q3⟩⟩
  |next=>exact False.elim hq'
  |brk=>exact False.elim hq'
  |cont=>exact False.elim hq'
theorem Tn(M:Mk X.K C f)(F:FnOk X.prog X.w X.K X.mg X.base CX k f fd ps sp)(hr:Room (k+1) X.A)(hg:Gl X x)(hm:X.mg x=some (.ref C))(hb:Binds X.K fd ps ds)(hd:Vals dvs ds)(hx:DR CX X E)
 (ha:PA X (e::es) t) (hdb:(x==("__debug__":Str))=false:=by decide) (he:starEach (e::es) X.env=(false,eval e X.env)::starEach es X.env:=by rfl) (hpl:(backTo pos (starEach es X.env)).any (·.1)=false:=by rfl):
 PE X (.Call (.Name x p) (e::es) [] pos) (JN C sp dvs E t):=by
 intro pins s σ H Q I h;refine wpAny_Call_Name_kw (Dl I hg hm ?_ hdb);refine W.callWith_K (h₀:=X.base) I.ok.mod.kin M.kp (thn (ha pos pins s σ H _ I h) λus s1 ⟨vs,H1,I1,r,q⟩=>⟨I1.kIn,?_⟩) he hpl;exact Rh M F hr hb hd hx I1 r q
end
structure FnScope (N P:List Str) (sc:Scope):Prop where
 kind:sc.kind= .function
 co:sc.isCoroutine=false
 gen:sc.isGenerator=false
 nd:N.Nodup
 pre:N.take P.length=P
 par:∀x∈P,sc.names.lookup x=some .local\/sc.names.lookup x=some .cell
 nofree:∀y∈sc.names,y.2≠ .free
theorem Ks:∀ {binds:List (Str×Value)} {m:Str->Option Value},(∀v,(x,v)∉binds)->bindL kindOf binds m x=m x
 |[],_,_=>rfl
 |(n,v)::r,m,h=>by
  unfold bindL;rw[Ks λw hw=>h w (List.mem_cons_of_mem _ hw)]
  split
  ·have:x≠n:=by rintro rfl;exact h v List.mem_cons_self
   simp[this]
  ·rfl
theorem Ku:∀ {binds:List (Str×Value)} {m:Str->Option Value},(∀v,(x,v)∉binds)->bindC kindOf binds m x=m x
 |[],_,_=>rfl
 |(n,v)::r,m,h=>by
  unfold bindC;rw[Ku λw hw=>h w (List.mem_cons_of_mem _ hw)]
  split
  ·rfl
  ·have:x≠n:=by rintro rfl;exact h v List.mem_cons_self
   simp[this]
theorem Kt:∀ {P:List Str} {vs:List Value} {i:Nat} {m:Str->Option Value},P.Nodup->P[i]? =some x->vs[i]? =some v->kindOf x=some .local->
 bindL kindOf (P.zip vs) m x=some v
 |[],_,_,_,_,h,_,_=>by simp at h
 |_::_,[],_,_,_,_,h,_=>by simp at h
 |p::P,w::vs,0,m,nd,h1,h2,hk=>by
  simp at h1 h2;subst h1;subst h2;show bindL kindOf ((p,w)::P.zip vs) m p=_;unfold bindL;rw[Ks λv hv=>(List.nodup_cons.mp nd).1 (List.of_mem_zip hv).1,if_pos hk];simp
 |p::P,w::vs,i+1,m,nd,h1,h2,hk=>by
  show bindL kindOf ((p,w)::P.zip vs) m x=_;unfold bindL;exact Kt (i:=i) (List.nodup_cons.mp nd).2 (by simpa using h1) (by simpa using h2) hk
theorem Kv:∀ {P:List Str} {vs:List Value} {i:Nat} {m:Str->Option Value},P.Nodup->P[i]? =some x->vs[i]? =some v->kindOf x≠some .local->
 bindC kindOf (P.zip vs) m x=some v
 |[],_,_,_,_,h,_,_=>by simp at h
 |_::_,[],_,_,_,_,h,_=>by simp at h
 |p::P,w::vs,0,m,nd,h1,h2,hk=>by
  simp at h1 h2;subst h1;subst h2;show bindC kindOf ((p,w)::P.zip vs) m p=_;unfold bindC;rw[Ku λv hv=>(List.nodup_cons.mp nd).1 (List.of_mem_zip hv).1,if_neg hk];simp
 |p::P,w::vs,i+1,m,nd,h1,h2,hk=>by
  show bindC kindOf ((p,w)::P.zip vs) m x=_;unfold bindC;exact Kv (i:=i) (List.nodup_cons.mp nd).2 (by simpa using h1) (by simpa using h2) hk
def start(N:List Str)(vs:List V):W2:=vs.map some++List.replicate (N.length-vs.length) none
def DX(CX:CXT)(P:Program)(w:World)(K:W.Frag)(mg:Str->Option Value)(base:Heap)(N:List Str)(qual:Str)(scope:Scope)(f:Addr)(cd:Value)(A:Around)(outer:List Env)(s:Shared)(H:Hp)(E:XK):Cx where
 prog:=P
 w:=w
 K:=K
 mg:=mg
 base:=base
 A:=A.deeper (envOfC qual scope s.heap.objs.size f cd)
 N:=N
 s₀:=s
 H₀:=H
 env:=envOfC qual scope s.heap.objs.size f cd
 outer:=outer
 stack:=envOfC qual scope s.heap.objs.size f cd::outer
 ex:=[]
 calm:=true
 fn:=λ_=>true
 pn:=[]
 xe:=λe s'=>wpAny (model P w) (A.deeper (envOfC qual scope s.heap.objs.size f cd)) (leaving (envOfC qual scope s.heap.objs.size f cd) e) (λ_ s''=>CX outer H s E e s'') (λe' s''=>CX outer H s E e' s'') s'
theorem Lb(h:sc.names.lookup x=some .cell):∃c,(cellsFrom n sc.names []).lookup x=some c:=by
 have q:=W.cellsFrom_some sc.names n [] (.inl h);exact Option.isSome_iff_exists.mp q
theorem Q8{s1:Shared}
 (S:FnScope N ps scope) (hd:A.handled=none) (e0:Env0 P w K mg base A outer s H) (hl:vs.length=ps.length) (r:Vals vs us)
 (x:InCallC s s.heap.objs.size (bindL (envOfC qual scope s.heap.objs.size f cd).kindOf (ps.zip us) λ_=>none) (cellsFrom (s.heap.objs.size+1) scope.names []) (bindC (envOfC qual scope s.heap.objs.size f cd).kindOf (ps.zip us) λ_=>none) s1):
 Inv (DX CX P w K mg base N qual scope f cd A outer s H E) [] (start N vs) H s1:=by
 have hpl:ps.length<=N.length:=by have:=congrArg List.length S.pre;rw[List.length_take]at this;lia
 obtain⟨h1,tk,rfl,hk⟩:=x.done;have noA:∀b:Addr,b∉(DX CX P w K mg base N qual scope f cd A outer s H E).ex:=λb z=>absurd (show b∈([]:List Addr)from z) (by simp);refine⟨⟨e0.mod,S.kind,rfl,rfl,Nat.le_refl _,λy z c h1 h2=>?_,λy hy=>?_,λy c _ h=>?_,λ_=>hd,Around.frames_deeper e0.frames, .inr ⟨rfl,rfl⟩,λb z=>absurd z (noA b),e0.bs,e0.bsz,λb _ _=>noA b,λb z=>absurd z (noA b),e0.funs,e0.frf⟩,
  rfl,e0.bare,Un.kept hk,⟨_,x.toInCall.ns,λi y v h1 h2 h3=>?_⟩,λy c h=>⟨_,x.cell y c h⟩,e0.hok.fresh (Nat.le_refl _),λy c h=>?_,λp hp=>absurd (show p∈([]:List (Addr×Obj))from hp) (by simp),e0.hok.kept hk,?_⟩
 ·exact name_of_addr x.apart (PySem.mem_of_lookup h1) (PySem.mem_of_lookup h2)
 ·have hy:scope.names.lookup y=some .cell\/scope.names.lookup y=some .free:=hy;rcases hy with hy|hy
  ·exact Lb hy
  ·exact absurd rfl (S.nofree _ (PySem.mem_of_lookup hy))
 ·exact Nat.le_of_lt (x.above y c (PySem.mem_of_lookup h))
 ·have hi:i<vs.length:=by
   unfold start at h2
   by_cases hi:i<vs.length
   ·exact hi
   ·rw[List.getElem?_append_right (by simpa using hi)]at h2;rw[List.getElem?_replicate]at h2
    split at h2<;>cases h2
  have ha:vs[i]? =some v:=by
   unfold start at h2;rw[List.getElem?_append_left (by simpa using hi),List.getElem?_map]at h2
   cases e:vs[i]? with
   |none=>rw[e]at h2;cases h2
   |some a=>rw[e]at h2;cases h2;rfl
  obtain⟨u,hu,rv⟩:=r.get ha;have hp:ps[i]? =some y:=by
   rw[<-S.pre,List.getElem?_take_of_lt (by lia)];exact h1
  have ndP:ps.Nodup:=by rw[<-S.pre];exact S.nd.sublist (List.take_sublist _ _)
  refine⟨u,rv,?_⟩;rcases S.par y (List.mem_of_getElem? hp)with k|k
  ·exact .inl ⟨k,Kt ndP hp hu k⟩
  ·obtain⟨c,e⟩:=Lb (n:=s.heap.objs.size+1) k;refine .inr ⟨.inl k,c,e,?_⟩;have q:=x.cell y c e;rw[Kv ndP hp hu (by show scope.names.lookup y≠_;rw[k];decide)]at q;exact q
 ·exact e0.hok.fresh (Nat.le_of_lt (x.above y c (PySem.mem_of_lookup h)))
 ·unfold start;show _=N.length;rw[List.length_append,List.length_map,List.length_replicate];lia
theorem NZ{k:Nat}{dV kV:Value}
 {osl:Array (Option Value)} {N ps:List Str} {sp:Sp} (lk:K.lookup f=some ⟨oc,od, .func (W.fnOf name qual params body scope dV kV doc pm an cdv ct),osl⟩) (hcd:W.codeIn K cdv qual=true) (S:FnScope N ps scope)
 (len:∀vs H Q E,sp vs H Q E->vs.length=ps.length)
 (hbody:∀ (A:Around) (outer:List Env) (s:Shared) (H:Hp) (vs:List V) (Q:VK) (E:XK),Room k (A.deeper (envOfC qual scope s.heap.objs.size f cdv))->sp vs H Q E->
   ∃t,PSs (DX CX P w K mg base N qual scope f cdv A outer s H E) body t/\t {nx:=λ_ H'=>Q .non H',rt:=Q} (start N vs) H):
 FnOk P w K mg base CX (k+1) f (W.fnOf name qual params body scope dV kV doc pm an cdv ct) ps sp:=by
 refine⟨len,λA outer s H args us vs Q E hr e0 hb r hsp=>?_⟩;have hl:=len _ _ _ _ hsp;have KX:K.In s.heap:=e0.mod.kin.keeps λb o e=>(e0.bs b o e).1;have lim:s.heap.NoLimit:=e0.mod.nolimit.keeps λb o e=>(e0.bs b o e).1;have hkind:∀y∈ps.zip us,scope.names.lookup y.1=some .local\/(scope.names.lookup y.1=some .cell/\((cellsFrom (s.heap.objs.size+1) scope.names []).lookup y.1).isSome=true):=λ⟨n,v⟩ hy=>by
  rcases S.par n (List.of_mem_zip hy).1 with q|q
  ·exact .inl q
  ·exact .inr ⟨q,W.cellsFrom_some _ _ _ (.inl q)⟩
 refine codeAny_call_function hr.depth (KX _ _ lk) rfl S.co S.gen rfl (W.codeRec_of KX hcd) (hb _ _ _ _ ?_);refine wpAny_newFunctionEnv_cells S.kind hkind λenv he s1 x=>?_;subst he;refine⟨lim.keeps x.toInCall.keep,codeAny_func ?_⟩;obtain⟨t,ht,hq⟩:=hbody A outer s H vs Q E (hr.deeper _) hsp;have I:Inv (DX CX P w K mg base N qual scope f cdv A outer s H E) [] (start N vs) H s1:=Q8 S hr.hd e0 hl r x;refine wpAny_mono (ht [] s1 (start N vs) H _ I hq) (λfl s' hs=>?_) λe s' hs=>hs;have fin:∀ {σ':W2} {H':Hp} {v:V} {u:Value},Inv (DX CX P w K mg base N qual scope f cdv A outer s H E) [] σ' H' s'->RelV v u->Q v H'->CE outer P w H s Q u s':=
  fun{σ' H' v u} J rv q=>⟨v,H',J.os,J.bare,J.base,J.hok,rv,q⟩
 cases fl with
 |ret u=>
  obtain⟨v,σ',H',J,rv,q⟩:=hs;exact fin J rv q
 |next=>
  obtain⟨σ',H',J,q⟩:=hs;exact fin (v:=V.non) (u:=Value.none) J rfl q
 |brk=>
  obtain⟨_,_,_,q⟩:=hs;exact False.elim q
 |cont=>
  obtain⟨_,_,_,q⟩:=hs;exact False.elim q
section
variable{p pos:Pos}{id T:String}
def tCB(r:List V->Hp->VK->Prop)(t:TA):TE:=λσ H Q=>t σ H λvs H1=>r vs H1 Q
theorem Ae(hc:CallR X (.builtin id) r)(hg:Gl X x)(hm:X.mg x=none)(hv:bootBuiltins x=some (.builtin id))(ha:PA X (e::es) t)(hn:x≠"__name__":=by decide)(hdb:(x==("__debug__":Str))=false:=by decide)
 (he:starEach (e::es) X.env=(false,eval e X.env)::starEach es X.env:=by rfl) (hpl:(backTo pos (starEach es X.env)).any (·.1)=false:=by rfl):PE X (.Call (.Name x p) (e::es) [] pos) (tCB r t):=by
 intro pins s σ H Q I h;refine wpAny_Call_Name_kw (CB I hg hm hv ?_ hn hdb);exact PyProof.Rows.callWith_builtin1 (thn (ha pos pins s σ H _ I h) λus s1 ⟨vs,H1,I1,r1,q1⟩=>hc pins s1 σ H1 vs us Q I1 r1 q1) he hpl
theorem EN(hc:CallR X (.type T) r)(hg:Gl X x)(hm:X.mg x=none)(hv:bootBuiltins x=some (.type T))(ha:PA X (e::es) t)(hn:x≠"__name__":=by decide)(hdb:(x==("__debug__":Str))=false:=by decide)
 (he:starEach (e::es) X.env=(false,eval e X.env)::starEach es X.env:=by rfl) (hpl:(backTo pos (starEach es X.env)).any (·.1)=false:=by rfl):PE X (.Call (.Name x p) (e::es) [] pos) (tCB r t):=by
 intro pins s σ H Q I h;refine wpAny_Call_Name_kw (CB I hg hm hv ?_ hn hdb);exact PyProof.Rows.callWith_type1 (thn (ha pos pins s σ H _ I h) λus s1 ⟨vs,H1,I1,r1,q1⟩=>hc pins s1 σ H1 vs us Q I1 r1 q1) he hpl
end
end L2
open L2
namespace HT
def sIx(n d:Nat):Option Int->Nat
 |none=>d
 |some v=>if v<0 then(v+(n:Int)).toNat else min v.toNat n
theorem sIx_none(n d:Nat):sIx n d none=d:=rfl
theorem sIx_nat(n d k:Nat):sIx n d (some (k:Int))=min k n:=by
 show(if(k:Int)<0 then((k:Int)+(n:Int)).toNat else min (k:Int).toNat n)=min k n;rw[if_neg (by lia),Int.toNat_natCast]
theorem sIx_le(n d:Nat)(hd:d<=n)(o:Option Int):sIx n d o<=n:=by
 cases o with
 |none=>exact hd
 |some v=>
  show(if v<0 then(v+(n:Int)).toNat else min v.toNat n)<=n
  by_cases hv:v<0
  ·rw[if_pos hv];lia
  ·rw[if_neg hv];exact Nat.min_le_right _ _
end HT
open HT
namespace L2
variable{f:Array Value->Array Value}{i:Int}{es:List Expr}{xs ys:List V}{T:String}{x:V}{r:V->Option Int->Option Int->Hp->VK->Prop}{σ:W2}
abbrev TO:=W2->Hp->(Option Int->Hp->Prop)->Prop
def PO(X:Cx)(e:Option Expr)(t:TO):Prop:=
 ∀ (pins:List (Addr×Obj)) (s:Shared) (σ:W2) (H:Hp) (Q:Option Int->Hp->Prop),Inv X pins σ H s->t σ H Q->
   wpAny (model X.prog X.w) X.A (evalPart e X.env) (λu s'=>∃o H',Inv X pins σ H' s'/\IsPart u o/\Q o H') X.xe s
def tNoPart:TO:=λ_ H Q=>Q none H
def NM(t:TE):TO:=λσ H Q=>t σ H λx H1=>∃i,x= .int i/\Q (some i) H1
theorem KI:∀ {us:List Value},Vals (ns.map V.int) us->IntsAre us ns:=by
 induction ns with
 |nil=>intro us r;rw[List.map_nil]at r;cases r;exact .nil
 |cons n ns ih=>
  intro us r;rw[List.map_cons]at r
  cases r with
  |cons r1 r2=>
   obtain⟨t,e⟩:=r1;subst e;exact .cons n t (ih r2)
section
variable{lo hi:Option Expr}{tl th:TO}{pos p2:Pos}
theorem B5:PO X none tNoPart:=by
 intro pins s σ H Q I h;rw[evalPart_none];exact wpAny_pure ⟨none,H,I, .none,h⟩
theorem Bl(h:PE X e te):PO X (some e) (NM te):=by
 intro pins s σ H Q I hw;rw[evalPart_some];refine thn (h pins s σ H _ I hw) λu s1 ⟨x,H1,I1,r1,q1⟩=>?_;obtain⟨i,rfl,q⟩:=q1;obtain⟨t,rfl⟩:=r1;exact⟨some i,H1,I1, .int i t,q⟩
def SlR(X:Cx)(r:V->Option Int->Option Int->Hp->VK->Prop):Prop:=
 ∀ (pins:List (Addr×Obj)) (s:Shared) (σ:W2) (H:Hp) (x:V) (v vl vu:Value) (lo hi:Option Int) (sl:Addr) (Q:VK),Inv X pins σ H s->RelV x v->s.heap.IsSliceOf sl vl vu .none->IsPart vl lo->IsPart vu hi->r x lo hi H Q->
   ∃T id,typeLookup (.type T) "__getitem__"=pure (some (.builtin id))/\s.TypeIs v T/\wpAny (model X.prog X.w) X.A (getItem v (.ref sl)) (EP X pins σ Q) X.xe s
theorem SlR.or(h:SlR X r)(h':SlR X r'):SlR X (λx lo hi H Q=>r x lo hi H Q\/r' x lo hi H Q):=by
 intro pins s σ H x v vl vu lo hi sl Q I rx hs pl pu q;rcases q with q|q
 ·exact h pins s σ H x v vl vu lo hi sl Q I rx hs pl pu q
 ·exact h' pins s σ H x v vl vu lo hi sl Q I rx hs pl pu q
def tSl(r:V->Option Int->Option Int->Hp->VK->Prop)(te:TE)(tl th:TO):TE:=λσ H Q=>te σ H λx H1=>tl σ H1 λl H2=>th σ H2 λu H3=>r x l u H3 Q
theorem Bw(hr:SlR X r)(he:PE X e te)(hl:PO X lo tl)(hu:PO X hi th):PE X (.Subscript e (.Slice lo hi none p2) pos) (tSl r te tl th):=by
 intro pins s σ H Q I h;refine Subscript_ (thn (he pins s σ H _ I h) λv s1 ⟨x,H1,I1,r1,q1⟩=>?_);refine wpAny_Slice (thn (hl pins s1 σ H1 _ I1 q1) λvl s2 ⟨l,H2,I2,pl,q2⟩=>thn (hu pins s2 σ H2 _ I2 q2) λvu s3 ⟨u,H3,I3,pu,q3⟩=>?_);rw[evalPart_none];refine wpAny_pure ?_;have I4:Inv X pins σ H3 {s3 with heap:=s3.heap.push {cls:= .type "slice",data:= .fields #[vl,vu, .none]}}:=I3.kept (t':=s3.toks) λb ob q=>Heap.get?_push_of_some _ q;obtain⟨T,id,hT,ht,hg⟩:=hr pins {s3 with heap:=s3.heap.push {cls:= .type "slice",data:= .fields #[vl,vu, .none]}} σ H3 x v vl vu l u s3.heap.objs.size Q I4 r1 (Heap.IsSliceOf.new ..) pl pu q3;show wpAny (model X.prog X.w) X.A (subscriptTail e (.Slice lo hi none p2) v (.ref s3.heap.objs.size)) (EP X pins σ Q) X.xe {s3 with heap:=s3.heap.push {cls:= .type "slice",data:= .fields #[vl,vu, .none]}};exact tail_any (ops:=[.ref s3.heap.objs.size,v]) ht hT hg (by with_unfolding_all rfl)
def GQ(xs:List V)(lo hi:Option Int):List V:=(xs.drop (HT.sIx xs.length 0 lo)).take (HT.sIx xs.length xs.length hi-HT.sIx xs.length 0 lo)
theorem Pt(xs:List V)(lo hi:Option Int):(GQ xs lo hi).length<=xs.length:=by
 unfold GQ;rw[List.length_take,List.length_drop];lia
end
def ixN(n:Nat)(i:Int):Option Nat:=if 0<=i then(if i<n then some i.toNat else none)else if -(n:Int)<=i then some (i+n).toNat else none
def atI{α:Type}(xs:List α)(i:Int):Option α:=(ixN xs.length i).bind λj=>xs[j]?
theorem MH(h:ixN n i=some j):seqIndex? i n=some j/\j<n/\ -(n:Int)<=i/\i<n:=by
 unfold ixN at h
 by_cases h0:0<=i
 ·rw[if_pos h0]at h
  by_cases h1:i<n
  ·rw[if_pos h1]at h;have e:i.toNat=j:=Option.some.inj h;exact⟨by rw[seqIndex_of h0 h1,e],by lia,by lia,h1⟩
  ·rw[if_neg h1]at h;cases h
 ·rw[if_neg h0]at h
  by_cases h1: -(n:Int)<=i
  ·rw[if_pos h1]at h;have e:(i+n).toNat=j:=Option.some.inj h;exact⟨by rw[seqIndex_neg (by lia) h1,e],by lia,h1,by lia⟩
  ·rw[if_neg h1]at h;cases h
theorem Ih{xs:List α}{v:α}(h:atI xs i=some v):∃j,seqIndex? i xs.length=some j/\xs[j]? =some v/\j<xs.length/\ -(xs.length:Int)<=i/\i<xs.length:=by
 unfold atI at h
 cases e:ixN xs.length i with
 |none=>rw[e]at h;cases h
 |some j=>
  rw[e]at h;obtain⟨h1,h2,h3,h4⟩:=MH e;exact⟨j,h1,h,h2,h3,h4⟩
theorem AM{xs:List α}{v:α}(h:xs[j]? =some v):atI xs (j:Int)=some v:=by
 have hj:j<xs.length:=(List.getElem?_eq_some_iff.mp h).1;have e:ixN xs.length (j:Int)=some j:=by
  unfold ixN;rw[if_pos (by lia),if_pos (by lia)];simp
 unfold atI;rw[e];exact h
theorem Lf(xs:List α)(v:α):atI (xs++[v]) (-1)=some v:=by
 have hl:(xs++[v]).length=xs.length+1:=by simp
 have e:ixN (xs++[v]).length (-1)=some xs.length:=by
  unfold ixN;rw[hl,if_neg (by decide),if_pos (by lia)];congr 1;lia
 unfold atI;rw[e];show(xs++[v])[xs.length]? =some v;simp
def Uc(b:Expr):Prop:=∀o i,subscripted b false o i=operate [o,i] (getItem o i)
def IxR(X:Cx)(r:R2):Prop:=
 ∀ (value slice:Expr) (pins:List (Addr×Obj)) (s:Shared) (σ:W2) (H:Hp) (x y:V) (v u:Value) (Q:VK),Inv X pins σ H s->RelV x v->RelV y u->r x y H Q->
   subscripted slice false v u=operate [v,u] (getItem v u)->wpAny (model X.prog X.w) X.A (subscriptTail value slice v u) (EP X pins σ Q) X.xe s
def MtR(X:Cx)(id:String)(r:V->List V->Hp->VK->Prop):Prop:=
 ∀ (pins:List (Addr×Obj)) (s:Shared) (σ:W2) (H:Hp) (x:V) (xs:List V) (v:Value) (us:List Value) (Q:VK),Inv X pins σ H s->RelV x v->Vals xs us->r x xs H Q->
   wpAny (model X.prog X.w) X.A (call (.builtin id) (v::us)) (EP X pins σ Q) X.xe s
section
variable{a b:Expr}{tb:TE}{pos:Pos}
theorem IxR.or{r r':R2}(h:IxR X r)(h':IxR X r'):IxR X (λx y H Q=>r x y H Q\/r' x y H Q):=by
 intro value slice pins s σ H x y v u Q I rx ry q hs;rcases q with q|q
 ·exact h value slice pins s σ H x y v u Q I rx ry q hs
 ·exact h' value slice pins s σ H x y v u Q I rx ry q hs
theorem AH{r:R2}(hr:IxR X r)(ha:PE X a ta)(hb:PE X b tb)(hs:Uc b):PE X (.Subscript a b pos) (tOp r ta tb):=by
 intro pins s σ H Q I h;exact Subscript_ (Jp ha hb I h λv u s2 x y H2 I2 rx ry q=>hr a b pins s2 σ H2 x y v u Q I2 rx ry q (hs _ _))
def Nv(K:W.Frag):R2:=λx y H Q=>∃p xs i v,x= .ref p/\y= .int i/\SqL K H p xs/\atI xs i=some v/\Q v H
def Nu(K:W.Frag):R2:=λx y H Q=>∃p xs i v,x= .ref p/\y= .int i/\SqT K H p xs/\atI xs i=some v/\Q v H
def rIxS:R2:=λx y H Q=>∃z i c,x= .str z/\y= .int i/\z.length<=sizeLine/\atI z.cps.toList i=some c/\Q (.str ⟨#[c]⟩) H
theorem ix_list:IxR X (Nv X.K):=by
 intro value slice pins s σ H x y v u Q I rx ry h hs;obtain⟨p,xs,i,z,rfl,rfl,hq,he,q⟩:=h
 cases rx
 obtain⟨t,rfl⟩:=ry;obtain⟨its,r,pl,hz⟩:=I.list hq;obtain⟨j,h1,h2,h3,h4,h5⟩:=Ih he;obtain⟨w,ew,rw'⟩:=r.get h2;have hl:=r.length;have hn:=Cy;have fin:EP X pins σ Q w s:=⟨z,H,I,rw',q⟩
 by_cases h0:0<=i
 ·have hj:i.toNat=j:=by
   rw[seqIndex_of h0 h5]at h1;exact Option.some.inj h1
  exact item_listR pl.isList h0 (by lia) (by rw[hj];simpa using ew) fin hs
 ·have hj:(i+(its.toArray.size:Int)).toNat=j:=by
   rw[seqIndex_neg (by lia) h4]at h1;rw[List.size_toArray,<-hl];exact Option.some.inj h1
  exact subscriptTail_builtinR (x:=w) pl.isList.typeIs slot_list_getitem.lookup
   (wpAny_getItem_list_neg (Q:=λr s'=>r=w/\EP X pins σ Q r s') pl.isList (by lia) (by rw[List.size_toArray]<;>lia) (by lia) (by rw[hj];simpa using ew) ⟨rfl,fin⟩) hs
theorem Vf:IxR X (Nu X.K):=by
 intro value slice pins s σ H x y v u Q I rx ry h hs;obtain⟨p,xs,i,z,rfl,rfl,hq,he,q⟩:=h
 cases rx
 obtain⟨t,rfl⟩:=ry;obtain⟨its,r,pl,hz⟩:=I.tuple hq;obtain⟨j,h1,h2,h3,h4,h5⟩:=Ih he;obtain⟨w,ew,rw'⟩:=r.get h2;have hl:=r.length;have hn:=Cy;have fin:EP X pins σ Q w s:=⟨z,H,I,rw',q⟩;exact subscriptTail_builtinR (x:=w) pl.typeIs slot_tuple_getitem.lookup
  (getItem_tuple (j:=j) (Q:=λr s'=>r=w/\EP X pins σ Q r s') pl (by lia) (by lia) (by rw[List.size_toArray,<-hl];exact h1) (by simpa using ew) ⟨rfl,fin⟩) hs
theorem Vg:IxR X rIxS:=by
 intro value slice pins s σ H x y v u Q I rx ry h hs;obtain⟨z,i,c,rfl,rfl,hz,he,q⟩:=h;obtain⟨t,rfl⟩:=rx;obtain⟨t',rfl⟩:=ry;obtain⟨j,h1,h2,h3,h4,h5⟩:=Ih he;have hl:z.cps.toList.length=z.length:=by simp[Str.length]
 rw[hl]at h1 h4 h5;have hn:=Cy;exact tail_any (typeIs_str s z t) slot_str_getitem.lookup (getItem_str (c:=c) (by
  have e1:decide (i< -(2^63:Int))=false:=decide_eq_false (by lia);have e2:decide (i>=2^63)=false:=decide_eq_false (by lia);rw[e1,e2,Bool.or_false]) (by rw[h1];simpa using h2) ⟨.str ⟨#[c]⟩,H,I.tok _,⟨_,rfl⟩,q⟩) hs
theorem QI(its:List Value)(n j:Nat)(u:Value):Obj.mapSeq (·.setIfInBounds j u) {cls:= .type "list",data:= .seq its.toArray n}={cls:= .type "list",data:= .seq (its.set j u).toArray n}:=by
 simp[Obj.mapSeq]
theorem Inv.lst(I:Inv X pins σ H s)(h:H p=some (.lst xs)):
 ∃ (its:List Value) (n:Nat),Vals xs its/\s.heap.get? p=some {cls:= .type "list",data:= .seq its.toArray n}/\xs.length<=sizeLine:=by
 obtain⟨z,its,n,r,e⟩:=I.hok p _ h;exact⟨its,n,r,e,z⟩
theorem Inv.lstUpd{f:Obj->Obj}(I:Inv X pins σ H s)(h:H p=some (.lst xs))
 (ho:s.heap.get? p=some {cls:= .type "list",data:= .seq its.toArray n}) (hf:f {cls:= .type "list",data:= .seq its.toArray n}={cls:= .type "list",data:= .seq its'.toArray n'}) (r:Vals ys its') (hz:ys.length<=sizeLine) (t:Nat):
 Inv X pins σ (upd H p (.lst ys)) {s with heap:=s.heap.update p f,toks:=t}:=by
 have e:(s.heap.update p f).get? p=some {cls:= .type "list",data:= .seq its'.toArray n'}:=by
  rw[Heap.get?_update_self f ho (by rw[hf]<;>rfl),hf]
 refine I.write (x:=p) (e:=p) (by rw[h];trivial) (.inl rfl) (λb u hb q=>(Heap.get?_update_other _ _ (Ne.symm hb)).trans q) ⟨_,e⟩ ?_;exact⟨hz,its',n',r,e⟩
def rSetL:V->V->V->Hp->(Hp->Prop)->Prop:=λo i v H Q=>∃p xs k j,o= .ref p/\i= .int k/\H p=some (.lst xs)/\ixN xs.length k=some j/\Q (upd H p (.lst (xs.set j v)))
theorem BO:Jq X rSetL:=by
 intro pins s σ H o i v ov iv u Q I ro ri rv h;obtain⟨p,xs,k,j,rfl,rfl,hp,hj,q⟩:=h
 cases ro
 obtain⟨t,rfl⟩:=ri;obtain⟨its,n,r,ho,hz⟩:=I.lst hp;obtain⟨h1,h2,h3,h4⟩:=MH hj;have hl:=r.length;have hn:=Cy;have I':Inv X pins σ (upd H p (.lst (xs.set j v))) {s with heap:=s.heap.update p (Obj.mapSeq (·.setIfInBounds j u))}:=
  I.lstUpd hp ho (QI its n j u) (r.set rv j) (by rw[List.length_set];exact hz) s.toks
 by_cases h0:0<=k
 ·have hk:k.toNat=j:=by
   rw[seqIndex_of h0 h4]at h1;exact Option.some.inj h1
  exact W.ki_setAt ho h0 (by lia) (by rw[List.size_toArray,<-hl];exact h4) (by rw[hk];exact⟨_,I',q⟩)
 ·have hk:(k+(its.toArray.size:Int)).toNat=j:=by
   rw[seqIndex_neg (by lia) h3]at h1;rw[List.size_toArray,<-hl];exact Option.some.inj h1
  exact W.ki_setBack ho (by lia) (by rw[List.size_toArray,<-hl];exact h3) (by lia) (by rw[hk];exact⟨_,I',q⟩)
theorem PB(lo hi:Option Int)(n:Nat):(sliceBounds lo hi none n).1=((HT.sIx n 0 lo:Nat):Int)/\(sliceBounds lo hi none n).2.1=((HT.sIx n n hi:Nat):Int)/\(sliceBounds lo hi none n).2.2=1:=by
 refine⟨?_,?_,rfl⟩
 ·cases lo with
  |none=>simp[sliceBounds,HT.sIx]
  |some i=>
   simp only[sliceBounds,HT.sIx,Option.getD_none,show(1:Int)>0 by decide,if_true]
   by_cases h:i<0
   ·simp only[h,if_true]<;>lia
   ·simp only[h,if_false]<;>lia
 ·cases hi with
  |none=>simp[sliceBounds,HT.sIx]
  |some i=>
   simp only[sliceBounds,HT.sIx,Option.getD_none,show(1:Int)>0 by decide,if_true]
   by_cases h:i<0
   ·simp only[h,if_true]<;>lia
   ·simp only[h,if_false]<;>lia
theorem O3(its:List Value)(lo hi:Option Int):slicePick its.toArray lo hi none=((its.drop (HT.sIx its.length 0 lo)).take (HT.sIx its.length its.length hi-HT.sIx its.length 0 lo)).toArray:=by
 obtain⟨h1,h2,h3⟩:=PB lo hi its.toArray.size;unfold slicePick;rw[h1,h2,h3];simp only[sliceRange_one,pick_run,List.size_toArray]<;>rfl
def Nr(K:W.Frag):V->Option Int->Option Int->Hp->VK->Prop:=λx lo hi H Q=>∃a xs,x= .ref a/\SqL K H a xs/\∀p,H p=none->Q (.ref p) (upd H p (.lst (GQ xs lo hi)))
theorem Su:SlR X (Nr X.K):=by
 intro pins s σ H x v vl vu lo hi sl Q I rx hs pl pu h;obtain⟨a,xs,rfl,hx,q⟩:=h
 cases rx
 obtain⟨its,r,ht,hz⟩:=I.list hx;have hlen:=r.length;refine⟨"list",_,slot_list_getitem.lookup,ht.isList.typeIs,?_⟩;refine wpAny_getItem_list_slice ht.isList hs pl pu .none (by simp) ?_ (by rw[List.size_toArray]<;>lia);rw[O3,<-hlen];refine⟨.ref s.heap.objs.size,_,I.laid (t':=s.toks) (o:= .lst (GQ xs lo hi)) (λb ob q=>Heap.get?_push_of_some _ q) (Nat.le_refl _) ?_,rfl,q _ (I.hok.fresh (Nat.le_refl _))⟩;exact⟨Nat.le_trans (Pt xs lo hi) hz,_,0,(r.drop (HT.sIx xs.length 0 lo)).take (HT.sIx xs.length xs.length hi-HT.sIx xs.length 0 lo),Heap.get?_push_size _ rfl⟩
def As:V->Bool
 | .non=>true
 | .bl _=>true
 | .int _=>true
 | .str _=>true
 |_=>false
def eqV:V->V->Bool
 | .non, .non=>true
 | .bl a, .bl b=>a==b
 | .bl a, .int b=>(if a then 1 else 0)==b
 | .int a, .bl b=>a==(if b then 1 else 0)
 | .int a, .int b=>a==b
 | .str a, .str b=>a==b
 |_,_=>false
theorem M7{y:V}{u:Value}(ry:RelV y u)(rx:RelV x v)(fy:As y=true)(fx:As x=true):SeqAt.EqAt A s u v (eqV y x):=by
 cases y with
 |non=>
  cases ry
  cases x with
  |non=>cases rx;exact SeqAt.EqAt.same _
  |bl b=>cases rx;exact SeqAt.EqAt.none_bool b
  |int b=>obtain⟨t,rfl⟩:=rx;exact SeqAt.EqAt.none_int b t
  |str b=>obtain⟨t,rfl⟩:=rx;exact SeqAt.EqAt.none_str b t
  |_=>exact absurd (show false=true from fx) Bool.false_ne_true
 |bl a=>
  cases ry
  cases x with
  |non=>cases rx;exact SeqAt.EqAt.bool_none a
  |bl b=>cases rx;exact SeqAt.EqAt.bool_bool a b
  |int b=>obtain⟨t,rfl⟩:=rx;exact SeqAt.EqAt.bool_int a b t
  |str b=>obtain⟨t,rfl⟩:=rx;exact SeqAt.EqAt.bool_str a b t
  |_=>exact absurd (show false=true from fx) Bool.false_ne_true
 |int a=>
  obtain⟨t',rfl⟩:=ry
  cases x with
  |non=>cases rx;exact SeqAt.EqAt.int_none a t'
  |bl b=>cases rx;exact SeqAt.EqAt.int_bool a t' b
  |int b=>obtain⟨t,rfl⟩:=rx;exact SeqAt.EqAt.int_int a t' b t
  |str b=>obtain⟨t,rfl⟩:=rx;exact SeqAt.EqAt.int_str a t' b t
  |_=>exact absurd (show false=true from fx) Bool.false_ne_true
 |str a=>
  obtain⟨t',rfl⟩:=ry
  cases x with
  |non=>cases rx;exact SeqAt.EqAt.str_none a t'
  |bl b=>cases rx;exact SeqAt.EqAt.str_bool a t' b
  |int b=>obtain⟨t,rfl⟩:=rx;exact SeqAt.EqAt.str_int a t' b t
  |str b=>obtain⟨t,rfl⟩:=rx;exact SeqAt.EqAt.str_str a t' b t
  |_=>exact absurd (show false=true from fx) Bool.false_ne_true
 |_=>exact absurd (show false=true from fy) Bool.false_ne_true
def eqU(x:V)(u:Value):Bool:=match u with
 | .none=>eqV .non x
 | .bool b=>eqV (.bl b) x
 | .int i _=>eqV (.int i) x
 | .str z _=>eqV (.str z) x
 |_=>false
theorem M6{y:V}{u:Value}(r:RelV y u)(f:As y=true):eqU x u=eqV y x:=by
 cases y with
 |non=>cases r;rfl
 |bl b=>cases r;rfl
 |int i=>obtain⟨t,rfl⟩:=r;rfl
 |str z=>obtain⟨t,rfl⟩:=r;rfl
 |_=>exact absurd (show false=true from f) Bool.false_ne_true
theorem Ee:∀ {xs:List V} {us:List Value},Vals xs us->xs.all As=true->us.any (eqU x)=xs.any λy=>eqV y x
 |_,_, .nil,_=>rfl
 |y::xs,u::us, .cons r t,f=>by
  rw[List.all_cons,Bool.and_eq_true]at f;rw[List.any_cons,List.any_cons,M6 r f.1,Ee t f.2]
theorem EV(rx:RelV x v)(fx:As x=true):∀ {xs:List V} {us:List Value},Vals xs us->xs.all As=true->∀u∈us,SeqAt.EqAt A s u v (eqU x u)
 |_,_, .nil,_=>λu hu=>by cases hu
 |y::xs,u::us, .cons r t,f=>λu' hu=>by
  rw[List.all_cons,Bool.and_eq_true]at f;rcases List.mem_cons.mp hu with rfl|hu
  ·rw[M6 r f.1];exact M7 r rx f.1 fx
  ·exact EV rx fx t f.2 u' hu
def inV(x:V)(xs:List V):Bool:=xs.any λy=>eqV y x
def rIn(K:W.Frag)(neg:Bool):R2:=λx y H Q=>∃p xs,y= .ref p/\(SqL K H p xs\/SqT K H p xs)/\As x=true/\xs.all As=true/\Q (.bl (if neg then !inV x xs else inV x xs)) H
theorem Qq:OpR X (compareOp .In) (rIn X.K false):=by
 intro pins s σ H x y v u Q I rx ry h;obtain⟨p,xs,rfl,hq,fx,fs,q⟩:=h
 cases ry
 rcases hq with hq|hq
 ·obtain⟨its,r,pl,hz⟩:=I.list hq;refine SeqAt.in_listAt (eqU x) pl.isList (λw hw=>EV rx fx r fs w (by simpa using hw)) ⟨.bl _,H,I,rfl,?_⟩;rw[show its.toArray.any (eqU x)=its.any (eqU x) by simp,Ee r fs];exact q
 ·obtain⟨its,r,pl,hz⟩:=I.tuple hq;refine SeqAt.in_tupleAt (eqU x) pl (λw hw=>EV rx fx r fs w (by simpa using hw)) ⟨.bl _,H,I,rfl,?_⟩;rw[show its.toArray.any (eqU x)=its.any (eqU x) by simp,Ee r fs];exact q
theorem PH:OpR X (compareOp .NotIn) (rIn X.K true):=by
 intro pins s σ H x y v u Q I rx ry h;obtain⟨p,xs,rfl,hq,fx,fs,q⟩:=h
 cases ry
 rcases hq with hq|hq
 ·obtain⟨its,r,pl,hz⟩:=I.list hq;refine SeqAt.notIn_listAt (eqU x) pl.isList (λw hw=>EV rx fx r fs w (by simpa using hw)) ⟨.bl _,H,I,rfl,?_⟩;rw[show its.toArray.any (eqU x)=its.any (eqU x) by simp,Ee r fs];exact q
 ·obtain⟨its,r,pl,hz⟩:=I.tuple hq;refine SeqAt.notIn_tupleAt (eqU x) pl (λw hw=>EV rx fx r fs w (by simpa using hw)) ⟨.bl _,H,I,rfl,?_⟩;rw[show its.toArray.any (eqU x)=its.any (eqU x) by simp,Ee r fs];exact q
theorem PR:CallR X (.builtin "len") (λxs H Q=>∃p ys,xs=[.ref p]/\(SqL X.K H p ys\/SqT X.K H p ys)/\Q (.int ys.length) H):=by
 intro pins s σ H xs us Q I r h;obtain⟨p,ys,rfl,hq,q⟩:=h;obtain⟨u,rfl,rx⟩:=vals1 r
 cases rx
 have hn:=Cy;rcases hq with hq|hq
 ·obtain⟨its,r',pl,hz⟩:=I.list hq;have hlen:=r'.length;exact Calls.call_len_list pl.isList (by simp only[List.size_toArray]<;>lia) ⟨.int ys.length,H,I.tok _,⟨s.toks+1,by rw[List.size_toArray,hlen]⟩,q⟩
 ·obtain⟨its,r',pl,hz⟩:=I.tuple hq;have hlen:=r'.length;exact len_tuple pl (by simp only[List.size_toArray]<;>lia) ⟨.int ys.length,H,I.tok _,⟨s.toks+1,by rw[List.size_toArray,hlen]⟩,q⟩
theorem PQ:CallR X (.builtin "len") (λxs H Q=>∃z,xs=[.str z]/\z.length<=sizeLine/\Q (.int z.length) H):=by
 intro pins s σ H xs us Q I r h;obtain⟨z,rfl,hz,q⟩:=h;obtain⟨u,rfl,t,rfl⟩:=vals1 r;have hn:=Cy;exact len_str (by lia) ⟨.int z.length,H,I.tok _,⟨_,rfl⟩,q⟩
theorem CallR.or{f:Value}{r r':List V->Hp->VK->Prop}(h:CallR X f r)(h':CallR X f r'):CallR X f (λxs H Q=>r xs H Q\/r' xs H Q):=by
 intro pins s σ H xs us Q I rs q;rcases q with q|q
 ·exact h pins s σ H xs us Q I rs q
 ·exact h' pins s σ H xs us Q I rs q
theorem PN:CallR X (.type "list") (λxs H Q=>∃p ys,xs=[.ref p]/\(SqL X.K H p ys\/SqT X.K H p ys)/\∀l,H l=none->Q (.ref l) (upd H l (.lst ys))):=by
 intro pins s σ H xs us Q I r h;obtain⟨p,ys,rfl,hq,q⟩:=h;obtain⟨u,rfl,rx⟩:=vals1 r
 cases rx
 have fin:∀ (its:List Value),Vals ys its->ys.length<=sizeLine->∀ (h':Heap) (c':Nat),(∀b o',s.heap.get? b=some o'->h'.get? b=some o')->
  h'.get? s.heap.objs.size=some {cls:= .type "list",dict:=none,data:= .seq its.toArray c',slots:= #[]}->EP X pins σ Q (.ref s.heap.objs.size) {s with heap:=h'}:=λits r' hz h' c' kp e=>
  ⟨.ref s.heap.objs.size,_,I.laid (t':=s.toks) kp (Nat.le_refl _) (show ObjOk X.prog X.w _ h' _ (.lst ys)from⟨hz,its,c',r',e⟩),rfl,q _ (I.hok.fresh (Nat.le_refl _))⟩
 rcases hq with hq|hq
 ·obtain⟨its,r',pl,hz⟩:=I.list hq;have hlen:=r'.length;obtain⟨o,ho,hc,n,hd⟩:=pl.isList;exact call_list_seq p (.inl rfl) ho hc hd (λh' c' kp e=>fin its r' hz h' c' kp e) (by simp only[List.size_toArray]<;>lia)
 ·obtain⟨its,r',pl,hz⟩:=I.tuple hq;have hlen:=r'.length;obtain⟨o,ho,hc,n,hd⟩:=pl;exact call_list_seq p (.inr rfl) ho hc hd (λh' c' kp e=>fin its r' hz h' c' kp e) (by simp only[List.size_toArray]<;>lia)
def tyV(K:W.Frag)(T:String)(x:V)(H:Hp):Prop:=match x with
 | .str _=>T="str"
 | .int _=>T="int"
 | .ref p=>(T="list"/\∃xs,SqL K H p xs)\/(T="tuple"/\∃o,K.lookup p=some o/\o.cls= .type "tuple"/\o.dict=none)\/
     (T="dict"/\((∃kvs,H p=some (.dK kvs))\/∃kvs,H p=some (.dT kvs)))\/(T="set"/\∃S n,H p=some (.set S n))
 |_=>False
theorem Md(I:Inv X pins σ H s)(r:RelV x v)(ty:tyV X.K T x H):
 s.TypeIs v T/\∀a,v= .ref a->∃ob,s.heap.get? a=some ob/\ob.dict=none:=by
 cases x with
 |str z=>
  obtain⟨t,rfl⟩:=r
  cases(show T="str" from ty)
  exact⟨typeIs_str s z t,λ_ e=>nomatch e⟩
 |int i=>
  obtain⟨t,rfl⟩:=r
  cases(show T="int" from ty)
  exact⟨typeIs_int s i t,λ_ e=>nomatch e⟩
 |ref p=>
  cases r
  rcases ty with⟨rfl,xs,hq⟩|⟨rfl,o,hk,hc,hd⟩|⟨rfl,hk⟩|⟨rfl,S,n,hk⟩
  ·obtain⟨its,_,pl,_⟩:=I.list hq;refine⟨pl.isList.typeIs,λa e=>?_⟩
   cases e
   obtain⟨o,n,e,c,hd,_⟩:=pl;exact⟨o,e,hd⟩
  ·refine⟨⟨o,I.kIn p o hk,hc⟩,λa e=>?_⟩
   cases e
   exact⟨o,I.kIn _ o hk,hd⟩
  ·have z:∃o,s.heap.get? p=some o/\o.ExactDict:=by
    rcases hk with⟨kvs,hk⟩|⟨kvs,hk⟩
    ·obtain⟨_,_,_,_,o,_,_,e,ex,_⟩:=I.hok p _ hk;exact⟨o,e,ex⟩
    ·obtain⟨_,_,_,_,o,_,_,e,ex,_⟩:=I.hok p _ hk;exact⟨o,e,ex⟩
   obtain⟨o,e,ex⟩:=z;refine⟨⟨o,e,ex.1⟩,λa e2=>?_⟩
   cases e2
   exact⟨o,e,ex.2.1⟩
  ·obtain⟨o,_,_,_,e,ex,_⟩:=I.hok p _ hk;refine⟨⟨o,e,ex.1⟩,λa e2=>?_⟩
   cases e2
   exact⟨o,e,ex.2.1⟩
 |_=>exact False.elim ty
def GL(K:W.Frag)(T:String)(r:V->List V->Hp->VK->Prop)(to:TE):TE:=λσ H Q=>to σ H λx H1=>tyV K T x H1/\r x [] H1 Q
def tBM(K:W.Frag)(T:String)(r:V->List V->Hp->VK->Prop)(to:TE)(t:TA):TE:=λσ H Q=>to σ H λx H1=>tyV K T x H1/\t σ H1 λxs H2=>r x xs H2 Q
variable{o:Expr}{t:TA}{id:String}{r:V->List V->Hp->VK->Prop}
theorem VR(pa:PlainAttrs T)(slot:Slot T name id)(hty:typeOf (.builtin id)=pure (.type "method_descriptor"))(hm:MtR X id r)(ho:PE X o to)
 (hbase:attributeBase o name X.env (eval o X.env)=eval o X.env:=by rfl) (hline:(apos.endLine==cpos.line)=true:=by rfl):PE X (.Call (.Attribute o name apos) [] [] cpos) (GL X.K T r to):=by
 intro pins s σ H Q I h;refine wpAny_Call_method0_late hbase hline (thn (ho pins s σ H _ I h) λv s1 ⟨x,H1,I1,r1,ty,q1⟩=>?_);obtain⟨h1,h2⟩:=Md I1 r1 ty;exact⟨T,id,pa,slot,hty,h1,h2,Calls.callWith_builtin rfl (PySem.evalArgs_none (hm pins s1 σ H1 x [] v [] Q I1 r1 .nil q1))⟩
theorem WV(pa:PlainAttrs T)(slot:Slot T name id)(hty:typeOf (.builtin id)=pure (.type "method_descriptor"))(hm:MtR X id r)(ho:PE X o to)(ha:PA X (e::es) t)
 (hbase:attributeBase o name X.env (eval o X.env)=eval o X.env:=by rfl)
 (hfew:((backTo cpos (starEach (e::es) X.env)).all (λx=> !x.1)&&(backToKw cpos (keywordEach [] X.env)).all (λx=>x.1.isSome)
   &&decide ((e::es).length+([]:List Keyword).length+(if([]:List Keyword).isEmpty then 0 else 1)<30))=true:=by rfl)
 (hline:(apos.endLine==cpos.line)=true:=by rfl) (hs:starEach (e::es) X.env=(false,eval e X.env)::starEach es X.env:=by rfl) (hplain:(backTo cpos (starEach es X.env)).any (·.1)=false:=by rfl):
 PE X (.Call (.Attribute o name apos) (e::es) [] cpos) (tBM X.K T r to t):=by
 intro pins s σ H Q I h;refine wpAny_Call_method_late hbase hfew hline rfl (thn (ho pins s σ H _ I h) λv s1 ⟨x,H1,I1,r1,ty,q1⟩=>?_);obtain⟨h1,h2⟩:=Md I1 r1 ty;refine⟨T,id,pa,slot,hty,h1,h2,?_⟩;have hA:=ha cpos pins s1 σ H1 _ I1 q1;rw[hs]at hA⊢;refine Calls.callWith_builtin (by show(false||(backTo cpos (starEach es X.env)).any (·.1))=false;rw[hplain]<;>rfl) (Calls.evalArgs_plain ?_);exact thn hA λus s2 ⟨vs,H2,I2,r2,q2⟩=>hm pins s2 σ H2 x vs v us Q I2 r1 r2 q2
end
def MtM(X:Cx)(id:String)(r:V->List V->Hp->VK->Prop):Prop:=
 ∀ (pins:List (Addr×Obj)) (s:Shared) (σ:W2) (H:Hp) (x:V) (xs:List V) (v:Value) (us:List Value) (Q:VK),Inv X pins σ H s->RelV x v->Vals xs us->r x xs H Q->
   wpAny (model X.prog X.w) X.A (call (.builtin id) (v::us)) (EP X pins σ Q) X.xe s
theorem Vals.one:∀ {x:V} {us:List Value},Vals [x] us->∃u,us=[u]/\RelV x u
 |_,_, .cons r .nil=>⟨_,rfl,r⟩
theorem Vals.zero:∀ {us:List Value},Vals [] us->us=[]
 |_, .nil=>rfl
theorem Vals.dropLast(h:Vals xs us):Vals xs.dropLast us.dropLast:=by
 induction h with
 |nil=>exact .nil
 |cons r t ih=>
  cases t with
  |nil=>exact .nil
  |cons q t'=>exact .cons r ih
theorem Vals.rep(h:Vals xs us):∀k:Nat,Vals (List.replicate k xs).flatten (List.replicate k us).flatten
 |0=> .nil
 |k+1=>by
  rw[List.replicate_succ,List.replicate_succ,List.flatten_cons,List.flatten_cons];exact Vals.append h (Vals.rep h k)
theorem QP(l:List α):l.eraseIdx (l.length-1)=l.dropLast:=by
 induction l with
 |nil=>rfl
 |cons a r ih=>
  cases r with
  |nil=>rfl
  |cons b r=>
   have e:(a::b::r).length-1=((b::r).length-1)+1:=by
    have h1:(a::b::r).length=r.length+2:=rfl;have h2:(b::r).length=r.length+1:=rfl;lia
   rw[e,List.eraseIdx_cons_succ,ih]
   all_goals rfl
theorem Kj(its:List Value):∀ (k:Nat) (acc:List Value),
 List.foldl (λx1 x2=>x1++x2) acc.toArray (List.replicate k its.toArray)=(acc++(List.replicate k its).flatten).toArray
 |0,acc=>by simp
 |k+1,acc=>by
  have e:acc.toArray++its.toArray=(acc++its).toArray:=by simp
  have e2:(acc++its)++(List.replicate k its).flatten=acc++(List.replicate (k+1) its).flatten:=by
   rw[List.replicate_succ,List.flatten_cons,List.append_assoc]
  rw[<-e2,<-Kj its k (acc++its),<-e,List.replicate_succ,List.foldl_cons]
section
variable{l b:Addr}{zs:List V}
theorem Inv.lset(I:Inv X pins σ H s)(hH:H l=some (.lst xs))
 (e:s.heap.get? l=some {cls:= .type "list",data:= .seq its.toArray n}) (hf:f its.toArray=its'.toArray) (hv:Vals ys its') (hz:ys.length<=sizeLine):
 Inv X pins σ (upd H l (.lst ys)) {s with heap:=s.heap.update l (Obj.mapSeq f),toks:=t'}:=by
 have q:=PySem.IsL.update e f;rw[hf]at q;refine I.write (x:=l) (e:=l) (by rw[hH];exact trivial) (.inl rfl) (λb' u hb hu=>(Heap.get?_update_other s.heap (Obj.mapSeq f) (Ne.symm hb)).trans hu) ⟨_,q⟩ ?_;exact⟨hz,its',_,hv,q⟩
theorem Inv.lnew(I:Inv X pins σ H s)(hv:Vals ys its)(hz:ys.length<=sizeLine):
 Inv X pins σ (upd H s.heap.objs.size (.lst ys)) {s with heap:=s.heap.push {cls:= .type "list",data:= .seq its.toArray},toks:=t'}:=
 I.laid (λ_ _ q=>Heap.get?_push_of_some _ q) (Nat.le_refl _) ⟨hz,its,0,hv,Heap.get?_push_size _ rfl⟩
theorem Inv.fresh(I:Inv X pins σ H s):H s.heap.objs.size=none:=I.hok.fresh (Nat.le_refl _)
theorem Inv.lstM(I:Inv X pins σ H s)(hH:H l=some (.lst xs)):xs.length<=sizeLine/\∃ (its:List Value) (n:Nat),Vals xs its/\xs.length=its.length/\s.heap.get? l=some {cls:= .type "list",data:= .seq its.toArray n}:=by
 obtain⟨z,its,n,r,e⟩:=I.hok l _ hH;exact⟨z,its,n,r,r.length,e⟩
theorem R5(h:n<=sizeLine):Builtin.List.listTooLong n=false:=by
 unfold Builtin.List.listTooLong;exact decide_eq_false (by lia)
end
def rAppend:V->List V->Hp->VK->Prop:=λx vs H Q=>∃l xs y,x= .ref l/\vs=[y]/\H l=some (.lst xs)/\xs.length<sizeLine/\Q .non (upd H l (.lst (xs++[y])))
theorem CI:MtM X "list.append" rAppend:=by
 intro pins s σ H x vs v us Q I rx rv h;obtain⟨l,xs,y,rfl,rfl,hH,hz,q⟩:=h
 cases rx
 obtain⟨u,rfl,ru⟩:=rv.one;obtain⟨z,its,n,r,hl,e⟩:=I.lstM hH;refine call_meets F.slot_list_append ⟨_,e,rfl⟩ F.entry_list_append (F.args_list_append_2 _ _) (PySem.list_append l its.toArray n u (by rw[List.size_toArray];lia)) ⟨e,?_⟩;refine⟨.non,_,I.lset (its':=its++[u]) hH e (by simp) (r.append (.cons ru .nil)) ?_,rfl,q⟩;rw[List.length_append,List.length_singleton];lia
def rPop:V->List V->Hp->VK->Prop:=λx vs H Q=>∃l xs y,x= .ref l/\vs=[]/\H l=some (.lst xs)/\xs[xs.length-1]? =some y/\Q y (upd H l (.lst xs.dropLast))
theorem F4:MtM X "list.pop" rPop:=by
 intro pins s σ H x vs v us Q I rx rv h;obtain⟨l,xs,y,rfl,rfl,hH,hy,q⟩:=h
 cases rx
 have hus:=rv.zero;subst hus;obtain⟨z,its,n,r,hl,e⟩:=I.lstM hH;obtain⟨u,hu,ru⟩:=r.get hy;have hy':its.toArray[its.toArray.size-1]? =some u:=by
  show its.toArray[its.length-1]? =some u;rw[<-Array.getElem?_toList,<-hl];exact hu
 refine call_meets F.slot_list_pop ⟨_,e,rfl⟩ F.entry_list_pop (F.args_list_pop_1 _) (MeetsSeq.list_pop_last l its.toArray n u hy' (by rw[List.size_toArray];lia)) ⟨e,?_⟩;refine⟨y,_,I.lset (its':=its.dropLast) hH e ?_ r.dropLast ?_,ru,q⟩
 ·show its.toArray.eraseIdxIfInBounds (its.toArray.size-1)=its.dropLast.toArray;rw[List.size_toArray,List.eraseIdxIfInBounds_toArray,QP]
 ·rw[List.length_dropLast];lia
def rCat:R2:=λx y H Q=>∃l b xs zs,x= .ref l/\y= .ref b/\H l=some (.lst xs)/\H b=some (.lst zs)/\xs.length+zs.length<=sizeLine/\∀p,H p=none->Q (.ref p) (upd H p (.lst (xs++zs)))
theorem VY:OpR X (binaryOp .Add) rCat:=by
 intro pins s σ H x y v u Q I rx ry h;obtain⟨l,b,xs,zs,rfl,rfl,hH,hB,hz,q⟩:=h
 cases rx
 cases ry
 obtain⟨z,its,n,r,hl,e⟩:=I.lstM hH;obtain⟨z2,its2,n2,r2,hl2,e2⟩:=I.lstM hB;refine PySem.P.add_list e e2 ?_ (by rw[List.size_toArray,List.size_toArray];lia);have ea:its.toArray++its2.toArray=(its++its2).toArray:=by simp
 rw[ea];exact⟨.ref _,_,I.lnew (t':=s.toks) (r.append r2) (by rw[List.length_append];lia),rfl,q _ I.fresh⟩
def rRep:R2:=λx y H Q=>∃l k xs,x= .ref l/\y= .int k/\H l=some (.lst xs)/\ -(2^63)<=k/\k<2^63/\xs.length*k.toNat<=sizeLine/\
 ∀p,H p=none->Q (.ref p) (upd H p (.lst (List.replicate k.toNat xs).flatten))
theorem UF(xs:List α)(k:Nat):(List.replicate k xs).flatten.length=k*xs.length:=by
 induction k with
 |zero=>simp
 |succ k ih=>rw[List.replicate_succ,List.flatten_cons,List.length_append,ih,Nat.succ_mul,Nat.add_comm]
theorem op_rep:OpR X (binaryOp .Mult) rRep:=by
 intro pins s σ H x y v u Q I rx ry h;obtain⟨l,k,xs,rfl,rfl,hH,h1,h2,hz,q⟩:=h
 cases rx
 obtain⟨t,rfl⟩:=ry;obtain⟨z,its,n,r,hl,e⟩:=I.lstM hH;have hlen:its.toArray.size*k.toNat<=sizeLine:=by rw[List.size_toArray,<-hl];exact hz
 have hcap:¬its.toArray.size*k.toNat>(2^63-1)/8:=by
  have:(sizeLine:Nat)<=(2^63-1)/8:=by decide
  lia
 have hfit:¬ (!Builtin.List.listFitsIndex k)=true:=by
  rw[fitsIndex_both h1 h2];exact Bool.false_ne_true
 have hlong:¬Builtin.List.listTooLong (its.toArray.size*k.toNat)=true:=by
  rw[R5 hlen];exact Bool.false_ne_true
 have hnew:List.foldl (λx1 x2=>x1++x2) #[] (List.replicate (if its.toArray.isEmpty=true then 0 else k.toNat) its.toArray)=(List.replicate k.toNat its).flatten.toArray:=by
  have f0:∀m:Nat,List.foldl (λx1 x2=>x1++x2) #[] (List.replicate m its.toArray)=(List.replicate m its).flatten.toArray:=λm=>by
   have:=Kj its m [];rw[List.nil_append]at this;exact this
  rw[f0]
  cases its with
  |nil=>simp
  |cons a r'=>rw[if_neg (by simp)]
 refine wpAny_binaryOp_repeat_ref (T:="list") (U:="int") (by decide) ⟨_,e,rfl⟩ (λs'=>typeIs_int s' k t) noFill_list_mul F.fills_int_mul F.slot_int_rmul repeat_list F.slot_int_index.lookup
  (call_meets F.slot_int_rmul (typeIs_int s k t) F.entry_int_rmul (F.args_int_rmul_2 _ _) (int___rmul___int_list k t l its.toArray n)
    ⟨e,rfl,⟨_,e,rfl⟩,call_meets F.slot_list_mul ⟨_,e,rfl⟩ F.entry_list_mul (F.args_list_mul_2 _ _) (AutoListH.list___mul___list_int_3 l its.toArray n k t hfit hcap hlong) ⟨e,?_⟩⟩)
 rw[hnew];exact⟨.ref _,_,I.lnew (t':=s.toks) (r.rep k.toNat) (by rw[UF,Nat.mul_comm];exact hz),rfl,q _ I.fresh⟩
end L2
namespace Att
open PySem.W PySem.Calls
variable{P:Params}{q:Program}
theorem Ol:∀ (ns:List Int) (vs:List Value),WellAll P h vs (ns.map WData.int)->IntsAre vs ns:=by
 intro ns
 induction ns with
 |nil=>
  intro vs w;rw[List.map_nil]at w
  cases w
  exact .nil
 |cons n ns ih=>
  intro vs w;rw[List.map_cons]at w
  cases w with
  |cons a b=>
   cases a
   exact .cons _ _ (ih _ b)
theorem Qd{l:OpenLaw}(hn:l.most=some n)
 (hpre:l.row.toRowW.claim.pre args=true) (hwl:WellAll P h vals args):
 ∃a vs ns,vals=[Value.ref a]/\args=[WData.list (ns.map WData.int)]/\h.get? a=some {cls:= .type "list",data:= .seq vs.toArray}/\IntsAre vs ns/\ns.length<=n:=by
 have hsh:WShape.hasAll [] args [.list .int]=true:=(pre_splitW hpre).1;have hc:l.pre.holds [] {args:=args}=true:=(pre_splitW hpre).2;obtain⟨d,r,rfl,h1,h2⟩:=hasAllW_cons hsh;obtain rfl:=hasAllW_nil h2;obtain⟨xs,rfl,h3⟩:=hasW_list h1;obtain⟨ns,rfl⟩:=items_int h3;have hlen:ns.length<=n:=by
  unfold OpenLaw.pre at hc;have h4:(WTm.not (.lt (.lit (.int (n:Int))) (.len (.arg 0)))).holds [] {args:=[.list (ns.map .int)]}=true:=by
   have h4:=(holds_andW hc).1;rw[hn]at h4;exact h4
  have h5:=condW_of h4 (w_not (w_lt w_lit (w_len_list (w_arg rfl))));rw[List.length_map]at h5;refine Nat.le_of_not_lt λq=>?_;have q':(n:Int)<((ns.length:Nat):Int):=by lia
  first
   |(rw[decide_eq_true q']at h5;exact absurd h5 (by decide))
   |(simp at h5;lia)
 cases hwl with
 |cons w1 w2=>
  cases w2
  cases w1 with
  |list ho hall=>exact⟨_,_,ns,rfl,rfl,ho,Ol ns _ hall,hlen⟩
theorem Qh(l:OpenLaw)(args:List WData):l.row.toRowW.claim.post args (.bool true) args=true:=
 postW_of (r:=l.row.toRowW) (X:=(true==true))
  (show WShape.has [] (.bool true) .bool=true by first|rfl|decide|simp[WShape.has,WShape.arms,WShape.armsAll])
  (show(WTm.eq .res (.lit (.bool true))).value [] {args:=args,res:=some (.bool true),after:=args}=some (.bool (true==true))from w_eq_bool (w_res rfl) w_lit) rfl
theorem attach_call{l:OpenLaw}
 (hn:l.most=some n) (hdf:d.params.defaults=[])
 (call:∀ (w:World) (s₀ s₁:Shared) (mg mb:Str->Option Value) (fa:Addr) (o:Obj) (pm cd doc:Value) (a:Addr) (vs:List Value) (ns:List Int),
   Ground q loose [] XP w s₀ mg mb s₁.heap->YP w s₁.heap->
   s₁.heap.get? fa=some o->o.data= .func (docDef d.name d.params d.body d.scope pm cd doc)->s₁.heap.CodeRec cd d.name->mg d.name=some (.ref fa)->
   s₁.heap.get? a=some {cls:= .type "list",data:= .seq vs.toArray}->IntsAre vs ns->ns.length<=n->s₁.gens= #[]->
   codeAny (model l.prog w) callerA (.call (.ref fa) ⟨[.ref a],[]⟩) (λr s'=>r= .ok (.ret (.bool true))/\OldK s₁.heap s'.heap/\s'.os=s₁.os/\AllBare s'.gens) s₁):
 WalkO q loose XP YP l.row.toRowW d [] (λf vs=>PySem.call f vs):=by
 intro w s₀ s₁ mg mb G Y fa o pm cd doc dV kV ho hd hcd hD hmg hg args vals as hpre hlay hrd hwl hlo;obtain rfl:dV= .none:=Dflts.none hD hdf;obtain rfl:kV= .none:=Dflts.noKw hD;obtain⟨a,vs,ns,rfl,rfl,hobj,hints,hlen⟩:=Qd hn hpre hwl;refine enter_call (codeAny_mono (call w s₀ s₁ mg mb fa o pm cd doc a vs ns G Y ho (fd_plain hd) hcd hmg hobj hints hlen hg) λr s' hq=>?_);obtain⟨rfl,h2,h3,h4⟩:=hq;exact⟨.inl ⟨.bool true, .bool true,[],rfl,λ_=>rfl, .bool true,Qh l _,λ_=>⟨List.Pairwise.nil,λ_ hm=>(nomatch hm)⟩⟩,h2,h3,h4⟩
end Att
open Att
namespace L2
variable{a f:Addr}{ps:List Str}{K:Params->W.Frag}{P q:Program}{A:Prop}{sp:Sp}{st:Stmt}{CX:World->CXT}
theorem HF:∀ {vs:List Value} {ns:List Int},IntsAre vs ns->Vals (ns.map V.int) vs
 |_,_, .nil=> .nil
 |_,_, .cons n t h=> .cons ⟨t,rfl⟩ (HF h)
def Jr(H:Hp):Prop:=∀b,H b=none\/∃o xs,H b=some (.frz o (.lst xs))
theorem SA{K:W.Frag}{mb:Str->Option Value}{CX:CXT}{k:Nat}
 (KX:K.In s₁.heap) (hns:s₁.heap.Ns mainGlobals mg) (hb:s₁.heap.Ns builtinsNs mb) (hbb:∀x:Str,x≠"__name__"->mb x=bootBuiltins x) (hlim:s₁.heap.NoLimit) (hg:s₁.gens= #[])
 (ha:s₁.heap.get? a=some {cls:= .type "list",data:= .seq vs.toArray}) (hi:IntsAre vs ns) (hl:ns.length<=sizeLine) (hr:Room k callerA)
 (F:∀base:Heap,K.In base->base.Ns mainGlobals mg->FnOk P w K mg base CX k fa fd [x] sp) (hbind:∀ (s:Shared) (u:Value),BindsTo s fd ⟨[u],[]⟩ [(x,u)])
 (hsp:∀H:Hp,Jr H->SqL K H a (ns.map V.int)->sp [.ref a] H (λv _=>v= .bl true) λ_ _ _=>False)
 (hCX:∀H e s',CX [] H s₁ (λ_ _ _=>False) e s'->False):
 codeAny (model P w) callerA (.call (.ref fa) ⟨[.ref a],[]⟩) (λr s'=>r= .ok (.ret (.bool true))/\OldK s₁.heap s'.heap/\s'.os=s₁.os/\AllBare s'.gens) s₁:=by
 have rv:=HF hi;have lenV:=hi.length;have core:∀H:Hp,Jr H->SqL K H a (ns.map V.int)->HOk P w H s₁.heap->(∀b,H b≠none->b=a)->(H a≠none->K.lookup a=none)->
  codeAny (model P w) callerA (.call (.ref fa) ⟨[.ref a],[]⟩) (λr s'=>r= .ok (.ret (.bool true))/\OldK s₁.heap s'.heap/\s'.os=s₁.os/\AllBare s'.gens) s₁:=by
  intro H hO hS hok hA hK;have base_of:∀ {b:Addr} {o:Obj},s₁.heap.get? b=some o->H b=none->(Cp s₁.heap H).get? b=some o:=λe n=>SJ e n;have noA:∀ {b:Addr} {o:Obj} {es:Array DictEntry} {ep:Nat},s₁.heap.get? b=some o->o.data= .dict es ep->H b=none:=fun{b o es ep} e d=>by
   cases q:H b with
   |none=>rfl
   |some u=>
    have e':b=a:=hA b (by rw[q];simp);subst e';rw[ha]at e;cases e;have d':Data.seq vs.toArray _=Data.dict es ep:=d
    cases d'
  have nsK:∀ {b:Addr} {m:Str->Option Value},s₁.heap.Ns b m->(Cp s₁.heap H).Ns b m:=fun{b m} ⟨o,es,ep,e,d,r⟩=>⟨o,es,ep,base_of e (noA e d),d,r⟩;have hKb:K.In (Cp s₁.heap H):=λb o e=>base_of (KX b o e) (by
   cases q:H b with
   |none=>rfl
   |some u=>
    have e':b=a:=hA b (by rw[q];simp);subst e';rw[hK (by rw[q];simp)]at e;cases e)
  have hM:Mod K mg (Cp s₁.heap H):=⟨hKb,nsK hns,⟨mb,nsK hb,hbb⟩,let⟨mc,h1,h2⟩:=hlim;⟨mc,nsK h1,h2⟩⟩;have e0:Env0 P w K mg (Cp s₁.heap H) callerA [] s₁ H:=⟨rfl,hM,λb o e=>T6 e,Nat.le_of_eq (Q9 _ _),trivial,λb hb=>absurd (show b∈([]:List Addr)from hb) (by simp),hok, .of_eq hg⟩;refine codeAny_mono ((F _ hKb (nsK hns)).run callerA [] s₁ H ⟨[.ref a],[]⟩ [.ref a] [.ref a] _ _ hr e0 (hbind s₁ (.ref a)) (.cons rfl .nil) (hsp H hO hS)) λr s' h=>?_
  cases r with
  |error e=>exact(hCX H e s' h).elim
  |ok fl=>
   cases fl with
   |next=>exact False.elim h
   |brk=>exact False.elim h
   |cont=>exact False.elim h
   |ret u=>
    obtain⟨v,H',os,bare,un,hok',r',q⟩:=h;have q':v= .bl true:=q;subst q';obtain rfl:u=Value.bool true:=r';refine⟨rfl,OldK.of_keep λb o e=>?_,os,bare⟩
    cases q:H b with
    |none=>exact un.keep b o e q (by intro z;exact absurd (show b∈([]:List Addr)from z) (by simp)) (by simp)
    |some u=>
     rcases hO b with z|⟨ob,xs,z⟩
     ·rw[q]at z;cases z
     ·have z2:=un.frzs b ob _ z;obtain⟨e1,_⟩:=hok b _ z;obtain⟨e2,_⟩:=hok' b _ z2;rw[e]at e1;cases e1;exact e2
 cases hk:K.lookup a with
 |some o=>
  have e:=KX a o hk;rw[ha]at e
  cases e
  refine core (λ_=>none) (λ_=> .inl rfl) (.inr ⟨_,vs.toArray,_,hk,rfl,rfl,rfl,by rw[List.size_toArray,lenV];exact hl,by simpa using rv⟩) ⟨(λb u z=>by have z':(none:Option HO)=some u:=z;cases z'),(λu z=>nomatch (show(none:Option HO)=some u from z)),let⟨o,_,_,e,_⟩:=hns;⟨mainGlobals,o,by decide,e⟩⟩ (λb z=>absurd rfl z) λz=>absurd rfl z
 |none=>
  refine core (λb=>if b=a then some (.frz {cls:= .type "list",data:= .seq vs.toArray} (.lst (ns.map V.int)))else none) (λb=>?_) (.inl (.inr ⟨{cls:= .type "list",data:= .seq vs.toArray},if_pos rfl⟩)) ⟨λb u z=>?_,(λu z=>by
   by_cases hb:sysModules=a
   ·have z':=(if_pos hb).symm.trans z
    cases z';exact⟨_,_,rfl⟩
   ·have z':=(if_neg hb).symm.trans z
    cases z'),let⟨o,_,_,e,_⟩:=hns;⟨mainGlobals,o,by decide,e⟩⟩ (λb z=>?_) λ_=>hk
  ·by_cases hb:b=a
   ·exact .inr ⟨_,_,if_pos hb⟩
   ·exact .inl (if_neg hb)
  ·by_cases hb:b=a
   ·have z':=(if_pos hb).symm.trans z
    cases z'
    subst hb;exact⟨ha,by rw[List.length_map];exact hl,vs,_,rv,ha⟩
   ·have z':=(if_neg hb).symm.trans z
    cases z'
  ·by_cases hb:b=a
   ·exact hb
   ·exact absurd (if_neg hb) z
theorem walk_of{l:W.OpenLaw}{k:Nat}{sp:World->Sp}
 (hn:l.most=some n) (hn2:n<=sizeLine) (hdf:d.params.defaults=[]) (hr:Room k callerA)
 (hY:∀ (w:World) (h:Heap),YP w h->(K w.params).In h)
 (F:∀ (w:World) (mg:Str->Option Value) (fa:Addr) (h:Heap),(K w.params).In h->h.Ns mainGlobals mg->mg d.name=some (.ref fa)->
   ∃fd:FuncData,(∀ (s:Shared) (u:Value),BindsTo s fd ⟨[u],[]⟩ [(x,u)])/\
    ∀base:Heap,(K w.params).In base->base.Ns mainGlobals mg->FnOk l.prog w (K w.params) mg base (CX w) k fa fd [x] (sp w))
 (hsp:∀ (w:World) (H:Hp) (a:Addr) (ns:List Int),ns.length<=n->Jr H->SqL (K w.params) H a (ns.map V.int)->sp w [.ref a] H (λv _=>v= .bl true) λ_ _ _=>False)
 (hCX:∀ (w:World) (H:Hp) (s:Shared) (e:Value) (s':Shared),CX w [] H s (λ_ _ _=>False) e s'->False):
 W.WalkO q loose XP YP l.row.toRowW d [] (λf vs=>PySem.call f vs):=by
 refine Att.attach_call hn hdf λw s₀ s₁ mg mb fa o pm cd doc a vs ns G Y ho hd hcd hmg hobj hints hlen hg=>?_;have KX:=hY w _ Y;obtain⟨fd,hb,hF⟩:=F w mg fa _ KX G.T.g hmg;exact SA KX G.T.g G.T.b G.T.builtins G.T.nolimit hg hobj hints (Nat.le_trans hlen hn2) hr hF hb (λH hO hS=>hsp w H a ns hlen hO hS) λH e s'=>hCX w H s₁ e s'
def inClass(s:Stmt)(j:Nat):Stmt:=match s with
 | .ClassDef _ _ _ body _ _ _ _ _ _ _=>body.getD j (.Pass ⟨0,0,0,0⟩)
 |_=> .Pass ⟨0,0,0,0⟩
def Bc(s:Stmt):Arguments:=match s with
 | .FunctionDef _ a _ _ _ _ _ _ _ _=>a
 |_=>{posonlyargs:=[],args:=[],vararg:=none,kwonlyargs:=[],kw_defaults:=[],kwarg:=none,defaults:=[]}
def BH(s:Stmt):List Stmt:=match s with
 | .FunctionDef _ _ b _ _ _ _ _ _ _=>b
 |_=>[]
def AK(s:Stmt):Scope:=match s with
 | .FunctionDef _ _ _ _ _ _ sc _ _ _=>sc
 |_=>{kind:= .function,names:=[],isGenerator:=false,isCoroutine:=false}
abbrev CX0:CXT:=λ_ _ _ _ _ _=>False
abbrev E0:XK:=λ_ _ _=>False
theorem GB:DR CX0 X E0:=λ_ _ _ _ _ _ _ h=>h.elim
structure Fun (K:W.Frag) (x qual:Str) (st:Stmt) (f:Addr) (fd:FuncData):Prop where
 ex:∃ (oc:Value) (od:Option Addr) (kV doc pm:Value) (an:Option Addr) (cdv ct:Value) (osl:Array (Option Value)),
  fd=W.fnOf x qual (Bc st) (BH st) (AK st) .none kV doc pm an cdv ct/\K.lookup f=some ⟨oc,od, .func fd,osl⟩/\W.codeIn K cdv qual=true
 kp:W.keepIn K (.ref f)=true
section
variable{K:W.Frag}
theorem Fun.ok{k:Nat}(F:Fun K x qual st f fd)(S:FnScope N ps (AK st))(len:∀vs H Q E,sp vs H Q E->vs.length=ps.length)
 (hbody:∀ (cdv:Value) (A:Around) (outer:List Env) (s:Shared) (H:Hp) (vs:List V) (Q:VK) (E:XK),Room k (A.deeper (envOfC qual (AK st) s.heap.objs.size f cdv))->sp vs H Q E->
   ∃t,PSs (DX CX0 P w K mg base N qual (AK st) f cdv A outer s H E).nox (BH st) t/\t {nx:=λ_ H'=>Q .non H',rt:=Q} (start N vs) H):FnOk P w K mg base CX0 (k+1) f fd ps sp:=by
 obtain⟨oc,od,kV,doc,pm,an,cdv,ct,osl,rfl,lk,hcd⟩:=F.ex;refine NZ lk hcd S len λA outer s H vs Q E hr hsp=>?_;obtain⟨t,h,q⟩:=hbody cdv A outer s H vs Q E hr hsp;exact⟨t,h.nox,q⟩
theorem Fun.binds(F:Fun K x qual st f fd)
 (h:∀ (kV doc pm:Value) (an:Option Addr) (cdv ct:Value) (us:List Value),us.length=ps.length->bindArgs (W.fnOf x qual (Bc st) (BH st) (AK st) .none kV doc pm an cdv ct) ⟨us,[]⟩=pure (ps.zip us)):Binds K fd ps []:=by
 obtain⟨oc,od,kV,doc,pm,an,cdv,ct,osl,rfl,lk,hcd⟩:=F.ex;exact .all (h kV doc pm an cdv ct)
theorem Dx{kV:Value}(l:K.lookup f=some ⟨oc,od, .func (W.fnOf x qual (Bc st) (BH st) (AK st) .none kV doc pm an cdv ct),osl⟩)
 (c:W.codeIn K cdv qual=true) (k:W.keepIn K (.ref f)=true):Fun K x qual st f (W.fnOf x qual (Bc st) (BH st) (AK st) .none kV doc pm an cdv ct):=⟨⟨oc,od,kV,doc,pm,an,cdv,ct,osl,rfl,l,c⟩,k⟩
end
theorem DD(h:n<=1000):n<sizeLine:=Nat.lt_of_le_of_lt h (by decide)
theorem pv(i:Nat){pos:Pos}(hN:X.N[i]? =some x:=by rfl)(hv:Vis X.env.scope x:=by first|exact Or.inl rfl|exact Or.inr (Or.inl rfl)|exact Or.inr (Or.inr rfl))(hd:(x==("__debug__":Str))=false:=by decide)
 (hcd:(x==("__classdict__":Str))=false:=by decide):PE X (.Name x pos) (Ah i):=VM hN hv hd hcd
theorem EF(h:B):if false=true then A else B:=by
 rw[if_neg Bool.false_ne_true];exact h
theorem EE(h:A):if true=true then A else B:=by
 rw[if_pos rfl];exact h
def Same(H H':Hp):Prop:=∀b o,H b=some o->H' b=some o
theorem Same.refl(H:Hp):Same H H:=λ_ _ h=>h
theorem Same.trans(a:Same H H1)(b:Same H1 H2):Same H H2:=λc o h=>b c o (a c o h)
theorem Same.free(e:Same H H'){l:Addr}(h:H' l=Option.none):H l=Option.none:=by
 cases q:H l with
 |none=>rfl
 |some o=>
  rw[e l o q]at h
  cases h
theorem Same.seq{K:W.Frag}{xs:List V}(e:Same H H')(h:SqL K H a xs):SqL K H' a xs:=by
 rcases h with(h|⟨o,h⟩)|h
 ·exact .inl (.inl (e _ _ h))
 ·exact .inl (.inr ⟨o,e _ _ h⟩)
 ·exact .inr h
end L2
set_option maxHeartbeats 8000000
namespace L2
variable{a e:Addr}{its:Array Value}{c:Bool}{R:Bool->Hp->Prop}{D:Ends}{o:Expr}{i j:Int}{f:Int->Int->Int}{C:Int->Int->Prop}{es:List Expr}{b:List Nat}{ps:List Str}{xs ys:List V}{p:Pos}{P:Program}{A:Prop}{sp:Sp}{T:String}{t ta:TA}{tb:TE}{g:TG}{v x:V}{r:V->List V->Hp->VK->Prop}{Q:VK}{σ:W2}{Pv:W2->Hp->Prop}
theorem Ib:∀ (ns:List (Str×NameKind)) (acc:List (Str×Addr)),(∀y∈ns,y.2= .free->∃c,env.cells.lookup y.1=some c)->(∀x c,acc.lookup x=some c->env.cells.lookup x=some c)->
 ∃cl,(forIn ns acc fun(y:Str×NameKind) cs=>(if(y.2== .free)=true then(do let c<-cellOf env y.1;pure (ForInStep.yield ((y.1,c)::cs)))else pure (ForInStep.yield cs):Sem (ForInStep (List (Str×Addr)))))=pure cl/\
  (∀x c,cl.lookup x=some c->env.cells.lookup x=some c)/\(∀y∈ns,y.2= .free->∃c,cl.lookup y.1=some c)/\∀x c,acc.lookup x=some c->∃c',cl.lookup x=some c'
 |[],acc,_,ha=>⟨acc,rfl,ha,(λ_ h=>nomatch h),λx c e=>⟨c,e⟩⟩
 |(n,k)::r,acc,hf,ha=>by
  rw[List.forIn_cons]
  by_cases hk:k= .free
  ·subst hk;obtain⟨c,hc⟩:=hf (n, .free) List.mem_cons_self rfl;have hcell:cellOf env n=pure c:=by unfold cellOf;rw[hc]
   have ha':∀x c',List.lookup x ((n,c)::acc)=some c'->env.cells.lookup x=some c':=λx c' e=>by
    rw[List.lookup_cons]at e
    cases hx:x==n with
    |true=>rw[hx]at e;simp at e;subst e;rw[eq_of_beq hx];exact hc
    |false=>rw[hx]at e;exact ha x c' e
   obtain⟨cl,e1,e2,e3,e4⟩:=Ib r ((n,c)::acc) (λy hy=>hf y (List.mem_cons_of_mem _ hy)) ha';refine⟨cl,?_,e2,λy hy hyf=>?_,λx c' e=>?_⟩
   ·simp only[beq_self_eq_true,if_true,hcell,pure_bind];exact e1
   ·rcases List.mem_cons.mp hy with rfl|hy
    ·exact e4 n c (by simp[List.lookup_cons])
    ·exact e3 y hy hyf
   ·cases hx:x==n with
    |true=>rw[eq_of_beq hx];exact e4 n c (by simp[List.lookup_cons])
    |false=>exact e4 x c' (by rw[List.lookup_cons,hx];exact e)
  ·have hb:(k==NameKind.free)=false:=by simpa using hk
   obtain⟨cl,e1,e2,e3,e4⟩:=Ib r acc (λy hy=>hf y (List.mem_cons_of_mem _ hy)) ha;refine⟨cl,?_,e2,λy hy hyf=>?_,e4⟩
   ·simp only[hb,Bool.false_eq_true,if_false,pure_bind];exact e1
   ·rcases List.mem_cons.mp hy with rfl|hy
    ·exact absurd hyf hk
    ·exact e3 y hy hyf
theorem Ic(h:∀y∈scope.names,y.2= .free->∃c,env.cells.lookup y.1=some c):
 ∃cl,closureFor scope env=pure cl/\(∀x c,cl.lookup x=some c->env.cells.lookup x=some c)/\∀y∈scope.names,y.2= .free->∃c,cl.lookup y.1=some c:=by
 obtain⟨cl,e1,e2,e3,_⟩:=Ib (env:=env) scope.names [] h (λx c e=>nomatch e);refine⟨cl,?_,e2,e3⟩;have e:closureFor scope env=(forIn scope.names ([]:List (Str×Addr)) fun(y:Str×NameKind) cs=>(if(y.2== .free)=true then(do let c<-cellOf env y.1;pure (ForInStep.yield ((y.1,c)::cs)))else pure (ForInStep.yield cs):Sem (ForInStep (List (Str×Addr)))))>>=pure:=by
  rfl
 rw[e,e1,pure_bind]
def A9(X:Cx)(own:List Str)(sel:List Nat)(scope:Scope)(cl:List (Str×Addr))(C:Addr)(s2:Shared)(H2:Hp)(fp:List Addr):Cx where
 prog:=X.prog
 w:=X.w
 K:=X.K
 mg:=X.mg
 base:=X.base
 A:=X.A
 N:=own++sel.map λj=>X.N.getD j Str.empty
 s₀:=s2
 H₀:=H2
 env:=compEnvC scope cl C X.env
 outer:=X.stack
 stack:=X.stack
 ex:=fp
 fn:=λ_=>false
 calm:=X.calm
 pn:=[]
 xe:=λ_ _=>False
def Aa(own:List Str)(sel:List Nat)(σ:W2):W2:=own.map (λ_=>none)++sel.map λj=>σ.getD j none
structure CompOk (osc:Scope) (N:List Str) (own:List Str) (sel:List Nat) (scope:Scope):Prop where
 kind:scope.kind= .function
 cell:∀y∈scope.names,y.2≠ .cell
 names:∀y∈scope.names,y.2= .local->scope.names.lookup y.1=some .local
 free:∀y∈scope.names,y.2= .free->osc.names.lookup y.1=some .cell\/osc.names.lookup y.1=some .free
 seln:∀j∈sel,j<N.length/\scope.names.lookup (N.getD j Str.empty)=some .free/\(osc.names.lookup (N.getD j Str.empty)=some .cell\/osc.names.lookup (N.getD j Str.empty)=some .free)
def PIf(Y:Cx)(ifs:List Expr)(t:TT):Prop:=
 ∀ (pins:List (Addr×Obj)) (s:Shared) (σ:W2) (H:Hp) (Q:Bool->Hp->Prop),Inv Y pins σ H s->t σ H Q->
   wpAny (model Y.prog Y.w) Y.A (forIn ifs true λc r=>if r=true then do let ok<-isTrue c Y.env (eval c Y.env);pure (ForInStep.yield ok)else pure (ForInStep.yield r)) (TP Y pins σ Q) Y.xe s
def tYes:TT:=λ_ H Q=>Q true H
theorem BQ:PIf Y [] tYes:=λpins s σ H Q I h=>wpAny_tests_nil ⟨H,I,h⟩
theorem Dk{c:Expr}{t:TT}(h:PT Y c t):PIf Y [c] t:=λpins s σ H Q I hw=>wpAny_tests_one (h pins s σ H Q I hw)
def GK(n:Nat)(g:TG):Prop:=∀v σ H Q,g v σ H Q->g v σ H λσ' H'=>Q σ' H'/\σ'.length=σ.length/\∀i,n<=i->σ'[i]? =σ[i]?
def GKs(n:Nat)(g:TGs):Prop:=∀vs σ H Q,g vs σ H Q->g vs σ H λσ' H'=>Q σ' H'/\σ'.length=σ.length/\∀i,n<=i->σ'[i]? =σ[i]?
theorem Ak{i:Nat}(h:i<n):GK n (BY i):=λv σ H Q q=>⟨q,by simp,λj hj=>by rw[List.getElem?_set_ne (by lia)]⟩
theorem Dw:GKs n gNil:=λvs σ H Q q=>⟨q.1,q.2,rfl,λ_ _=>rfl⟩
def GM(g:TG):Prop:=∀v σ H Q Q',(∀σ' H',Q σ' H'->Q' σ' H')->g v σ H Q->g v σ H Q'
def GMs(g:TGs):Prop:=∀vs σ H Q Q',(∀σ' H',Q σ' H'->Q' σ' H')->g vs σ H Q->g vs σ H Q'
theorem A1{i:Nat}:GM (BY i):=λ_ _ _ _ _ h q=>h _ _ q
theorem Br:GMs gNil:=λ_ _ _ _ _ h q=>⟨q.1,h _ _ q.2⟩
theorem Cu{t:TG}{u:TGs}(h1:GM t)(h2:GMs u):GMs (GG t u):=λvs σ H Q Q' h ⟨v,r,e,q⟩=>⟨v,r,e,h1 _ _ _ _ _ (λσ' H' z=>h2 _ _ _ _ _ h z) q⟩
theorem Bn{t:TG}{u:TGs}(m1:GM t)(m2:GMs u)(h1:GK n t)(h2:GKs n u):GKs n (GG t u):=λvs σ H Q ⟨v,r,e,q⟩=>by
 refine⟨v,r,e,m1 _ _ _ _ _ (λσ' H' z=>?_) (h1 _ _ _ _ q)⟩;obtain⟨q',l,k⟩:=z;exact m2 _ _ _ _ _ (λσ2 H2 ⟨a,b,c⟩=>⟨a,b.trans l,λi hi=>(c i hi).trans (k i hi)⟩) (h2 _ _ _ _ q')
theorem Dv{t:TGs}(h:GKs n t):GK n (EG K m t):=λv σ H Q ⟨a,xs,e1,e2,e3,q⟩=>⟨a,xs,e1,e2,e3,h _ _ _ _ q⟩
def D3(own:List Str)(sel:List Nat)(wi:TI)(g:TG)(tt:TT)(te:TE):TE:=λσ H Q=>wi σ H λJ H1=>∀D,H1 D=none->
 ∃W:Nat->Nat->Hp->Prop,(∃m,W 0 m (upd H1 D (.lst [])))/\∀i m H2,W i m H2->
  (J.stop i H2/\Q (.ref D) H2)\/(J.go i H2/\∀x H3,J.yld i H2 x H3->g x (Aa own sel σ) H3 λσ4 H4=>tt σ4 H4 λb H5=>
    if b=true then te σ4 H5 λv H6=>∃ys,H6 D=some (.lst ys)/\ys.length<sizeLine/\∃m',m'<m/\W (i+1) m' (upd H6 D (.lst (ys++[v])))
    else∃m',m'<m/\W (i+1) m' H5)
section
variable{A:Around}{R:Result->Shared->Prop}
theorem KN{pos:Pos}{it acc:Value}(I:Nat->Shared->Prop)
 (turn:∀n s,I n s->wpAny (model prog w) A (pyNext it) (λr s1=>match r with
   |none=>R (.ok .next) s1
   |some v=>wpAny (model prog w) A (letOwnedTupleGo target it v) (λ_ s0=>wpAny (model prog w) A (assign target env v) (λ_ s2=>
     wpAny (model prog w) A (forIn ifs true λc r=>if r=true then do let ok<-isTrue c env (eval c env);pure (ForInStep.yield ok)else pure (ForInStep.yield r)) (λok s3=>
      if ok=true then wpAny (model prog w) A (eval elt env) (λx s4=>wpAny (model prog w) A (call (.builtin "list.append") [acc,x]) (λ_ s5=>∃m,m<n/\I m s5) (λ_ _=>False) s4) (λ_ _=>False) s3
      else∃m,m<n/\I m s3) (λ_ _=>False) s2) (λ_ _=>False) s0) (λ_ _=>False) s1) (λ_ _=>False) s)
 (n:Nat) (h:I n s):
 codeAny (model prog w) A (.compLoop (.ListComp elt [⟨target,iter,ifs,0⟩] scope pos) 0 it acc env) R s:=by
 refine codeAny_loop rfl I (λn s hI=>?_) n h;show wpAny _ A ((compTurn (.ListComp elt [⟨target,iter,ifs,0⟩] scope pos) 0 it acc env).onRaise (λx=>do noteFrame x env;theTreesLotGoes x)) _ _ s;refine wpAny_noted ?_;rw[compTurn_list];refine wpAny_bind (wpAny_standAt (wpAny_bind (wpAny_mono (turn n s hI) (λr s1 h1=>?_) λ_ _ z=>z.elim)))
 cases r with
 |none=>exact wpAny_pure h1
 |some v=>
  refine wpAny_bind (wpAny_mono h1 (λ_ s0 h0=>wpAny_bind (wpAny_mono h0 (λ_ s2 h2=>wpAny_bind (wpAny_mono h2 (λok s3 h3=>?_) λ_ _ z=>z.elim)) λ_ _ z=>z.elim)) λ_ _ z=>z.elim)
  cases ok with
  |false=>exact wpAny_pure ⟨rfl,h3⟩
  |true=>
   exact wpAny_bind (wpAny_bind (wpAny_mono h3 (λx s4 h4=>wpAny_bind (wpAny_mono h4 (λ_ s5 h5=>wpAny_pure (wpAny_pure ⟨rfl,h5⟩)) λ_ _ z=>z.elim)) λ_ _ z=>z.elim))
end
theorem DB{env:Env}:∀ {names:List (Str×NameKind)} {x:Str} {k:NameKind},
 (names.map fun(n,k)=>if(k==NameKind.free&&env.scope.kind== .function&&env.kindOf n==some .cell)then(n,NameKind.cell)else(n,k)).lookup x=some k->
 names.lookup x=some k\/names.lookup x=some .free
 |[],_,_,h=>by simp at h
 |(n,k')::r,x,k,h=>by
  have ih:= @DB env r x k;have h':List.lookup x ((if(k'==NameKind.free&&env.scope.kind== .function&&env.kindOf n==some .cell)=true then(n,NameKind.cell)else(n,k'))::r.map fun(n,k)=>if(k==NameKind.free&&env.scope.kind== .function&&env.kindOf n==some .cell)then(n,NameKind.cell)else(n,k))=some k:=h
  cases hx:x==n with
  |true=>
   rw[List.lookup_cons,hx]
   by_cases hc:(k'==NameKind.free&&env.scope.kind== .function&&env.kindOf n==some .cell)=true
   ·have:k'= .free:=by simp only[Bool.and_eq_true,beq_iff_eq]at hc;exact hc.1.1
    subst this;exact .inr rfl
   ·rw[if_neg hc,List.lookup_cons,hx]at h';exact .inl h'
  |false=>
   rw[List.lookup_cons,hx]
   by_cases hc:(k'==NameKind.free&&env.scope.kind== .function&&env.kindOf n==some .cell)=true
   ·rw[if_pos hc,List.lookup_cons,hx]at h';exact ih h'
   ·rw[if_neg hc,List.lookup_cons,hx]at h';exact ih h'
theorem FG{env:Env}(hk:env.scope.kind= .function):∀ {names:List (Str×NameKind)} {x:Str},names.lookup x=some .free->
 (names.map fun(n,k)=>if(k==NameKind.free&&env.scope.kind== .function&&env.kindOf n==some .cell)then(n,NameKind.cell)else(n,k)).lookup x=some .cell\/
 (names.map fun(n,k)=>if(k==NameKind.free&&env.scope.kind== .function&&env.kindOf n==some .cell)then(n,NameKind.cell)else(n,k)).lookup x=some .free
 |[],_,h=>by simp at h
 |(n,k')::r,x,h=>by
  have ih:= @FG env hk r x;show List.lookup x ((if(k'==NameKind.free&&env.scope.kind== .function&&env.kindOf n==some .cell)=true then(n,NameKind.cell)else(n,k'))::_)=_\/List.lookup x ((if(k'==NameKind.free&&env.scope.kind== .function&&env.kindOf n==some .cell)=true then(n,NameKind.cell)else(n,k'))::_)=_
  cases hx:x==n with
  |true=>
   rw[List.lookup_cons,hx]at h
   by_cases hc:(k'==NameKind.free&&env.scope.kind== .function&&env.kindOf n==some .cell)=true
   ·rw[if_pos hc,List.lookup_cons,hx];exact .inl rfl
   ·rw[if_neg hc,List.lookup_cons,hx];exact .inr h
  |false=>
   rw[List.lookup_cons,hx]at h
   by_cases hc:(k'==NameKind.free&&env.scope.kind== .function&&env.kindOf n==some .cell)=true
   ·rw[if_pos hc,List.lookup_cons,hx];exact ih h
   ·rw[if_neg hc,List.lookup_cons,hx];exact ih h
theorem FY{i:Nat}(h:i<own.length):(Aa own sel σ)[i]? =some none:=by
 unfold Aa;rw[List.getElem?_append_left (by simpa using h),List.getElem?_map,List.getElem?_eq_getElem h]
 rfl
theorem Hq{i:Nat}(h:(Aa own sel σ)[i]? =some (some v)):∃k j,i=own.length+k/\sel[k]? =some j/\σ[j]? =some (some v):=by
 by_cases hi:i<own.length
 ·rw[FY hi]at h;cases h
 ·unfold Aa at h;rw[List.getElem?_append_right (by simpa using hi),List.getElem?_map]at h;rw[List.length_map]at h
  cases e:sel[i-own.length]? with
  |none=>rw[e]at h;cases h
  |some j=>
   rw[e]at h;simp only[Option.map_some,Option.some.injEq]at h;refine⟨i-own.length,j,by lia,e,?_⟩;rw[List.getD_eq_getElem?_getD]at h
   cases q:σ[j]? with
   |none=>rw[q]at h;cases h
   |some u=>rw[q]at h;simp at h;rw[h]
theorem Hr:(Aa own sel σ).length=own.length+sel.length:=by
 unfold Aa;simp
structure Far (X:Cx) (pins:List (Addr×Obj)) (H:Hp) (C:Addr):Prop where
 nt:H C=none
 nl:C≠X.env.locals
 up:X.s₀.heap.objs.size<=C
 nc:∀x c,X.env.cells.lookup x=some c->c≠C
 np:∀p∈X.pn++pins,p.1≠C
theorem Inv.far{C:Addr}(I:Inv X pins σ H s)(f:Far X pins H C)(k:Heap.SameBut C s.heap h'):Inv X pins σ H {s with heap:=h'}:=
 I.turned (t':=s.toks) (λb o hb e=>(k.2 b hb).trans e) f.nt f.nl (.inr f.up) f.nc f.np
theorem Kp{pos:Pos}{use:Option (Value->Sem Unit)}
 (S:CompOk X.env.scope X.N own sel scope) (hc:X.calm=true) (hi:PI X tg iter wi)
 (hg:∀cl C s2 H2 fp,PG (A9 X own sel scope cl C s2 H2 fp) tg g) (hk:GK own.length g)
 (ht:∀cl C s2 H2 fp,PIf (A9 X own sel scope cl C s2 H2 fp) ifs tt) (he:∀cl C s2 H2 fp,PE (A9 X own sel scope cl C s2 H2 fp) elt te)
 (hs:∀x,foldedSetIterable iter X.env x=pure x) {pins:List (Addr×Obj)} {s:Shared} {σ:W2} {H:Hp} {Q:VK} {ps:Pos} (I0:Inv X pins σ H s) (h:D3 own sel wi g tt te σ H Q)
 (fin:∀ (D C:Addr) (H':Hp) (s':Shared) (m:Str->Option Value),Inv X pins σ H' s'->s'.heap.Ns C m->Far X pins H' C->Q (.ref D) H'->compPost (model X.prog X.w) X.A X.xe use Qo (.ref D) C (.ok .next) s'):
 wpAny (model X.prog X.w) X.A (comprehension (.ListComp elt [⟨tg,iter,ifs,0⟩] scope pos) scope X.env ps (newList []) false (eval iter X.env) use) Qo X.xe s:=by
 obtain⟨cl,hclos,hcl,hfree⟩:=Ic (scope:=scope) (env:=X.env) λy hy e=>I0.ok.has y.1 (S.free y hy e);refine wpAny_comprehension_free (use:=use) rfl hs hclos S.kind S.names (thn (hi pins s σ H _ I0 h) λv s1 h1=>thn h1 λitv s2 h2=>?_);obtain⟨it,fp,tn,J,H2,e,I,T,st2,f2,h3⟩:=h2;subst e;clear h h1 I0;refine wpAny_newObj_type (wpAny_newFunctionEnv S.cell (by intro y hy;simp at hy) (λh1 hns1 hsb1=>?_) S.kind)
 dsimp only at hns1 hsb1⊢
 generalize hP:s2.heap.push {cls:= .type "list",dict:=none,data:= .seq ([]:List Value).toArray}=P1 at hns1 hsb1⊢;generalize hD:s2.heap.objs.size=D at hns1 hsb1⊢;generalize hC:P1.objs.size=C at hns1 hsb1⊢;have hCD:C=D+1:=by rw[<-hC,<-hP,Heap.size_push,hD]
 have hlt:D<C:=by rw[hCD];exact Nat.lt_succ_self D
 have hDC:D≠C:=Nat.ne_of_lt hlt;have neC:∀b:Addr,b<D->b≠C:=λb hb=>Nat.ne_of_lt (Nat.lt_trans hb hlt);have neD:∀b:Addr,b<D->b≠D:=λb hb=>Nat.ne_of_lt hb;have hsD:s2.heap.objs.size<=D:=Nat.le_of_eq hD;have hsC:s2.heap.objs.size<=C:=Nat.le_trans hsD (Nat.le_of_lt hlt);have fresh:∀a,D<=a->H2 a=none:=λa ha=>I.hok.fresh (by rw[hD];exact ha);have hnD:H2 D=none:=fresh D (Nat.le_refl _);have hnC:H2 C=none:=fresh C (Nat.le_of_lt hlt);have below:∀b o,s2.heap.get? b=some o->b<D:=λb o e=>by rw[<-hD];exact Heap.lt_size e
 have keep1:∀b o,s2.heap.get? b=some o->h1.get? b=some o:=λb o e=>
  hsb1.extBut b o (neC b (below b o e)) (Heap.get?_push_of_some _ (hP▸Heap.get?_push_of_some _ e))
 have gD:h1.get? D=some {cls:= .type "list",dict:=none,data:= .seq ([]:List Value).toArray}:=by
  refine hsb1.extBut _ _ hDC (Heap.get?_push_of_some _ ?_);rw[<-hP,<-hD];exact Heap.get?_push_size _ rfl
 obtain⟨W,⟨m0,w0⟩,turn⟩:=h3 D hnD;have fpb:∀b∈fp,b<D:=λb hb=>by obtain⟨o,e,_⟩:=T.obj _ _ st2 b hb;exact below b o e
 generalize hY:A9 X own sel scope cl C s2 H2 fp=Y;have hg:=hg cl C s2 H2 fp;have ht:=ht cl C s2 H2 fp;have he:=he cl C s2 H2 fp;rw[hY]at hg ht he;have okY:Y.Ok:=by
  subst hY;refine⟨I.ok.mod,S.kind,I.ok.glob,I.ok.blt,?_,λx y c a b=>I.ok.inj x y c (hcl _ _ a) (hcl _ _ b),λx hx=>?_,(λ_ _ z=>nomatch z),λz=>I.ok.hd z,I.ok.frames, .inl rfl,λb hb=>⟨?_,λx c e=>(f2 b hb).2.2.2.2.1 x c (hcl _ _ e)⟩,I.bs,
   Nat.le_trans I.ok.bsz I.sz,λb o e hb=>?_,λb hb z=>?_,I.stack,I.stkFree⟩
  ·exact hsC
  ·have hx':(relabel scope X.env).names.lookup x=some .cell\/(relabel scope X.env).names.lookup x=some .free:=hx;have hf:scope.names.lookup x=some .free:=by
    rcases hx' with z|z
    ·rcases DB z with q|q
     ·exact absurd rfl (S.cell _ (PySem.mem_of_lookup q))
     ·exact q
    ·rcases DB z with q|q<;>exact q
   exact hfree _ (PySem.mem_of_lookup hf) rfl
  ·exact neC b (fpb b hb)
  ·rcases(f2 b hb).2.2.2.1 with z|z
   ·exact I.ok.noex b o e z
   ·exact absurd (Nat.lt_of_lt_of_le (Heap.lt_size e) (Nat.le_trans I.ok.bsz z)) (Nat.lt_irrefl _)
  ·rcases List.mem_cons.mp (I.stkSub b z)with q|q
   ·exact(f2 b hb).2.1 q
   ·exact(f2 b hb).2.2.1 q
 have eo:ObjOk X.prog X.w (upd H2 D (.lst [])) h1 D (.lst []):=⟨by decide,[],_, .nil,gD⟩;have I1:Inv Y [] (Aa own sel σ) (upd H2 D (.lst [])) {s2 with heap:=h1,toks:=s2.toks+([]:List (Str×Value)).length}:=by
  subst hY;refine⟨okY,rfl,I.bare,Un.laid keep1 hsD hnD,⟨_,hns1,λi x v e1 e2 e3=>?_⟩,λx c e=>?_,?_,λx c e=>?_,λp hp=>absurd (show p∈([]:List (Addr×Obj))from hp) (by simp),I.hok.laid keep1 hsD eo,?_⟩
  ·obtain⟨k,j,ei,ej,es⟩:=Hq e2;subst ei;have e1':(own++sel.map λj=>X.N.getD j Str.empty)[own.length+k]? =some x:=e1;rw[List.getElem?_append_right (by lia),List.getElem?_map,show own.length+k-own.length=k by lia,ej]at e1';simp only[Option.map_some,Option.some.injEq]at e1';obtain⟨hj,hfx,hkd⟩:=S.seln j (List.mem_of_getElem? ej);have hN:X.N[j]? =some x:=by rw[<-e1',List.getD_eq_getElem?_getD,List.getElem?_eq_getElem hj];rfl
   rw[e1']at hkd hfx;obtain⟨m,_,hl⟩:=I.loc;obtain⟨u,r,lk⟩:=hl j x v hN es (.inr hkd);refine⟨u,r, .inr ⟨FG I.ok.kind hfx,?_⟩⟩;rcases lk with⟨z1,_⟩|⟨_,c,hc1,hc2⟩
   ·have z1':X.env.scope.names.lookup x=some .local:=z1;rcases hkd with q|q<;>(rw[z1']at q;cases q)
   ·obtain⟨c',q⟩:=hfree _ (PySem.mem_of_lookup hfx) rfl;have q2:=hcl _ _ q;rw[hc1]at q2
    cases q2
    exact⟨c,q,hc2.keeps keep1⟩
  ·obtain⟨u,z⟩:=I.cell x c (hcl _ _ e);exact⟨u,z.keeps keep1⟩
  ·show upd H2 D (.lst []) C=none;rw[AE (Ne.symm hDC)];exact hnC
  ·have q:=I.freeC x c (hcl _ _ e);obtain⟨u,o,z,_⟩:=I.cell x c (hcl _ _ e);rw[AE (neD c (below c o z))];exact q
  ·show(Aa own sel σ).length=(own++sel.map λj=>X.N.getD j Str.empty).length;rw[Hr];simp
 have fin:∀ (σ':W2) (H':Hp) (s':Shared),Inv Y [] σ' H' s'->Q (.ref D) H'->compPost (model X.prog X.w) X.A X.xe use Qo (.ref D) C (.ok .next) s':=by
  intro σ' H' s' I' q;subst hY;obtain⟨m,hn,_⟩:=I'.loc;have J':Inv X pins σ H' s':=I.call' I'.os I'.base I'.hok I'.bare λb hb=>⟨(f2 b hb).2.2.2.1,(f2 b hb).2.1,(f2 b hb).2.2.2.2.1,(f2 b hb).2.2.2.2.2⟩;refine fin D C H' s' m J' hn ⟨I'.free,Ne.symm (neC _ (by rw[<-hD];exact I.lt)),Nat.le_trans I.sz hsC,λx c e=>?_,λp hp=>?_⟩ q
  ·obtain⟨u,o,z,_⟩:=I.cell x c e;exact neC c (below c o z)
  ·exact neC p.1 (below p.1 p.2 (I.pin p hp).1)
 have stat:∀ {H':Hp},(∀b∈fp,H' b=none)->∀b∈fp,BF Y [] H' b:=fun{H'} hn b hb=>by
  subst hY;refine⟨hn b hb,neC b (fpb b hb),λz=>?_, .inl hb,λx c e=>(f2 b hb).2.2.2.2.1 x c (hcl _ _ e),λp hp=>absurd (show p∈([]:List (Addr×Obj))from hp) (by simp)⟩;rcases List.mem_cons.mp (I.stkSub b z)with q|q
  ·exact(f2 b hb).2.1 q
  ·exact(f2 b hb).2.2.1 q
 have loop:∀s3:Shared,s3={s2 with heap:=h1,toks:=s2.toks+([]:List (Str×Value)).length}->
  codeAny (model X.prog X.w) X.A (.compLoop (.ListComp elt [⟨tg,iter,ifs,0⟩] scope pos) 0 (.ref it) (.ref D) (compEnvC scope cl C X.env)) (compPost (model X.prog X.w) X.A X.xe use Qo (.ref D) C) s3:=by
  rintro s3 rfl;have eP:Y.prog=X.prog:=by subst hY;rfl
  have eW:Y.w=X.w:=by subst hY;rfl
  have eA:Y.A=X.A:=by subst hY;rfl
  have eK:Y.K=X.K:=by subst hY;rfl
  have eE:Y.env=compEnvC scope cl C X.env:=by subst hY;rfl
  have eX:Y.xe=λ_ _=>False:=by subst hY;rfl
  have eC:Y.calm=true:=by subst hY;exact hc
  refine KN (λn s'=>∃i H',Inv Y [] (Aa own sel σ) H' s'/\tn i s'.heap/\(∀b∈fp,H' b=none)/\W i n H') ?_ m0
   ⟨0,_,I1,T.keep _ _ _ st2 λb _ o e=>keep1 b o e,λb hb=>by rw[AE (neD b (fpb b hb))];exact(f2 b hb).1,w0⟩
  rintro n s4 ⟨i,H4,I4,st4,fr4,w4⟩;rcases turn i n H4 w4 with⟨stop,q⟩|⟨go,step⟩
  ·have dn:=T.done Y eP eW eK eC i [] s4 _ H4 (λ_ _=>False) I4 (stat fr4) st4 stop;rw[eA]at dn;refine thn dn λr s5 ⟨hr,I5⟩=>?_;subst hr;exact fin _ _ _ I5 q
  ·have im:=T.item Y eP eW eK eC i [] s4 _ H4 (λ_ _=>False) I4 (stat fr4) st4 go;rw[eA]at im;refine thn im λr s5 ⟨u,hr,h5⟩=>?_;subst hr;refine thn h5 λ_ s6 ⟨x,H6,I6,r6,y6,st6,fr6⟩=>?_;have I6':=I6.pinned (stat fr6) (T.obj _ _ st6);have back:∀ {σ7:W2} {H7:Hp} {s7:Shared} {k:Nat},Inv Y ([]++Cv fp s6.heap) σ7 H7 s7->σ7.length=(Aa own sel σ).length->(∀j,own.length<=j->σ7[j]? =(Aa own sel σ)[j]?)->(∃m',m'<n/\W (i+1) m' H7)->
    ∃m',m'<n/\∃i H',Inv Y [] (Aa own sel σ) H' s7/\tn i s7.heap/\(∀b∈fp,H' b=none)/\W i m' H':=fun{σ7 H7 s7 k} I7 l7 k7 w7=>by
    obtain⟨m',hm,w7⟩:=w7;refine⟨m',hm,i+1,H7,I7.unpinned.weak l7.symm λj v e=>?_,T.keep _ _ _ st6 λb hb o e=>(I7.pin (b,o) (List.mem_append_right _ (List.mem_append_right _ (Cr hb e)))).1,λb hb=>?_,w7⟩
    ·by_cases hj:j<own.length
     ·rw[FY hj]at e;cases e
     ·rw[k7 j (Nat.le_of_not_lt hj)];exact e
    ·obtain⟨o,e,d⟩:=T.obj _ _ st6 b hb;exact(I7.pin (b,o) (List.mem_append_right _ (List.mem_append_right _ (Cr hb e)))).2.1
   have ga:=hg _ s6 _ H6 x u _ I6' r6 (hk _ _ _ _ (step x H6 y6));rw[eP,eW,eA,eE,eX]at ga;refine thn ga λ_ s7 ⟨σ7,H7,I7,q7,l7,k7⟩=>?_;have ta:=ht _ s7 σ7 H7 _ I7 q7;rw[eP,eW,eA,eE,eX]at ta;refine thn ta λb s8 ⟨H8,I8,q8⟩=>?_
   cases b with
   |false=>
    rw[if_neg Bool.false_ne_true]at q8⊢;exact back (k:=0) I8 l7 k7 q8
   |true=>
    rw[if_pos rfl]at q8⊢;have ea:=he _ s8 σ7 H8 _ I8 q8;rw[eP,eW,eA,eE,eX]at ea;refine thn ea λv s9 ⟨x9,H9,I9,r9,ys,hD9,hz9,q9⟩=>?_;have aa:=CI (X:=Y) _ s9 σ7 H9 (.ref D) [x9] (.ref D) [v] (λ_ H'=>∃m',m'<n/\W (i+1) m' H') I9 rfl (.cons r9 .nil) ⟨D,ys,x9,rfl,rfl,hD9,hz9,q9⟩;rw[eP,eW,eA,eX]at aa;exact thn aa λ_ s10 ⟨_,H10,I10,_,q10⟩=>back (k:=0) I10 l7 k7 q10
 exact codeAny_compStart_list (loop _ rfl) (T.self X.A 0 _ _ _ (T.keep _ _ _ st2 λb _ o e=>keep1 b o e) (loop _ rfl))
theorem Bb{pos:Pos}
 (S:CompOk X.env.scope X.N own sel scope) (hc:X.calm=true) (hi:PI X tg iter wi)
 (hg:∀cl C s2 H2 fp,PG (A9 X own sel scope cl C s2 H2 fp) tg g) (hk:GK own.length g)
 (ht:∀cl C s2 H2 fp,PIf (A9 X own sel scope cl C s2 H2 fp) ifs tt) (he:∀cl C s2 H2 fp,PE (A9 X own sel scope cl C s2 H2 fp) elt te)
 (hs:∀x,foldedSetIterable iter X.env x=pure x:=by intro _;rfl):
 PE X (.ListComp elt [⟨tg,iter,ifs,0⟩] scope pos) (D3 own sel wi g tt te):=by
 intro pins s σ H Q I h;rw[eval_ListComp];refine Kp (use:=none) S hc hi hg hk ht he hs I h λD C H' s' m I' hn f q=>?_;exact⟨m,hn,λh' k=>⟨.ref D,H',I'.far f k,rfl,q⟩⟩
theorem EK{i:Nat}{x:Str}{spos:Pos}{pos:Pos}
 (hN:X.N.Nodup) (hix:X.N[i]? =some x) (hx:Loc X.env.scope x)
 (S:CompOk X.env.scope X.N own sel scope) (hc:X.calm=true) (hi:PI X tg iter wi)
 (hg:∀cl C s2 H2 fp,PG (A9 X own sel scope cl C s2 H2 fp) tg g) (hk:GK own.length g)
 (ht:∀cl C s2 H2 fp,PIf (A9 X own sel scope cl C s2 H2 fp) ifs tt) (he:∀cl C s2 H2 fp,PE (A9 X own sel scope cl C s2 H2 fp) elt te)
 (hs:∀x,foldedSetIterable iter X.env x=pure x:=by intro _;rfl)
 (hsw:swapsWith (.ListComp elt [⟨tg,iter,ifs,0⟩] scope pos) (some (.Name x pos')) spos.line X.env=pure true:=by rfl)
 (hf:X.fn x=true\/X.env.scope.names.lookup x=some .local:=by first|exact .inl rfl|exact .inr rfl|assumption):
 PS X (.Assign [.Name x pos'] (.ListComp elt [⟨tg,iter,ifs,0⟩] scope pos) spos) (Ck (D3 own sel wi g tt te) (BY i)):=by
 intro pins s σ H D0 I h;rw[exec_Assign_Name_used _ _ _ _ hsw];refine wpAny_bind (wpAny_standAt (wpAny_bind ?_));show wpAny _ X.A (do let _<-comprehension (.ListComp elt [⟨tg,iter,ifs,0⟩] scope pos) scope X.env _ (newList []) false (eval iter X.env) (some (assign (.Name x pos') X.env))) _ _ s;refine wpAny_bind (wpAny_mono (Kp (use:=some (assign (.Name x pos') X.env)) (Qo:=λ_ s'=>SP X pins D0 .next s') S hc hi hg hk ht he hs I h λD C H' s' m I' hn f q=>?_) (λ_ s' hq=>wpAny_pure (wpAny_pure hq)) λ_ _ e=>e);show wpAny _ X.A (assign (.Name x pos') X.env (.ref D)) _ _ _;refine wpAny_assign_Name (KQ (v:=V.ref D) I' hN hix hx rfl (λs2 I2 ⟨a,k,ha⟩=>?_) hf);have haC:C≠a:=by
  rcases ha with rfl|ha
  ·exact f.nl
  ·exact Ne.symm (f.nc x a ha)
 exact⟨m,hn.sameBut k haC,λh' k'=>⟨_,H',I2.far f k',q⟩⟩
theorem Inv.bigAfter(I:Inv X pins σ H s)(hf:∀b∈ch,BF X pins H b)(k:∀b u,b∉ch->s.heap.get? b=some u->h'.get? b=some u):∃b o,1<b/\h'.get? b=some o:=by
 obtain⟨o,_,_,e,_⟩:=I.ok.mod.glob;refine⟨mainGlobals,o,by decide,k _ _ (λz=>?_) (I.bk _ _ e)⟩;rcases(hf _ z).2.2.2.1 with q|q
 ·exact I.ok.noex _ _ e q
 ·exact absurd (Nat.lt_of_lt_of_le (Heap.lt_size e) (Nat.le_trans I.ok.bsz q)) (Nat.lt_irrefl _)
theorem Inv.turnedLaid{o:HO}(I:Inv X pins σ H s)(hf:∀b∈ch,BF X pins H b)(k:∀b u,b∉ch->s.heap.get? b=some u->h'.get? b=some u)(hp:s.heap.objs.size<=a)
 (new:ObjOk X.prog X.w (upd H a o) h' a o):Inv X pins σ (upd H a o) {s with heap:=h',toks:=t'}:=by
 have hn:H a=none:=I.hok.fresh hp;have ne:∀b u,s.heap.get? b=some u->b≠a:=λb u e=>Nat.ne_of_lt (Nat.lt_of_lt_of_le (Heap.lt_size e) hp);have nt:∀b u,H b=some u->b∉ch:=λb u e z=>by rw[(hf b z).1]at e;cases e
 refine I.step (g':=s.gens) (d':=s.drawn) (ch:=ch) (λb hb=>⟨(hf b hb).2.2.2.1,(hf b hb).2.1,(hf b hb).2.2.2.2.1,(hf b hb).2.2.2.2.2⟩) (λb u _ _ hc e _=>k b u hc e) (λb u _ _ hc e _=>⟨u.slots,k b u hc e⟩)
  (λb u _ e n=>by rw[AE (ne b u e)];exact n) (λb u hc e=>⟨u,k b u hc e⟩) (λb xs e=>by rw[AE (AT e hn)];exact e) (λb u xs e=>by rw[AE (AT e hn)];exact e)
  (λb ps e=>⟨#[],by rw[AE (AT e hn),e];simp⟩) (λm hm=>?_) ⟨λb u e=>?_,λu e=>I.hok.sm u (by
    by_cases hb:sysModules=a
    ·obtain⟨b,o',l,q⟩:=I.hok.bg;exact absurd (Nat.lt_trans l (show b<sysModules from by rw[hb];exact Nat.lt_of_lt_of_le (Heap.lt_size q) hp)) (Nat.lt_irrefl 1)
    ·rw[AE hb]at e;exact e),I.bigAfter hf k⟩ I.bare
 ·obtain⟨ob,es,ep,ho,r⟩:=hm;exact⟨ob,es,ep,k _ ob (λz=>(hf _ z).2.1 rfl) ho,r⟩
 ·by_cases hb:b=a
  ·subst hb;rw[AJ]at e;cases e;exact new
  ·rw[AE hb]at e;refine(I.hok b u e).stay (λc v hc q=>k c v ?_ q) (λc q=>by rw[AE (AT q hn)];exact q) λc xs q=>by rw[AE (AT q hn)];exact q
   rcases hc with z|z
   ·rw[z];exact nt b u e
   ·exact nt c _ z
theorem Inv.turnedAll(I:Inv X pins σ H s)(hf:∀b∈ch,BF X pins H b)(k:∀b u,b∉ch->s.heap.get? b=some u->h'.get? b=some u):Inv X pins σ H {s with heap:=h',toks:=t'}:=by
 have nt:∀b u,H b=some u->b∉ch:=λb u e z=>by rw[(hf b z).1]at e;cases e
 refine I.step (g':=s.gens) (d':=s.drawn) (ch:=ch) (λb hb=>⟨(hf b hb).2.2.2.1,(hf b hb).2.1,(hf b hb).2.2.2.2.1,(hf b hb).2.2.2.2.2⟩) (λb u _ _ hc e _=>k b u hc e) (λb u _ _ hc e _=>⟨u.slots,k b u hc e⟩)
  (λb u _ e n=>n) (λb u hc e=>⟨u,k b u hc e⟩) (λb xs e=>e) (λb u xs e=>e) (λb ps e=>⟨#[],by rw[e];simp⟩) (λm hm=>?_) ⟨λb u e=>?_,I.hok.sm,I.bigAfter hf k⟩ I.bare
 ·obtain⟨ob,es,ep,ho,r⟩:=hm;exact⟨ob,es,ep,k _ ob (λz=>(hf _ z).2.1 rfl) ho,r⟩
 ·refine(I.hok b u e).stay (λc v hc q=>k c v ?_ q) (λc q=>q) λc xs q=>q;rcases hc with z|z
  ·rw[z];exact nt b u e
  ·exact nt c _ z
def Its(x:Str):W3:=⟨λi _=>i<x.cps.size,λi H v H'=>H'=H/\∃c,x.cps[i]? =some c/\v= .str ⟨#[c]⟩,λi _=>i=x.cps.size⟩
theorem Ky{x:Str}{t:Tok}(hT:T="str_ascii_iterator"\/T="str_iterator")
 (W:∀A:Around,A.handled=none->Walks P w A it [it] [it] x.cps.size (SignAt x) (λi h=>h.IsStrIter it T x t i))
 (sf:∀ (A:Around) (i:Nat) (s:Shared) (Q:Value->Shared->Prop) (E:Value->Shared->Prop),s.heap.IsStrIter it T x t i->Q (.ref it) s->wpAny (model P w) A (pyIter (.ref it)) Q E s):
 Turn P w K tg (Its x) [it] it (λi h=>h.IsStrIter it T x t i) where
 mem:=by simp
 obj:=λi h st b hb=>by
  obtain⟨o,ho,_,hd⟩:=st;have e:b=it:=by simpa using hb
  subst e;exact⟨o,ho,λv z=>by rw[hd]at z;cases z⟩
 keep:=λi h h' st k=>by
  obtain⟨o,ho,r⟩:=st;exact⟨o,k it (by simp) o ho,r⟩
 item:=by
  intro X hP hw hK hc i pins s σ H E I hf st hg;subst hP hw hK;refine(W X.A (I.ok.hd hc)).item i s _ _ hg st λv h' tk hv st' kk=>?_;obtain⟨c,u,hx,rfl⟩:=hv;obtain⟨o,ho,hcl,hd⟩:=id st';have I1:Inv X pins σ H {s with heap:=h',toks:=tk}:=I.turnedAll hf kk;refine⟨_,rfl,GF (s:={s with heap:=h',toks:=tk}) (n:=T) ho hcl hd (by rcases hT with rfl|rfl<;>decide) ⟨.str ⟨#[c]⟩,H,I1,⟨u,rfl⟩,⟨rfl,c,hx,rfl⟩,st',λb hb=>(hf b hb).1⟩⟩
 done:=by
  intro X hP hw hK hc i pins s σ H E I hf st hg;subst hP hw hK;have e:i=x.cps.size:=hg;subst e;exact(W X.A (I.ok.hd hc)).done s _ _ st λh' tk kk=>⟨rfl,I.turnedAll hf kk⟩
 self:=λA i s Q E st h=>sf A i s Q E st h
def N5(tl:TE):TI:=λσ H R=>tl σ H λx H1=>∃z,x= .str z/\R (Its z) H1
theorem F3{l:Expr}(hl:PE X l tl):PI X tg l (N5 tl):=by
 intro pins s σ H R I h;refine thn (hl pins s σ H _ I h) λv s1 ⟨x,H1,I1,r1,q1⟩=>?_;obtain⟨z,rfl,q⟩:=q1;obtain⟨t,rfl⟩:=r1;have side:∀b∈[s1.heap.objs.size],BF X pins H1 b:=λb hb=>by
  have e:b=s1.heap.objs.size:=by simpa using hb
  subst e;exact I1.fpOk (Nat.le_refl _) (I1.hok.fresh (Nat.le_refl _))
 cases ha:z.cps.all (· <128)
 ·refine wpAny_pyIter_wide ha ⟨s1.heap.objs.size,[s1.heap.objs.size],_,_,H1,rfl,I1.kept (t':=s1.toks) λb o e=>Heap.get?_push_of_some _ e,Ky (t:=t) (T:="str_iterator") (.inr rfl) (λA hh=>Walks.strWide hh _ z t) (λA i s Q E st h=>wpAny_pyIter_striter_wide st h),⟨_,Heap.get?_push_size _ rfl,rfl,rfl⟩,side,q⟩
 ·refine wpAny_pyIter_ascii ha ⟨s1.heap.objs.size,[s1.heap.objs.size],_,_,H1,rfl,I1.kept (t':=s1.toks) λb o e=>Heap.get?_push_of_some _ e,Ky (t:=t) (T:="str_ascii_iterator") (.inl rfl) (λA hh=>Walks.strAscii hh _ z t) (λA i s Q E st h=>wpAny_pyIter_striter_ascii st h),⟨_,Heap.get?_push_size _ rfl,rfl,rfl⟩,side,q⟩
def EI(x:Str):W3:=⟨λi _=>i<x.cps.size,λi H v H'=>∃T c,H T=none/\x.cps[i]? =some c/\v= .ref T/\H'=upd H T (.tup [.int i, .str ⟨#[c]⟩]),λi _=>i=x.cps.size⟩
def Js(K:W.Frag)(a:Addr):W3:=⟨λi H=>∃xs x,SqL K H a xs/\xs[i]? =some x,λi H v H'=>∃T x,H T=none/\(∀xs,SqL K H a xs->xs[i]? =some x)/\v= .ref T/\H'=upd H T (.tup [.int i,x]),
 λi H=>∃xs,SqL K H a xs/\i=xs.length⟩
section
variable{k:Nat}
theorem Kn{i:Nat}{Pr:Nat->Value->Prop}{W2:Nat->Heap->Prop}{old:Value}
 (D:Draws X.prog X.w X.A.in1 it fp n Pr W2) (I:Inv X pins σ H s) (hf:∀b∈[e,it],BF X pins H b) (he:IsEnum s.heap e it i old) (hst:W2 i s.heap) (hlt:i<n) (hne:e≠it) (hef:e∉fp)
 (tnk:∀h' o,IsEnum h' e it ((i:Int)+1) o->W2 (i+1) h'->tn h') (y:∀v,Pr i v->∃z,RelV z v/\Qx v H z):
 wpAny (model X.prog X.w) X.A (pyNext (.ref e)) (λr s1=>∃u,r=some u/\wpAny (model X.prog X.w) X.A (letOwnedTupleGo (.Tuple elts k tpos) (.ref e) u) (λ_ s2=>∃x H',Inv X pins σ H' s2/\RelV x u/\
  (∃T z v,H T=none/\Pr i v/\RelV z v/\Qx v H z/\x= .ref T/\H'=upd H T (.tup [.int i,z]))/\tn s2.heap/\∀b∈[e,it],H' b=none) E s1) E s:=by
 refine wpAny_pyNext_enum_itemD D he hst hlt hne hef λv h1 tk hP ho hs' hT hsz hk=>⟨_,rfl,wpAny_letOwnedTupleGo_enum ho λh2 he2 hs2=>?_⟩;obtain⟨z,rz,qz⟩:=y v hP;have hel:e<s.heap.objs.size:=Heap.lt_size he;have hil:it<s.heap.objs.size:=by obtain⟨_,q⟩:=D.live _ _ hst;exact Heap.lt_size q
 have hT2:h2.get? s.heap.objs.size=some {cls:= .type "tuple",data:= .seq #[.int i tk,v]}:=(hs2.2 _ (Nat.ne_of_gt hel)).trans hT;have ob:ObjOk X.prog X.w (upd H s.heap.objs.size (.tup [.int i,z])) h2 s.heap.objs.size (.tup [.int i,z]):=⟨(by show 2<=sizeLine;decide),[.int i tk,v], .cons ⟨tk,rfl⟩ (.cons rz .nil),⟨_,hT2,rfl,_,rfl⟩⟩;have I2:Inv X pins σ (upd H s.heap.objs.size (.tup [.int i,z])) {s with heap:=h2,toks:=tk+1}:=I.turnedLaid hf (λb u hb q=>(hs2.2 b (λz=>hb (by simp[z]))).trans (hk b u (λz=>hb (by simp[z])) (λz=>hb (by simp[z])) q)) (Nat.le_refl _) ob;refine⟨.ref s.heap.objs.size,_,I2,rfl,⟨s.heap.objs.size,z,v,I.hok.fresh (Nat.le_refl _),hP,rz,qz,rfl,rfl⟩,tnk h2 _ he2 (D.frame _ _ _ hs' λb hb o q=>(hs2.2 b λz=>hef (z▸hb)).trans q),λb hb=>?_⟩;have hb':b≠s.heap.objs.size:=by
  rcases List.mem_cons.mp hb with z|hb
  ·rw[z];exact Nat.ne_of_lt hel
  ·rw[List.mem_singleton.mp hb];exact Nat.ne_of_lt hil
 rw[AE hb'];exact(hf b hb).1
theorem J7{x:Str}{t:Tok}(hne:e≠it)
 (W:∀A:Around,A.handled=none->Draws P w A it [it] x.cps.size (λi v=>∃c u,x.cps[i]? =some c/\v= .str ⟨#[c]⟩ u) (λi h=>h.IsStrIter it T x t i)):
 Turn P w K (.Tuple elts k tpos) (EI x) [e,it] e (λi h=>(∃old,IsEnum h e it i old)/\h.IsStrIter it T x t i) where
 mem:=by simp
 obj:=λi h st b hb=>by
  obtain⟨⟨old,he⟩,o,ho,_,hd⟩:=st;rcases List.mem_cons.mp hb with z|hb
  ·subst z;exact⟨_,he,λv z=>by cases z⟩
  ·rw[List.mem_singleton.mp hb];exact⟨o,ho,λv z=>by rw[hd]at z;cases z⟩
 keep:=λi h h' st k=>by
  obtain⟨⟨old,he⟩,o,ho,r⟩:=st;exact⟨⟨old,k e (by simp) _ he⟩,o,k it (by simp) o ho,r⟩
 item:=by
  intro X hP hw hK hc i pins s σ H E I hf st hg;subst hP hw hK;obtain⟨⟨old,he⟩,st⟩:=st;refine thn (Kn (elts:=elts) (k:=k) (tpos:=tpos) (Qx:=λv H z=>∃c,x.cps[i]? =some c/\z= .str ⟨#[c]⟩) (tn:=λh=>(∃old,IsEnum h e it ((i+1:Nat):Int) old)/\h.IsStrIter it T x t (i+1)) (W X.A.in1 (I.ok.hd hc)) I hf he st hg hne (λz=>hne (List.mem_singleton.mp z)) (λh' o a b=>⟨⟨o,by simpa using a⟩,b⟩) ?_) ?_
  ·rintro v ⟨c,u,hx,rfl⟩;exact⟨.str ⟨#[c]⟩,⟨u,rfl⟩,c,hx,rfl⟩
  ·rintro r s1 ⟨u,hr,h1⟩;refine⟨u,hr,thn h1 ?_⟩;rintro _ s2 ⟨xv,H',I2,rx,⟨Ta,z,v,hT,hv,rz,⟨c,hx,rfl⟩,ex,eH⟩,tn2,fr⟩;exact⟨xv,H',I2,rx,⟨Ta,c,hT,hx,ex,eH⟩,tn2,fr⟩
 done:=by
  intro X hP hw hK hc i pins s σ H E I hf st hg;subst hP hw hK;obtain⟨⟨old,he⟩,st⟩:=st;have ei:i=x.cps.size:=hg;subst ei;exact wpAny_pyNext_enum_endD (W X.A.in1 (I.ok.hd hc)) he st λh' hx=>⟨rfl,I.turnedAll (t':=s.toks) hf λb o hb q=>hx b o (λz=>hb (by simp[z])) q⟩
 self:=λA i s Q E st h=>by
  obtain⟨⟨old,he⟩,_⟩:=st;exact wpAny_pyIter_enum he h
theorem Pz(hne:e≠it)(hai:a≠it)(hae:a≠e):
 Turn P w K (.Tuple elts k tpos) (Js K a) [e,it] e (λi h=>(∃old,IsEnum h e it i old)/\h.IsListIter it a i) where
 mem:=by simp
 obj:=λi h st b hb=>by
  obtain⟨⟨old,he⟩,o,ho,_,hd⟩:=st;rcases List.mem_cons.mp hb with z|hb
  ·subst z;exact⟨_,he,λv z=>by cases z⟩
  ·rw[List.mem_singleton.mp hb];exact⟨o,ho,λv z=>by rw[hd]at z;cases z⟩
 keep:=λi h h' st k=>by
  obtain⟨⟨old,he⟩,o,ho,r⟩:=st;exact⟨⟨old,k e (by simp) _ he⟩,o,k it (by simp) o ho,r⟩
 item:=by
  intro X hP hw hK hc i pins s σ H E I hf st hg;subst hP hw hK;obtain⟨⟨old,he⟩,st⟩:=st;obtain⟨xs,x,hq,hx⟩:=hg;obtain⟨its,rv,pl,hz⟩:=I.list hq;have hl:=rv.length;have hil:i<xs.length:=(List.getElem?_eq_some_iff.mp hx).1;have D:Draws X.prog X.w X.A.in1 it [it,a] its.toArray.size (λi v=>its.toArray[i]? =some v) (λi h=>h.IsListIter it a i/\h.IsList a its.toArray):=Draws.list (A:=X.A.in1) (I.ok.hd hc) it a hai its.toArray;refine thn (Kn (elts:=elts) (k:=k) (tpos:=tpos) (Qx:=λv H z=>z=x) (tn:=λh=>(∃old,IsEnum h e it ((i+1:Nat):Int) old)/\h.IsListIter it a (i+1)) D I hf he ⟨st,pl.isList⟩ (by rw[List.size_toArray,<-hl];exact hil) hne (λz=>?_) (λh' o a b=>⟨⟨o,by simpa using a⟩,b.1⟩) ?_) ?_
  ·rcases List.mem_cons.mp z with z|z
   ·exact hne z
   ·exact hae (List.mem_singleton.mp z).symm
  ·intro v hv;obtain⟨u,eu,ru⟩:=rv.get hx;have:v=u:=by
    have hv':its[i]? =some v:=by simpa using hv
    rw[eu]at hv';exact(Option.some.inj hv').symm
   subst this;exact⟨x,ru,rfl⟩
  ·rintro r s1 ⟨u,hr,h1⟩;refine⟨u,hr,thn h1 ?_⟩;rintro _ s2 ⟨xv,H',I2,rx,⟨Ta,z,v,hT,hv,rz,rfl,ex,eH⟩,tn2,fr⟩;refine⟨xv,H',I2,rx,⟨Ta,z,hT,λys hys=>?_,ex,eH⟩,tn2,fr⟩;rw[I.list_inj hys hq];exact hx
 done:=by
  intro X hP hw hK hc i pins s σ H E I hf st hg;subst hP hw hK;obtain⟨⟨old,he⟩,st⟩:=st;obtain⟨xs,hq,ei⟩:=hg;obtain⟨its,rv,pl,hz⟩:=I.list hq;have hl:=rv.length;have D:Draws X.prog X.w X.A.in1 it [it,a] its.toArray.size (λi v=>its.toArray[i]? =some v) (λi h=>h.IsListIter it a i/\h.IsList a its.toArray):=Draws.list (A:=X.A.in1) (I.ok.hd hc) it a hai its.toArray;have es:i=its.toArray.size:=by rw[List.size_toArray,<-hl];exact ei
  exact wpAny_pyNext_enum_endD D he ⟨es▸st,pl.isList⟩ λh' hx=>⟨rfl,I.turnedAll (t':=s.toks) hf λb o hb q=>hx b o (λz=>hb (by simp[z])) q⟩
 self:=λA i s Q E st h=>by
  obtain⟨⟨old,he⟩,_⟩:=st;exact wpAny_pyIter_enum he h
end
def N6(ta:TA):TI:=λσ H R=>ta σ H λvs H1=>∃z,vs=[.str z]/\R (EI z) H1
def Jo(K:W.Frag)(ta:TA):TI:=λσ H R=>ta σ H λvs H1=>∃a,vs=[.ref a]/\(∃xs,SqL K H1 a xs)/\R (Js K a) H1
section
variable{a:Expr}{pos:Pos}{k:Nat}
theorem JF(I:Inv X pins σ H s):∀b∈[s.heap.objs.size+1,s.heap.objs.size],BF X pins H b:=λb hb=>by
 rcases List.mem_cons.mp hb with z|hb
 ·subst z;exact I.fpOk (Nat.le_succ _) (I.hok.fresh (Nat.le_succ _))
 ·rw[List.mem_singleton.mp hb];exact I.fpOk (Nat.le_refl _) (I.hok.fresh (Nat.le_refl _))
theorem Rq(hg:Gl X "enumerate")(hm:X.mg "enumerate"=none)(ha:PA X [a] ta)(hs:starEach [a] X.env=[(false,eval a X.env)]:=by rfl):PI X (.Tuple elts k tpos) (.Call (.Name "enumerate" p) [a] [] pos) (N6 ta):=by
 intro pins s σ H R I h;refine Call_ (CB I hg hm boot_enumerate (PyProof.Rows.callWith_type1 (thn (ha pos pins s σ H _ I h) λus s1 ⟨vs,H1,I1,r1,q1⟩=>?_) hs rfl));obtain⟨z,e,q⟩:=q1;subst e
 cases r1 with
 |cons r rr=>
  cases rr
  obtain⟨t,rfl⟩:=r;refine call_enumerate_str λh' he hit hsz hk=>wpAny_pyIter_enum he ?_
  cases hall:z.cps.all (· <128)
  ·have hit':h'.IsStrIter s1.heap.objs.size "str_iterator" z t 0:=by simpa[strIterType,hall]using hit
   exact⟨s1.heap.objs.size+1,[s1.heap.objs.size+1,s1.heap.objs.size],_,_,H1,rfl,I1.kept (t':=s1.toks) hk,J7 (t:=t) (T:="str_iterator") (Nat.succ_ne_self _) (λA hh=>Draws.strWide hh _ z t),⟨⟨_,he⟩,hit'⟩,JF I1,q⟩
  ·have hit':h'.IsStrIter s1.heap.objs.size "str_ascii_iterator" z t 0:=by simpa[strIterType,hall]using hit
   exact⟨s1.heap.objs.size+1,[s1.heap.objs.size+1,s1.heap.objs.size],_,_,H1,rfl,I1.kept (t':=s1.toks) hk,J7 (t:=t) (T:="str_ascii_iterator") (Nat.succ_ne_self _) (λA hh=>Draws.strAscii hh _ z t),⟨⟨_,he⟩,hit'⟩,JF I1,q⟩
theorem Rr(hg:Gl X "enumerate")(hm:X.mg "enumerate"=none)(ha:PA X [a] ta)(hs:starEach [a] X.env=[(false,eval a X.env)]:=by rfl):PI X (.Tuple elts k tpos) (.Call (.Name "enumerate" p) [a] [] pos) (Jo X.K ta):=by
 intro pins s σ H R I h;refine Call_ (CB I hg hm boot_enumerate (PyProof.Rows.callWith_type1 (thn (ha pos pins s σ H _ I h) λus s1 ⟨vs,H1,I1,r1,q1⟩=>?_) hs rfl));obtain⟨l,e,⟨xs,hq⟩,q⟩:=q1;subst e
 cases r1 with
 |cons r rr=>
  cases rr
  cases r
  obtain⟨its,rv,pl,hz⟩:=I1.list hq;obtain⟨ol,hol,_⟩:=id pl.isList;have hl:l<s1.heap.objs.size:=Heap.lt_size hol;refine call_enumerate_list pl.isList λh' he hit hsz hk=>wpAny_pyIter_enum he ?_;exact⟨s1.heap.objs.size+1,[s1.heap.objs.size+1,s1.heap.objs.size],_,_,H1,rfl,I1.kept (t':=s1.toks) hk,Pz (Nat.succ_ne_self _) (Nat.ne_of_lt hl) (Nat.ne_of_lt (Nat.lt_succ_of_lt hl)),⟨⟨_,he⟩,hit⟩,JF I1,q⟩
end
def tx(l:List Nat):V:= .str ⟨l.toArray⟩
theorem tx_inj{a:List Nat}:tx a=tx b↔a=b:=by
 unfold tx
 constructor
 ·intro h;injection h with h
  injection h with h
  simpa using congrArg Array.toList h
 ·rintro rfl;rfl
theorem Bd(a:List Nat):(⟨a.toArray⟩:Str).length=a.length:=by simp[Str.length]
theorem M5(a b:List Nat):eqV (tx a) (tx b)=decide (a=b):=by
 have e:eqV (tx a) (tx b)=((⟨a.toArray⟩:Str)==⟨b.toArray⟩):=rfl;rw[e]
 by_cases h:a=b
 ·subst h;simp
 ·rw[decide_eq_false h,beq_eq_false_iff_ne];intro q;exact h (tx_inj.mp (congrArg V.str q))
theorem NA(a b:List Nat):decide (tx a=tx b)=decide (a=b):=by
 by_cases h:a=b
 ·subst h;simp
 ·rw[decide_eq_false h,decide_eq_false (λq=>h (tx_inj.mp q))]
theorem Ap{x:Str}{l:List Nat}{j pos}(h:x=⟨l.toArray⟩):PE X (.Constant (.str x) j pos) (tC (tx l)):=by
 subst h;exact VN
theorem op_addT:OpR X (binaryOp .Add) (λx y H Q=>∃a b,x=tx a/\y=tx b/\a.length+b.length<=sizeLine/\Q (tx (a++b)) H):=by
 intro pins s σ H x y v u Q I rx ry ⟨a,b,e1,e2,hz,q⟩;subst e1 e2;refine QB pins s σ H _ _ v u Q I rx ry ⟨_,_,rfl,rfl,by rw[Bd,Bd];exact hz,?_⟩;have e:(V.str ((⟨a.toArray⟩:Str)++⟨b.toArray⟩))=tx (a++b):=by
  unfold tx;congr 1;show(⟨a.toArray++b.toArray⟩:Str)=_;simp
 rw[e];exact q
def rIxT':R2:=λx y H Q=>∃a i c,x=tx a/\y= .int i/\a.length<=sizeLine/\atI a i=some c/\Q (tx [c]) H
theorem ix_T:IxR X rIxT':=by
 intro value slice pins s σ H x y v u Q I rx ry ⟨a,i,c,e1,e2,hz,he,q⟩ hs;subst e1 e2;exact Vg value slice pins s σ H _ _ v u Q I rx ry ⟨_,i,c,rfl,rfl,by rw[Bd];exact hz,by simpa using he,q⟩ hs
theorem call_lenT:CallR X (.builtin "len") (λxs H Q=>∃a,xs=[tx a]/\a.length<=sizeLine/\Q (.int a.length) H):=by
 intro pins s σ H xs us Q I r ⟨a,e,hz,q⟩;subst e;refine PQ pins s σ H _ us Q I r ⟨_,rfl,by rw[Bd];exact hz,?_⟩;rw[Bd];exact q
theorem op_inT:OpR X (compareOp .In) (λx y H Q=>∃c l,x=tx [c]/\y=tx l/\Q (.bl (decide (c∈l))) H):=by
 intro pins s σ H x y v u Q I rx ry ⟨c,l,e1,e2,q⟩;subst e1 e2;refine Qp pins s σ H _ _ v u Q I rx ry ⟨_,_,rfl,rfl,?_⟩;have e:=PySem.StrLaws.found_one (⟨l.toArray⟩:Str) c;simp only at e;rw[show(⟨[c].toArray⟩:Str)=⟨#[c]⟩from rfl,e];exact q
theorem op_notinT:OpR X (compareOp .NotIn) (λx y H Q=>∃c l,x=tx [c]/\y=tx l/\Q (.bl (!decide (c∈l))) H):=by
 intro pins s σ H x y v u Q I rx ry ⟨c,l,e1,e2,q⟩;subst e1 e2;refine PF pins s σ H _ _ v u Q I rx ry ⟨_,_,rfl,rfl,?_⟩;have e:=PySem.StrLaws.found_one (⟨l.toArray⟩:Str) c;simp only at e;rw[show(⟨[c].toArray⟩:Str)=⟨#[c]⟩from rfl,e];exact q
theorem LF(a:List Nat):∀ (n:Nat) (acc:Array Nat),((List.replicate n a.toArray).foldl (· ++ ·) acc)=(acc.toList++(List.replicate n a).flatten).toArray
 |0,acc=>by simp
 |n+1,acc=>by
  rw[List.replicate_succ,List.foldl_cons,LF a n,List.replicate_succ,List.flatten_cons];simp
theorem MC:OpR X (binaryOp .Mult) (λx y H Q=>∃a k,x=tx a/\y= .int k/\0<=k/\k<=1000/\a.length<=1000/\Q (tx (List.replicate k.toNat a).flatten) H):=by
 intro pins s σ H x y v u Q I rx ry ⟨a,k,e1,e2,h0,h1,hl,q⟩;subst e1 e2;obtain⟨t,rfl⟩:=rx;obtain⟨t',rfl⟩:=ry;have e:Txt.mul ⟨a.toArray⟩ k=⟨((List.replicate k.toNat a).flatten).toArray⟩:=by
  unfold Txt.mul
  by_cases hk:k<1
  ·have:k=0:=by lia
   subst this
   rfl
  ·rw[if_neg hk]
   split
   ·rename_i hc
    rw[Bd]at hc;simp only[Bool.or_eq_true,beq_iff_eq]at hc;rcases hc with hc|hc
    ·subst hc;simp
    ·have:a=[]:=List.length_eq_zero_iff.mp hc;subst this;simp
   ·simp only;rw[LF];simp
 refine SB.mul ⟨by simp;lia,λh2 _=>?_,λh2 _=>?_⟩ λt2 tk=>⟨tx (List.replicate k.toNat a).flatten,H,I.tok tk,⟨t2,by rw[e]⟩,q⟩
 ·rw[Bd];have:(1000:Int)<=(2^63-1)/k:=by
   refine Int.le_ediv_of_mul_le (by lia) ?_;lia
  lia
 ·rw[Bd];unfold Builtin.Str.tooLong;have hs:sizeLine=16777216:=sizeLine_eq;have:a.length*k.toNat<=1000*1000:=Nat.mul_le_mul hl (by lia);simp;lia
def Ba{α:Type}(xs:List α)(lo hi:Option Int):List α:=(xs.drop (HT.sIx xs.length 0 lo)).take (HT.sIx xs.length xs.length hi-HT.sIx xs.length 0 lo)
theorem Nd(v:Option Int)(n d:Nat)(hd:d<=n):(match v with|none=>(d:Int)|some i=>max 0 (min (if i<0 then i+(n:Int)else i) (n:Int)))=((HT.sIx n d v:Nat):Int):=by
 cases v with
 |none=>rfl
 |some i=>
  show max 0 (min (if i<0 then i+(n:Int)else i) (n:Int))=(((if i<0 then(i+(n:Int)).toNat else min i.toNat n):Nat):Int)
  by_cases hv:i<0
  ·simp only[if_pos hv];lia
  ·simp only[if_neg hv];lia
theorem UM(lo hi:Option Int)(n:Nat):Builtin.Str.strSliceIndices lo hi 1 n=(List.range (HT.sIx n n hi-HT.sIx n 0 lo)).map λk=>HT.sIx n 0 lo+k:=by
 have h1:(1:Int)>0:=by lia
 have key:Builtin.Str.strSliceIndices lo hi 1 n=sliceRange ((HT.sIx n 0 lo:Nat):Int) ((HT.sIx n n hi:Nat):Int) 1:=by
  unfold Builtin.Str.strSliceIndices;simp only[h1,if_true];congr 1
  ·cases lo with
   |none=>rfl
   |some i=>exact Nd (some i) n 0 (Nat.zero_le _)
  ·cases hi with
   |none=>rfl
   |some i=>exact Nd (some i) n n (Nat.le_refl _)
 rw[key];unfold sliceRange;simp only[h1,if_true];have e3:(if((HT.sIx n 0 lo:Nat):Int)<((HT.sIx n n hi:Nat):Int)then(((HT.sIx n n hi:Nat):Int)-((HT.sIx n 0 lo:Nat):Int)+1-1)/1 else 0).toNat=HT.sIx n n hi-HT.sIx n 0 lo:=by
  split<;>lia
 rw[e3];refine List.map_congr_left λk _=>?_;lia
theorem Rp(a:List Nat)(i k:Nat):((List.range k).map λm=>i+m).filterMap (λj=>a.toArray[j]?)=(a.drop i).take k:=by
 rw[List.filterMap_map]
 induction k generalizing i with
 |zero=>simp
 |succ k ih=>
  rw[List.range_succ,List.filterMap_append,ih i,List.take_add_one];congr 1;simp only[List.filterMap_cons,List.filterMap_nil,Function.comp];rw[List.getElem?_drop];simp only[List.getElem?_toArray]
  cases a[i+k]? <;>rfl
theorem Vt(a:List α)(lo hi:Option Int):(Ba a lo hi).length<=a.length:=by
 unfold Ba;rw[List.length_take,List.length_drop];lia
def rSlS:V->Option Int->Option Int->Hp->VK->Prop:=λx lo hi H Q=>∃a,x=tx a/\a.length<=sizeLine/\Q (tx (Ba a lo hi)) H
theorem sl_T:SlR X rSlS:=by
 intro pins s σ H x v vl vu lo hi sl Q I rx hs pl pu ⟨a,e,hz,q⟩;subst e;obtain⟨t,rfl⟩:=rx;refine⟨"str",_,F.slot_str_getitem.lookup,typeIs_str _ _ _,?_⟩;obtain⟨l,el,ml⟩:∃l:Option (Int×Tok),vl=partValue l/\l.map (·.1)=lo:=by
  cases pl with
  |none=>exact⟨none,rfl,rfl⟩
  |int i t=>exact⟨some (i,t),rfl,rfl⟩
 obtain⟨u,eu,mu⟩:∃u:Option (Int×Tok),vu=partValue u/\u.map (·.1)=hi:=by
  cases pu with
  |none=>exact⟨none,rfl,rfl⟩
  |int i t=>exact⟨some (i,t),rfl,rfl⟩
 subst el eu;refine wpAny_getItem_str_slice (l:=l) (u:=u) (st:=none) hs rfl ?_;have hle:=Vt a lo hi;have ep:slicePicked ⟨a.toArray⟩ l u none=(List.range (HT.sIx a.length a.length hi-HT.sIx a.length 0 lo)).map λk=>HT.sIx a.length 0 lo+k:=by
  unfold slicePicked;rw[ml,mu,Bd];exact UM lo hi a.length
 have ec:((slicePicked ⟨a.toArray⟩ l u none).filterMap (a.toArray[·]?))=Ba a lo hi:=by
  rw[ep];exact Rp a _ _
 unfold sliceMade;refine post_val_or_str ?_;have fin:(if((Option.map (λx=>x.1) (none:Option (Int×Tok))).getD 1==1&&(slicePicked ⟨a.toArray⟩ l u none).length==(⟨a.toArray⟩:Str).length)=true then(⟨a.toArray⟩:Str)else⟨((slicePicked ⟨a.toArray⟩ l u none).filterMap (a.toArray[·]?)).toArray⟩)=⟨(Ba a lo hi).toArray⟩:=by
  rw[ec]
  split
  ·rename_i hc
   rw[ep,Bd]at hc;simp only[Option.map_none,Option.getD_none,beq_self_eq_true,Bool.true_and,List.length_map,List.length_range,beq_iff_eq]at hc;have hl:HT.sIx a.length a.length hi<=a.length:=HT.sIx_le _ _ (Nat.le_refl _) _;have h0:HT.sIx a.length 0 lo=0\/a.length=0:=by lia
   unfold Ba;rw[hc];rcases h0 with h0|h0
   ·rw[h0,List.drop_zero,List.take_length]
   ·have:a=[]:=List.length_eq_zero_iff.mp h0;subst this;simp
  ·rfl
 have fin':=fin;simp only at fin'⊢;rw[fin'];refine⟨by rw[Bd];lia,λt' k=>⟨tx (Ba a lo hi),H,I.tok k,⟨t',rfl⟩,q⟩⟩
theorem Se:CallR X (.builtin "isinstance") (λxs H Q=>∃x T t b,xs=[x, .ty T]/\TyOf X.K H x t/\W.kitOne X.K t (.type T)=some b/\Q (.bl b) H):=by
 intro pins s σ H xs us Q I r ⟨x,T,t,b,e,ty,hk,q⟩;subst e;obtain⟨u,w',rfl,ru,rw'⟩:=vals2 r
 cases rw'
 exact Q6 I ru ty hk λtk=>⟨.bl b,H,I.tok tk,rfl,q⟩
theorem RL:CallR X (.builtin "all") (λxs H Q=>X.calm=true/\∃ (a:Addr) (bs:List Bool),xs=[.ref a]/\SqL X.K H a (bs.map V.bl)/\Q (.bl (bs.all id)) H):=by
 intro pins s σ H xs us Q I r ⟨hc,a,bs,e,hq,q⟩;subst e;obtain⟨u,rfl,ru⟩:=vals1 r
 cases ru
 obtain⟨its,rv,pl,hz⟩:=I.list hq;obtain⟨ol,hol,_⟩:=id pl.isList;have hl:a<s.heap.objs.size:=Heap.lt_size hol;have hlen:=rv.length;rw[List.length_map]at hlen;refine call_all_walk (wpAny_pyIter_list pl.isList ⟨s.heap.objs.size,_,_,_,_,_,λi=>bs.getD i false,rfl,Walks.list (A:=X.A.in1) (I.ok.hd hc) s.heap.objs.size a (Nat.ne_of_lt hl) its.toArray,⟨⟨_,Heap.get?_push_size _ rfl,rfl,rfl⟩,pl.isList.at λo e=>Heap.get?_push_of_some _ e⟩,?_,λh' tk kk=>?_⟩)
 ·intro i v s' Q' E' hv hQ';have hv':its[i]? =some v:=by simpa using hv
  have hi:i<bs.length:=by rw[hlen];exact(List.getElem?_eq_some_iff.mp hv').1
  obtain⟨w',e1,e2⟩:=rv.get (i:=i) (x:=V.bl bs[i]) (by simp[hi]);rw[hv']at e1
  cases e1
  cases e2
  have:bs.getD i false=bs[i]:=by simp[List.getD_eq_getElem?_getD,hi]
  simp only[this]at hQ';exact wpAny_truthy_bool hQ'
 ·have e:(List.range its.toArray.size).all (λi=>bs.getD i false)=bs.all id:=by
   rw[List.size_toArray,<-hlen];rw[Bool.eq_iff_iff];simp only[List.all_eq_true,List.mem_range,id]
   constructor
   ·intro h b hb;obtain⟨i,hi,rfl⟩:=List.mem_iff_getElem.mp hb;have:=h i hi;simpa[List.getD_eq_getElem?_getD,hi]using this
   ·intro h i hi;have:=h bs[i] (List.getElem_mem hi);simpa[List.getD_eq_getElem?_getD,hi]using this
  rw[e];have I1:Inv X pins σ H {s with heap:=s.heap.push {cls:= .type "list_iterator",data:= .fields #[.ref a, .int 0 0]}}:=I.kept (t':=s.toks) λb o z=>Heap.get?_push_of_some _ z;refine⟨.bl (bs.all id),H,I.kept (t':=tk) λb o z=>kk b o (λy=>?_) (Heap.get?_push_of_some _ z),rfl,q⟩;exact absurd (Heap.lt_size z) (by rw[List.mem_singleton.mp y];exact Nat.lt_irrefl _)
def eqVs:List V->List V->Bool
 |[],[]=>true
 |x::xs,y::ys=>eqV x y&&eqVs xs ys
 |_,_=>false
theorem Hu:∀ {xs ys:List V},xs.length≠ys.length->eqVs xs ys=false
 |[],[],h=>absurd rfl h
 |[],_::_,_=>rfl
 |_::_,[],_=>rfl
 |x::xs,y::ys,h=>by
  have:eqVs xs ys=false:=Hu (by simpa using h);show(eqV x y&&eqVs xs ys)=false;rw[this,Bool.and_false]
theorem Gy:∀ (xs ys:List V),xs.length=ys.length->(List.range xs.length).all (λi=>eqV (xs.getD i .non) (ys.getD i .non))=eqVs xs ys
 |[],[],_=>rfl
 |x::xs,y::ys,h=>by
  have ih:=Gy xs ys (by simpa using h);rw[List.length_cons,List.range_succ_eq_map,List.all_cons,List.all_map];show(eqV x y&&_)=(eqV x y&&eqVs xs ys);rw[<-ih]
  rfl
 |[],_::_,h=>by simp at h
 |_::_,[],h=>by simp at h
theorem IX{A:Around}{ws:List Value}(r1:Vals xs us)(r2:Vals ys ws)(f1:xs.all As=true)(f2:ys.all As=true):
 ∀j (h1:j<us.toArray.size) (h2:j<ws.toArray.size),SeqAt.EqAt A s us.toArray[j] ws.toArray[j] (eqV (xs.getD j .non) (ys.getD j .non)):=by
 intro j h1 h2;have l1:=r1.length;have l2:=r2.length;rw[List.size_toArray]at h1 h2;have k1:j<xs.length:=by lia
 have k2:j<ys.length:=by lia
 obtain⟨u,e1,q1⟩:=r1.get (i:=j) (x:=xs[j]) (by simp[k1]);obtain⟨w',e2,q2⟩:=r2.get (i:=j) (x:=ys[j]) (by simp[k2]);have eu:us.toArray[j]=u:=by
  have:=List.getElem?_eq_getElem (l:=us) (i:=j) h1;rw[e1]at this;simpa using(Option.some.inj this).symm
 have ew:ws.toArray[j]=w':=by
  have:=List.getElem?_eq_getElem (l:=ws) (i:=j) h2;rw[e2]at this;simpa using(Option.some.inj this).symm
 rw[eu,ew];have g1:xs.getD j .non=xs[j]:=by simp[List.getD_eq_getElem?_getD,k1]
 have g2:ys.getD j .non=ys[j]:=by simp[List.getD_eq_getElem?_getD,k2]
 rw[g1,g2];exact M7 q1 q2 (List.all_eq_true.mp f1 _ (List.getElem_mem k1)) (List.all_eq_true.mp f2 _ (List.getElem_mem k2))
def GN(K:W.Frag)(neg:Bool):R2:=λx y H Q=>∃a b xs ys,x= .ref a/\y= .ref b/\SqL K H a xs/\SqL K H b ys/\xs.all As=true/\ys.all As=true/\Q (.bl (if neg then !eqVs xs ys else eqVs xs ys)) H
theorem VX(hu:X.A.units<cLine):OpR X (compareOp .Eq) (GN X.K false):=by
 intro pins s σ H x y v u Q I rx ry ⟨a,b,xs,ys,e1,e2,q1,q2,f1,f2,q⟩;subst e1 e2
 cases rx
 cases ry
 obtain⟨us,r1,p1,z1⟩:=I.list q1;obtain⟨ws,r2,p2,z2⟩:=I.list q2;have l1:=r1.length;have l2:=r2.length
 by_cases hl:xs.length=ys.length
 ·refine SeqAt.eq_listAt p1.isList p2.isList (by simp;lia) hu (IX r1 r2 f1 f2) ⟨.bl _,H,I,rfl,?_⟩;rw[List.size_toArray,<-l1,Gy xs ys hl];exact q
 ·refine SeqAt.eq_list_lengthsAt p1.isList p2.isList (by simp;lia) hu ⟨.bl _,H,I,rfl,?_⟩;rw[<-Hu hl];exact q
theorem VU(hu:X.A.units<cLine):OpR X (compareOp .NotEq) (GN X.K true):=by
 intro pins s σ H x y v u Q I rx ry ⟨a,b,xs,ys,e1,e2,q1,q2,f1,f2,q⟩;subst e1 e2
 cases rx
 cases ry
 obtain⟨us,r1,p1,z1⟩:=I.list q1;obtain⟨ws,r2,p2,z2⟩:=I.list q2;have l1:=r1.length;have l2:=r2.length
 by_cases hl:xs.length=ys.length
 ·refine SeqAt.RcNeAt.lists p1.isList p2.isList (by simp;lia) hu (IX r1 r2 f1 f2) _ _ _ _ ⟨.bl _,H,I,rfl,?_⟩;rw[List.size_toArray,<-l1,Gy xs ys hl];exact q
 ·refine SeqAt.RcNeAt.lists_lengths p1.isList p2.isList (by simp;lia) hu _ _ _ _ ⟨.bl _,H,I,rfl,?_⟩;have:eqVs xs ys=false:=Hu hl;rw[if_pos rfl,this]at q;exact q
def ED:V->Bool
 | .non=>true
 | .bl _=>true
 |_=>false
theorem VW:OpR X (compareOp .Is) (λx y H Q=>ED y=true/\Q (.bl (decide (x=y))) H):=by
 intro pins s σ H x y v u Q I rx ry ⟨hl,q⟩;refine wpAny_is_plain ?_ ⟨.bl _,H,I,?_,q⟩
 ·cases y<;>first
   |(exact absurd hl Bool.false_ne_true)
   |(cases ry;cases x<;>first|(cases rx;rfl)|(obtain⟨t,rfl⟩:=rx;rfl))
 ·cases y<;>first
   |(exact absurd hl Bool.false_ne_true)
   |(cases ry;cases x<;>first|(cases rx;rfl)|(obtain⟨t,rfl⟩:=rx;rfl)|(cases rx;rename_i b1 _ b2;cases b1<;>cases b2<;>rfl)|(cases rx;rename_i b1 b2;cases b1<;>cases b2<;>rfl)|(cases rx;rename_i b1 _ b2 _;cases b1<;>cases b2<;>rfl))
theorem Qn:OpR X (compareOp .IsNot) (λx y H Q=>ED y=true/\Q (.bl (!decide (x=y))) H):=by
 intro pins s σ H x y v u Q I rx ry ⟨hl,q⟩;refine wpAny_isNot_plain ?_ ⟨.bl _,H,I,?_,q⟩
 ·cases y<;>first
   |(exact absurd hl Bool.false_ne_true)
   |(cases ry;cases x<;>first|(cases rx;rfl)|(obtain⟨t,rfl⟩:=rx;rfl))
 ·cases y<;>first
   |(exact absurd hl Bool.false_ne_true)
   |(cases ry;cases x<;>first|(cases rx;rfl)|(obtain⟨t,rfl⟩:=rx;rfl)|(cases rx;rename_i b1 _ b2;cases b1<;>cases b2<;>rfl)|(cases rx;rename_i b1 b2;cases b1<;>cases b2<;>rfl)|(cases rx;rename_i b1 _ b2 _;cases b1<;>cases b2<;>rfl))
def rPlus:R2:=λx y H Q=>(∃i j,x= .int i/\y= .int j/\Q (.int (i+j)) H)\/(∃a b,x=tx a/\y=tx b/\a.length+b.length<=sizeLine/\Q (tx (a++b)) H)\/rCat x y H Q
theorem AX:OpR X (binaryOp .Add) rPlus:=op_add.or (op_addT.or VY)
def NU:R2:=λx y H Q=>∃a k,x=tx a/\y= .int k/\0<=k/\k<=1000/\a.length<=1000/\Q (tx (List.replicate k.toNat a).flatten) H
def rTimes:R2:=λx y H Q=>(∃i j,x= .int i/\y= .int j/\CMul i j/\Q (.int (i*j)) H)\/rRep x y H Q\/NU x y H Q
theorem Ax:OpR X (binaryOp .Mult) rTimes:=op_mul.or (op_rep.or MC)
def E8(K:W.Frag):R2:=λx y H Q=>rEq x y H Q\/GN K false x y H Q
theorem A3(K:W.Frag)(hu:X.A.units<cLine)(hK:X.K=K:=by rfl):OpR X (compareOp .Eq) (E8 K):=by subst hK;exact op_eq.or (VX hu)
def EB(K:W.Frag):R2:=λx y H Q=>rNe x y H Q\/GN K true x y H Q
theorem Bq(K:W.Frag)(hu:X.A.units<cLine)(hK:X.K=K:=by rfl):OpR X (compareOp .NotEq) (EB K):=by subst hK;exact op_ne.or (VU hu)
def Jl(K:W.Frag):R2:=λx y H Q=>(∃c l,x=tx [c]/\y=tx l/\Q (.bl (decide (c∈l))) H)\/rIn K false x y H Q
theorem DN(K:W.Frag)(hK:X.K=K:=by rfl):OpR X (compareOp .In) (Jl K):=by subst hK;exact op_inT.or Qq
def IR(K:W.Frag):R2:=λx y H Q=>(∃c l,x=tx [c]/\y=tx l/\Q (.bl (!decide (c∈l))) H)\/rIn K true x y H Q
theorem Kb(K:W.Frag)(hK:X.K=K:=by rfl):OpR X (compareOp .NotIn) (IR K):=by subst hK;exact op_notinT.or PH
def rIsA:R2:=λx y H Q=>ED y=true/\Q (.bl (decide (x=y))) H
theorem Cd:OpR X (compareOp .Is) rIsA:=VW
def rIsNotA:R2:=λx y H Q=>ED y=true/\Q (.bl (!decide (x=y))) H
theorem Kc:OpR X (compareOp .IsNot) rIsNotA:=Qn
def Cm(K:W.Frag):R2:=λx y H Q=>rIxT' x y H Q\/Nv K x y H Q\/Nu K x y H Q
theorem AI(K:W.Frag)(hK:X.K=K:=by rfl):IxR X (Cm K):=by subst hK;exact ix_T.or (ix_list.or Vf)
def Nt(K:W.Frag):V->Option Int->Option Int->Hp->VK->Prop:=λx lo hi H Q=>rSlS x lo hi H Q\/Nr K x lo hi H Q
theorem B1(K:W.Frag)(hK:X.K=K:=by rfl):SlR X (Nt K):=by subst hK;exact sl_T.or Su
def E7(K:W.Frag):List V->Hp->VK->Prop:=λxs H Q=>(∃a,xs=[tx a]/\a.length<=sizeLine/\Q (.int a.length) H)\/∃p ys,xs=[.ref p]/\(SqL K H p ys\/SqT K H p ys)/\Q (.int ys.length) H
theorem Ar(K:W.Frag)(hK:X.K=K:=by rfl):CallR X (.builtin "len") (E7 K):=by subst hK;exact call_lenT.or PR
def Ny(K:W.Frag):List V->Hp->VK->Prop:=λxs H Q=>∃ (a:Addr) (bs:List Bool),xs=[.ref a]/\SqL K H a (bs.map V.bl)/\Q (.bl (bs.all id)) H
theorem Kr(K:W.Frag)(hc:X.calm=true)(hK:X.K=K:=by rfl):CallR X (.builtin "all") (Ny K):=by subst hK;exact λpins s σ H xs us Q I r h=>RL pins s σ H xs us Q I r ⟨hc,h⟩
def Nx(K:W.Frag):List V->Hp->VK->Prop:=λxs H Q=>∃x T t b,xs=[x, .ty T]/\TyOf K H x t/\W.kitOne K t (.type T)=some b/\Q (.bl b) H
theorem ES(K:W.Frag)(hK:X.K=K:=by rfl):CallR X (.builtin "isinstance") (Nx K):=by subst hK;exact Se
def rInt:List V->Hp->VK->Prop:=λxs H Q=>(∃i,xs=[.int i]/\Q (.int i) H)\/∃k,xs=[.bl k]/\Q (.int (if k then 1 else 0)) H
theorem HR:CallR X (.type "int") rInt:=RK
def Ni(K:W.Frag)(ta:TE):TT:=λσ H Q=>ta σ H λx H'=>∃k,EH K x H' k/\Q k H'
theorem BU(K:W.Frag){a:Expr}{ta:TE}(ha:PE X a ta)(he:∀whole,isTrue a X.env whole=(do let v<-whole;standAt a.pos;holding [v] (truthy v)):=by intro _;rfl)(hK:X.K=K:=by rfl):PT X a (Ni K ta):=by subst hK;exact Ro ha he
theorem Bv(K:W.Frag){l:Expr}(hl:PE X l tl)(hK:X.K=K:=by rfl):PI X tg l (Jb K tl):=by subst hK;exact Td hl
theorem Qj(K:W.Frag){a:Expr}{pos:Pos}{k:Nat}(hg:Gl X "enumerate")(hm:X.mg "enumerate"=none)(ha:PA X [a] ta)(hs:starEach [a] X.env=[(false,eval a X.env)]:=by rfl)(hK:X.K=K:=by rfl):PI X (.Tuple elts k tpos) (.Call (.Name "enumerate" p) [a] [] pos) (Jo K ta):=by subst hK;exact Rr hg hm ha hs
theorem By(K:W.Frag){k:Nat}{t:TGs}{pos:Pos}(hc:X.calm=true)(h:PGs X es t)
 (hn:(assignEach es X.env).length=n:=by rfl) (hst:(assignEach es X.env).findIdx? (·.1)=none:=by rfl) (hK:X.K=K:=by rfl):PG X (.Tuple es k pos) (EG K n t):=by subst hK;exact VL hc h hn hst
theorem Fk(K:W.Frag){id:String}(pa:PlainAttrs T)(slot:Slot T name id)(hty:typeOf (.builtin id)=pure (.type "method_descriptor"))(hm:MtR X id r)(ho:PE X o to)
 (hbase:attributeBase o name X.env (eval o X.env)=eval o X.env:=by rfl) (hline:(apos.endLine==cpos.line)=true:=by rfl) (hK:X.K=K:=by rfl):PE X (.Call (.Attribute o name apos) [] [] cpos) (GL K T r to):=by subst hK;exact VR pa slot hty hm ho hbase hline
theorem Bp(K:W.Frag){e:Expr}{id:String}(pa:PlainAttrs T)(slot:Slot T name id)(hty:typeOf (.builtin id)=pure (.type "method_descriptor"))(hm:MtR X id r)(ho:PE X o to)(ha:PA X (e::es) t)
 (hbase:attributeBase o name X.env (eval o X.env)=eval o X.env:=by rfl)
 (hfew:((backTo cpos (starEach (e::es) X.env)).all (λx=> !x.1)&&(backToKw cpos (keywordEach [] X.env)).all (λx=>x.1.isSome)
   &&decide ((e::es).length+([]:List Keyword).length+(if([]:List Keyword).isEmpty then 0 else 1)<30))=true:=by rfl)
 (hline:(apos.endLine==cpos.line)=true:=by rfl) (hs:starEach (e::es) X.env=(false,eval e X.env)::starEach es X.env:=by rfl) (hplain:(backTo cpos (starEach es X.env)).any (·.1)=false:=by rfl) (hK:X.K=K:=by rfl):
 PE X (.Call (.Attribute o name apos) (e::es) [] cpos) (tBM K T r to t):=by subst hK;exact WV pa slot hty hm ho ha hbase hfew hline hs hplain
theorem BK{x:Str}{pos:Pos}(h:∃u,X.mg x=some u/\RelV v u)(hg:Gl X x:=by rfl)(hd:(x==("__debug__":Str))=false:=by decide):PE X (.Name x pos) (tC v):=by
 obtain⟨u,hm,r⟩:=h;exact To hg hm r hd
theorem E3{x:Str}{pos:Pos}(hm:X.mg x=none)(hv:bootBuiltins x=some (.type T))(hg:Gl X x:=by rfl)(hn:x≠"__name__":=by decide)(hd:(x==("__debug__":Str))=false:=by decide):PE X (.Name x pos) (tC (.ty T)):=
 Tq hg hm hv rfl hn hd
structure FnU (P:Program) (w:World) (K:W.Frag) (mg:Str->Option Value) (base:Heap) (k:Nat) (x:Str) (ps:List Str) (sp:Sp):Prop where
 ex:∃f fd,FnOk P w K mg base CX0 k f fd ps sp/\mg x=some (.ref f)/\W.keepIn K (.ref f)=true/\Binds K fd ps []
theorem FnU.mono{j k:Nat}{x:Str}(U:FnU P w K mg base j x ps sp)(h:j<=k):FnU P w K mg base k x ps sp:=by
 obtain⟨f,fd,F,a,b,c⟩:=U.ex;exact⟨f,fd,F.mono h,a,b,c⟩
theorem AV{k:Nat}{x:Str}{e:Expr}{pos:Pos}(U:FnU X.prog X.w X.K X.mg X.base k x ps sp)(hr:Room k X.A)(ha:PA X (e::es) t)(hg:Gl X x:=by rfl)
 (hdb:(x==("__debug__":Str))=false:=by decide) (he:starEach (e::es) X.env=(false,eval e X.env)::starEach es X.env:=by rfl) (hpl:(backTo pos (starEach es X.env)).any (·.1)=false:=by rfl):
 PE X (.Call (.Name x p) (e::es) [] pos) (CM sp [] E0 t):=by
 obtain⟨f,fd,F,hm,hk,hb⟩:=U.ex;exact Tp F hr hg hm hk hb .nil GB ha hdb he hpl
theorem WA{t u:TS}(h:t {D with nx:=u D} σ H):DV t u D σ H:=h
theorem Wn{c:TT}{t u:TS}(h:c σ H λb H1=>if b=true then t D σ H1 else u D σ H1):Ji c t u D σ H:=h
theorem WR(h:te σ H λx H1=>g x σ H1 D.nx):Ck te g D σ H:=h
theorem WQ{i:Nat}{ti:TIp}(e:σ[i]? =some (some x))(h:te σ H λy H1=>ti x y H1 λz H2=>D.nx (σ.set i (some z)) H2):Nm i te ti D σ H:=⟨x,e,h⟩
theorem D4(h:Q (.int (f i j)) H):ipI f (.int i) (.int j) H Q:=⟨i,j,rfl,rfl,h⟩
theorem WB(h:te σ H D.rt):Jh te D σ H:=h
theorem U5(h:te σ H λ_ H1=>D.nx σ H1):Ez te D σ H:=h
theorem Up(h:D.nx σ H):tNext D σ H:=h
theorem U6(h:D.ct σ H):tCont D σ H:=h
theorem Uq{i:Nat}{R:W2->Hp->Prop}(h:R (σ.set i (some v)) H):BY i v σ H R:=h
theorem U1{R:W2->Hp->Prop}(h:R σ H):gNil [] σ H R:=⟨rfl,h⟩
theorem TF{t:TG}{u:TGs}{r:List V}{R:W2->Hp->Prop}(h:t v σ H λσ' H'=>u r σ' H' R):GG t u (v::r) σ H R:=⟨v,r,rfl,h⟩
theorem Uz{t:TGs}{R:W2->Hp->Prop}(hq:SqT K H a xs)(hl:xs.length=n)(h:t xs σ H R):EG K n t (.ref a) σ H R:=⟨a,xs,rfl,hq,hl,h⟩
theorem U0{t:TSet}{R:W2->Hp->Prop}(h:to σ H λo H1=>ti σ H1 λi H2=>t o i v H2 λH3=>R σ H3):GP to ti t v σ H R:=h
theorem GA{i:Nat}(e:σ[i]? =some (some v))(q:Q v H):Ah i σ H Q:=⟨v,e,q⟩
theorem s_c(q:Q v H):tC v σ H Q:=q
theorem Wl{r:R2}{ta:TE}(h:ta σ H λx H1=>tb σ H1 λy H2=>r x y H2 Q):tOp r ta tb σ H Q:=h
theorem Wh{r:V->Hp->VK->Prop}{ta:TE}(h:ta σ H λx H1=>r x H1 Q):tUn r ta σ H Q:=h
theorem WE{g:Int->V}(h:Q (g i) H):rU g (.int i) H Q:=⟨i,rfl,h⟩
theorem U9{E:XK}(h:t σ H λvs H1=>sp (vs++dvs) H1 Q E):CM sp dvs E t σ H Q:=h
theorem U7{ta:TE}{tr:TA}{R:List V->Hp->Prop}(h:ta σ H λx H1=>tr σ H1 λxs H2=>R (x::xs) H2):Ag ta tr σ H R:=h
theorem WD{R:List V->Hp->Prop}(h:R [] H):tNil σ H R:=h
theorem Wo{r:List V->Hp->VK->Prop}(h:t σ H λvs H1=>r vs H1 Q):tCB r t σ H Q:=h
theorem WI(h:t σ H λxs H1=>xs.length<=sizeLine/\∀p,H1 p=none->Q (.ref p) (upd H1 p (.lst xs))):E6 t σ H Q:=h
theorem V6(h:t σ H λxs H1=>xs.length<=sizeLine/\∀p,H1 p=none->Q (.ref p) (upd H1 p (.tup xs))):Ng t σ H Q:=h
theorem WK{t:TT}{ta:TE}(h:t σ H λc H1=>if c=true then ta σ H1 Q else tb σ H1 Q):tIf t ta tb σ H Q:=h
theorem WT{t u:TT}(h:t σ H λc H1=>if c=true then u σ H1 R else R false H1):Nn t u σ H R:=h
theorem Wk{t u:TT}(h:t σ H λc H1=>if c=true then R true H1 else u σ H1 R):tOr t u σ H R:=h
theorem WC{t:TT}(h:t σ H λc H1=>R (!c) H1):Nl t σ H R:=h
theorem VB{ta:TE}(h:ta σ H λx H1=>∃c,x= .bl c/\if c=true then tb σ H1 Q else Q (.bl false) H1):JO ta tb σ H Q:=h
theorem Uo{ta:TE}(h:ta σ H λx H1=>∃c,x= .bl c/\Q (.bl (!c)) H1):NN ta σ H Q:=h
theorem Uj{t:TE}(h:t σ H λx H'=>∃k,x= .bl k/\R k H'):F7 t σ H R:=h
theorem V8{ta:TE}(h:ta σ H λx H'=>∃k,EH K x H' k/\R k H'):Ni K ta σ H R:=h
theorem TJ{r r':R2}{ta tc:TE}(h:ta σ H λx H1=>tb σ H1 λy H2=>r x y H2 λz H3=>∃k,z= .bl k/\(if k=true then tc σ H3 λw' H4=>r' y w' H4 Q else Q (.bl false) H3)):Mg r r' ta tb tc σ H Q:=h
theorem CO{R:Bool->Prop}(h:R c):∃k,V.bl c=V.bl k/\R k:=⟨c,rfl,h⟩
theorem Ui{R:Bool->Prop}(h:R c):∃k,EH K (.bl c) H k/\R k:=⟨c,rfl,h⟩
theorem Iu{R:Bool->Prop}(hq:SqL K H a xs)(h:R (!xs.isEmpty)):∃k,EH K (.ref a) H k/\R k:=⟨_, .inl ⟨xs,hq,rfl⟩,h⟩
theorem VC(h:Q (.int (i+j)) H):rPlus (.int i) (.int j) H Q:= .inl ⟨i,j,rfl,rfl,h⟩
theorem DM{a:List Nat}(hz:a.length+b.length<=sizeLine)(h:Q (tx (a++b)) H):rPlus (tx a) (tx b) H Q:= .inr (.inl ⟨a,b,rfl,rfl,hz,h⟩)
theorem Iz{b:Addr}(h1:H a=some (.lst xs))(h2:H b=some (.lst ys))(hz:xs.length+ys.length<=sizeLine)(h:∀p,H p=none->Q (.ref p) (upd H p (.lst (xs++ys)))):rPlus (.ref a) (.ref b) H Q:= .inr (.inr ⟨a,b,xs,ys,rfl,rfl,h1,h2,hz,h⟩)
theorem Ul{g:Int->Int->V}(h:Q (g i j) H):rI0 g (.int i) (.int j) H Q:=⟨i,j,rfl,rfl,h⟩
theorem Wj{g:Int->Int->V}(hc:C i j)(h:Q (g i j) H):rI C g (.int i) (.int j) H Q:=⟨i,j,rfl,rfl,hc,h⟩
theorem Ur(hc:CMul i j)(h:Q (.int (i*j)) H):rTimes (.int i) (.int j) H Q:= .inl ⟨i,j,rfl,rfl,hc,h⟩
theorem DS{k:Int}(h1:H a=some (.lst xs))(h2: -(2^63)<=k)(h3:k<2^63)(hz:xs.length*k.toNat<=sizeLine)(h:∀p,H p=none->Q (.ref p) (upd H p (.lst (List.replicate k.toNat xs).flatten))):rTimes (.ref a) (.int k) H Q:= .inr (.inl ⟨a,k,xs,rfl,rfl,h1,h2,h3,hz,h⟩)
theorem WO(h:Q (.bl (decide (i=j))) H):E8 K (.int i) (.int j) H Q:= .inl ⟨rfl,by rw[show decide (V.int i=V.int j)=decide (i=j)from by rw[Fv];exact(Bool.beq_eq_decide_eq i j)];exact h⟩
theorem WM{a:List Nat}(h:Q (.bl (decide (a=b))) H):E8 K (tx a) (tx b) H Q:= .inl ⟨rfl,by rw[NA];exact h⟩
theorem JT{b:Addr}(h1:SqL K H a xs)(h2:SqL K H b ys)(f1:xs.all As=true)(f2:ys.all As=true)(h:Q (.bl (eqVs xs ys)) H):E8 K (.ref a) (.ref b) H Q:= .inr ⟨a,b,xs,ys,rfl,rfl,h1,h2,f1,f2,h⟩
theorem WG(h:Q (.bl (!decide (i=j))) H):EB K (.int i) (.int j) H Q:= .inl ⟨rfl,by rw[show decide (V.int i=V.int j)=decide (i=j)from by rw[Fv];exact(Bool.beq_eq_decide_eq i j)];exact h⟩
theorem WH{i j:Bool}(h:Q (.bl (!decide (i=j))) H):EB K (.bl i) (.bl j) H Q:= .inl ⟨rfl,by rw[show decide (V.bl i=V.bl j)=decide (i=j)from by rw[JH];exact(Bool.beq_eq_decide_eq i j)];exact h⟩
theorem WF{a:List Nat}(h:Q (.bl (!decide (a=b))) H):EB K (tx a) (tx b) H Q:= .inl ⟨rfl,by rw[NA];exact h⟩
theorem JS{b:Addr}(h1:SqL K H a xs)(h2:SqL K H b ys)(f1:xs.all As=true)(f2:ys.all As=true)(h:Q (.bl (!eqVs xs ys)) H):EB K (.ref a) (.ref b) H Q:= .inr ⟨a,b,xs,ys,rfl,rfl,h1,h2,f1,f2,h⟩
theorem WJ{c:Nat}{l:List Nat}(h:Q (.bl (decide (c∈l))) H):Jl K (tx [c]) (tx l) H Q:= .inl ⟨c,l,rfl,rfl,h⟩
theorem RZ{c:Nat}{l:List Nat}(h:Q (.bl (!decide (c∈l))) H):IR K (tx [c]) (tx l) H Q:= .inl ⟨c,l,rfl,rfl,h⟩
theorem E2(h1:SqL K H a xs\/SqT K H a xs)(f1:As x=true)(f2:xs.all As=true)(h:Q (.bl (inV x xs)) H):Jl K x (.ref a) H Q:= .inr ⟨a,xs,rfl,h1,f1,f2,h⟩
theorem Ra(h1:SqL K H a xs\/SqT K H a xs)(f1:As x=true)(f2:xs.all As=true)(h:Q (.bl (!inV x xs)) H):IR K x (.ref a) H Q:= .inr ⟨a,xs,rfl,h1,f1,f2,h⟩
theorem Wm{y:V}(hl:ED y=true)(h:Q (.bl (decide (x=y))) H):rIsA x y H Q:=⟨hl,h⟩
theorem BD{a:List Nat}{c:Nat}(hz:a.length<=sizeLine)(he:atI a i=some c)(h:Q (tx [c]) H):Cm K (tx a) (.int i) H Q:= .inl ⟨a,i,c,rfl,rfl,hz,he,h⟩
theorem AN{p:Addr}(hq:SqL K H p xs)(he:atI xs i=some v)(h:Q v H):Cm K (.ref p) (.int i) H Q:= .inr (.inl ⟨p,xs,i,v,rfl,rfl,hq,he,h⟩)
theorem BB{p:Addr}(hq:SqT K H p xs)(he:atI xs i=some v)(h:Q v H):Cm K (.ref p) (.int i) H Q:= .inr (.inr ⟨p,xs,i,v,rfl,rfl,hq,he,h⟩)
theorem Wi{r:V->Option Int->Option Int->Hp->VK->Prop}{tl th:TO}(h:te σ H λx H1=>tl σ H1 λl H2=>th σ H2 λu H3=>r x l u H3 Q):tSl r te tl th σ H Q:=h
theorem Rb{R:Option Int->Hp->Prop}(h:R none H):tNoPart σ H R:=h
theorem Um{t:TE}{R:Option Int->Hp->Prop}(h:t σ H λx H1=>∃i,x= .int i/\R (some i) H1):NM t σ H R:=h
theorem S3{R:Int->Prop}(h:R i):∃j,V.int i=V.int j/\R j:=⟨i,rfl,h⟩
theorem V9{a:List Nat}{lo hi:Option Int}(hz:a.length<=sizeLine)(h:Q (tx (Ba a lo hi)) H):Nt K (tx a) lo hi H Q:= .inl ⟨a,rfl,hz,h⟩
theorem Iw{a:List Nat}(hz:a.length<=sizeLine)(h:Q (.int a.length) H):E7 K [tx a] H Q:= .inl ⟨a,rfl,hz,h⟩
theorem BA{p:Addr}(hq:SqL K H p ys\/SqT K H p ys)(h:Q (.int ys.length) H):E7 K [.ref p] H Q:= .inr ⟨p,ys,rfl,hq,h⟩
theorem JU{bs:List Bool}(hq:SqL K H a (bs.map V.bl))(h:Q (.bl (bs.all id)) H):Ny K [.ref a] H Q:=⟨a,bs,rfl,hq,h⟩
theorem BE{t:Value}{b:Bool}(ty:TyOf K H x t)(e:W.kitOne K t (.type T)=some b)(h:Q (.bl b) H):Nx K [x, .ty T] H Q:=⟨x,T,t,b,rfl,ty,e,h⟩
theorem Uw{k:Bool}(h:Q (.int (if k then 1 else 0)) H):rInt [.bl k] H Q:= .inr ⟨k,rfl,h⟩
theorem Wp(h:to σ H λx H1=>tyV K T x H1/\t σ H1 λxs H2=>r x xs H2 Q):tBM K T r to t σ H Q:=h
theorem WP(h:to σ H λx H1=>tyV K T x H1/\r x [] H1 Q):GL K T r to σ H Q:=h
section
variable{tb:TS}
def DZ(J:W3)(g:TG)(tb:TS)(D:Ends)(σ:W2)(H:Hp):Prop:=∃W:Nat->Nat->W2->Hp->Prop,(∃m,W 0 m σ H)/\∀i m σ H,W i m σ H->
 (J.stop i H/\D.nx σ H)\/(J.go i H/\∃N:W2->Hp->Prop,(∀σ' H',N σ' H'->∃m',m'<m/\W (i+1) m' σ' H')/\∀x H',J.yld i H x H'->g x σ H' λσ2 H2=>tb {D with nx:=N,ct:=N,bk:=D.nx} σ2 H2)
theorem WL(h:wi σ H λJ H1=>DZ J g tb D σ H1):GJ wi g tb D σ H:=h
theorem S9{R:W3->Hp->Prop}(h:ta σ H λvs H1=>∃j:Int,vs=[.int j]/\ -(2^62)<=j/\j<2^62/\R (Itr 0 j.toNat) H1):GE ta σ H R:=h
theorem TB{R:W3->Hp->Prop}(h:tl σ H λx H1=>∃a,x= .ref a/\(∃xs,SqL K H1 a xs)/\R (Itl K a) H1):Jb K tl σ H R:=h
theorem Uv{R:W3->Hp->Prop}(h:tl σ H λx H1=>∃z,x= .str z/\R (Its z) H1):N5 tl σ H R:=h
theorem S6{a:List Nat}{R:Str->Prop}(h:R ⟨a.toArray⟩):∃z,tx a= .str z/\R z:=⟨_,rfl,h⟩
theorem Ux{R:W3->Hp->Prop}(h:ta σ H λvs H1=>∃z,vs=[.str z]/\R (EI z) H1):N6 ta σ H R:=h
theorem TC{a:List Nat}{R:Str->Prop}(h:R ⟨a.toArray⟩):∃z,[tx a]=[.str z]/\R z:=⟨_,rfl,h⟩
theorem Uy{R:W3->Hp->Prop}(h:ta σ H λvs H1=>∃a,vs=[.ref a]/\(∃xs,SqL K H1 a xs)/\R (Js K a) H1):Jo K ta σ H R:=h
theorem Do(Pv:Nat->W2->Hp->Prop)(h0:Pv 0 σ H)
 (hs:∀i σ H,i<n->Pv i σ H->g (.int (lo+i)) σ H λσ2 H2=>tb {D with nx:=Pv (i+1),ct:=Pv (i+1),bk:=D.nx} σ2 H2) (hd:∀σ H,Pv n σ H->D.nx σ H):DZ (Itr lo n) g tb D σ H:=RC Pv h0 hs hd
theorem MN(Pv:Nat->W2->Hp->Prop)(h0:Pv 0 σ H)(hl:∀i σ H,i<=xs.length->Pv i σ H->SqL K H a xs)
 (hs:∀i x σ H,xs[i]? =some x->Pv i σ H->g x σ H λσ2 H2=>tb {D with nx:=Pv (i+1),ct:=Pv (i+1),bk:=D.nx} σ2 H2) (hd:∀σ H,Pv xs.length σ H->D.nx σ H):DZ (Itl K a) g tb D σ H:=SN Pv h0 hl hs hd
theorem JG{J:W3}(Pv:Nat->W2->Hp->Prop)(h0:Pv 0 σ H)(hgo:∀i σ H,i<n->Pv i σ H->J.go i H)(hst:∀σ H,Pv n σ H->J.stop n H)
 (hs:∀i x σ H H',i<n->Pv i σ H->J.yld i H x H'->g x σ H' λσ2 H2=>tb {D with nx:=Pv (i+1),ct:=Pv (i+1),bk:=D.nx} σ2 H2) (hd:∀σ H,Pv n σ H->D.nx σ H):DZ J g tb D σ H:=by
 refine⟨λi m σ H=>m=n-i/\i<=n/\Pv i σ H,⟨n,by simp,Nat.zero_le _,h0⟩,?_⟩;rintro i m σ H ⟨rfl,hi,p⟩
 by_cases hlt:i<n
 ·exact .inr ⟨hgo i σ H hlt p,Pv (i+1),λσ' H' p'=>⟨n-(i+1),by lia,rfl,hlt,p'⟩,λx H' y=>hs i x σ H H' hlt p y⟩
 ·have e:i=n:=by lia
  subst e;exact .inl ⟨hst σ H p,hd σ H p⟩
theorem UQ{a:List Nat}(Pv:Nat->W2->Hp->Prop)(h0:Pv 0 σ H)
 (hs:∀i c σ H,a[i]? =some c->Pv i σ H->g (tx [c]) σ H λσ2 H2=>tb {D with nx:=Pv (i+1),ct:=Pv (i+1),bk:=D.nx} σ2 H2) (hd:∀σ H,Pv a.length σ H->D.nx σ H):DZ (Its ⟨a.toArray⟩) g tb D σ H:=by
 refine JG (n:=a.length) Pv h0 (λi σ H hi _=>by simpa[Its]using hi) (λσ H _=>by simp[Its]) (λi x σ H H' hi p y=>?_) hd;obtain⟨rfl,c,e,rfl⟩:=y;exact hs i c σ H' (by simpa using e) p
theorem UR{a:List Nat}(Pv:Nat->W2->Hp->Prop)(h0:Pv 0 σ H)
 (hs:∀i c σ H T,a[i]? =some c->H T=none->Pv i σ H->g (.ref T) σ (upd H T (.tup [.int i,tx [c]])) λσ2 H2=>tb {D with nx:=Pv (i+1),ct:=Pv (i+1),bk:=D.nx} σ2 H2) (hd:∀σ H,Pv a.length σ H->D.nx σ H):DZ (EI ⟨a.toArray⟩) g tb D σ H:=by
 refine JG (n:=a.length) Pv h0 (λi σ H hi _=>by simpa[EI]using hi) (λσ H _=>by simp[EI]) (λi x σ H H' hi p y=>?_) hd;obtain⟨T,c,hT,e,rfl,rfl⟩:=y;exact hs i c σ H T (by simpa using e) hT p
def CW(D:Addr)(n:Nat)(Pv:Nat->List V->Hp->Prop)(i m:Nat)(H:Hp):Prop:=m=n-i/\i<=n/\∃ys,H D=some (.lst ys)/\ys.length<=i/\Pv i ys H
def BL(J:W3)(own:List Str)(sel:List Nat)(σ:W2)(g:TG)(tt:TT)(te:TE)(Q:VK)(H1:Hp):Prop:=∀D,H1 D=none->
 ∃W:Nat->Nat->Hp->Prop,(∃m,W 0 m (upd H1 D (.lst [])))/\∀i m H2,W i m H2->
  (J.stop i H2/\Q (.ref D) H2)\/(J.go i H2/\∀x H3,J.yld i H2 x H3->g x (Aa own sel σ) H3 λσ4 H4=>tt σ4 H4 λb H5=>
    if b=true then te σ4 H5 λv H6=>∃ys,H6 D=some (.lst ys)/\ys.length<sizeLine/\∃m',m'<m/\W (i+1) m' (upd H6 D (.lst (ys++[v])))
    else∃m',m'<m/\W (i+1) m' H5)
theorem U8(h:wi σ H λJ H1=>BL J own sel σ g tt te Q H1):D3 own sel wi g tt te σ H Q:=h
theorem DK{J:W3}(Pv:Addr->Nat->List V->Hp->Prop)(h0:∀D,H1 D=none->Pv D 0 [] (upd H1 D (.lst [])))
 (hgo:∀D i ys H,H1 D=none->i<n->H D=some (.lst ys)->Pv D i ys H->J.go i H) (hst:∀D ys H,H1 D=none->H D=some (.lst ys)->ys.length<=n->Pv D n ys H->J.stop n H/\Q (.ref D) H)
 (hs:∀D i ys H x H3,H1 D=none->i<n->H D=some (.lst ys)->ys.length<=i->Pv D i ys H->J.yld i H x H3->g x (Aa own sel σ) H3 λσ4 H4=>tt σ4 H4 λb H5=>
   if b=true then te σ4 H5 λv H6=>∃ys,H6 D=some (.lst ys)/\ys.length<sizeLine/\∃m',m'<n-i/\CW D n (Pv D) (i+1) m' (upd H6 D (.lst (ys++[v])))
   else∃m',m'<n-i/\CW D n (Pv D) (i+1) m' H5):BL J own sel σ g tt te Q H1:=by
 intro D hD;refine⟨CW D n (Pv D),⟨n,by simp,Nat.zero_le _,[],AJ,Nat.le_refl _,h0 D hD⟩,?_⟩;rintro i m H2 ⟨rfl,hi,ys,hy,hl,p⟩
 by_cases hlt:i<n
 ·exact .inr ⟨hgo D i ys H2 hD hlt hy p,λx H3 y=>hs D i ys H2 x H3 hD hlt hy hl p y⟩
 ·have e:i=n:=by lia
  subst e;exact .inl (hst D ys H2 hD hy hl p)
theorem De{D:Addr}{i:Nat}{Pv:Nat->List V->Hp->Prop}(hi:i<n)(hn:n<=sizeLine)(hD:H D=some (.lst ys))(hl:ys.length<=i)(p:Pv (i+1) (ys++[v]) (upd H D (.lst (ys++[v])))):
 ∃ys,H D=some (.lst ys)/\ys.length<sizeLine/\∃m',m'<n-i/\CW D n Pv (i+1) m' (upd H D (.lst (ys++[v]))):=
 ⟨ys,hD,by lia,n-(i+1),by lia,rfl,hi,ys++[v],AJ,by simp;lia,p⟩
theorem V4(h:R true H):tYes σ H R:=h
end
theorem small(h:n<=1000):n<=sizeLine:=Nat.le_of_lt (DD h)
theorem AL{p:Addr}(h:H p=none)(o:HO):Same H (upd H p o):=λb u q=>by rw[AE (AT q h)];exact q
def SameBut1(p:Addr)(H H':Hp):Prop:=∀b o,H b=some o->b≠p->H' b=some o
theorem SameBut1.refl(p:Addr)(H:Hp):SameBut1 p H H:=λ_ _ h _=>h
theorem SameBut1.trans{p:Addr}(a:SameBut1 p H H1)(b:SameBut1 p H1 H2):SameBut1 p H H2:=λc o h n=>b c o (a c o h n) n
theorem SameBut1.of{p:Addr}(a:Same H H'):SameBut1 p H H':=λc o h _=>a c o h
theorem SameBut1.upd{p:Addr}{o:HO}:SameBut1 p H (upd H p o):=λc u h n=>by rw[AE n];exact h
def Ia(osc:Scope)(N:List Str)(own:List Str)(sel:List Nat)(scope:Scope):Bool:=
 (scope.kind== .function)&&scope.names.all (λy=>y.2 != .cell)&&scope.names.all (λy=>y.2 != .local||scope.names.lookup y.1==some .local)&&
 scope.names.all (λy=>y.2 != .free||osc.names.lookup y.1==some .cell||osc.names.lookup y.1==some .free)&&
 sel.all (λj=>decide (j<N.length)&&scope.names.lookup (N.getD j Str.empty)==some .free&&(osc.names.lookup (N.getD j Str.empty)==some .cell||osc.names.lookup (N.getD j Str.empty)==some .free))
theorem A4(h:Ia osc N own sel scope=true):CompOk osc N own sel scope:=by
 unfold Ia at h;simp only[Bool.and_eq_true,List.all_eq_true]at h;obtain⟨⟨⟨⟨h1,h2⟩,h3⟩,h4⟩,h5⟩:=h;refine⟨by simpa using h1,λy hy=>by simpa using h2 y hy,λy hy e=>?_,λy hy e=>?_,λj hj=>?_⟩
 ·have:=h3 y hy;simp only[Bool.or_eq_true,bne_iff_ne,beq_iff_eq]at this;rcases this with q|q
  ·exact absurd e q
  ·exact q
 ·have:=h4 y hy;simp only[Bool.or_eq_true,bne_iff_ne,beq_iff_eq]at this;rcases this with(q|q)|q
  ·exact absurd e q
  ·exact .inl q
  ·exact .inr q
 ·have:=h5 j hj;simp only[Bool.or_eq_true,beq_iff_eq,decide_eq_true_eq]at this;exact⟨this.1.1,this.1.2,this.2⟩
structure DefAt (K:W.Frag) (mg:Str->Option Value) (x:Str) (st:Stmt) (ps:List Str) (f:Addr) (fd:FuncData):Prop where
 F:Fun K x x st f fd
 m:mg x=some (.ref f)
 b:Binds K fd ps []
theorem DefAt.fnU{x:Str}{st:Stmt}{f:Addr}{k:Nat}(d:DefAt K mg x st ps f fd)(ok:FnOk P w K mg base CX0 k f fd ps sp):FnU P w K mg base k x ps sp:=
 ⟨f,fd,ok,d.m,d.F.kp,d.b⟩
theorem Wc(x:α)(r:List α):atI (x::r) 0=some x:=by simp[atI,ixN]
theorem BS{p:Addr}{k:Int}{j:Nat}{R:Hp->Prop}(h:H p=some (.lst xs))(e:ixN xs.length k=some j)(q:R (upd H p (.lst (xs.set j v)))):rSetL (.ref p) (.int k) v H R:=⟨p,xs,k,j,rfl,rfl,h,e,q⟩
def WN(Pv:W2->Hp->Prop)(μ:W2->Hp->Nat)(m:Nat):W2->Hp->Prop:=λσ' H'=>Pv σ' H'/\μ σ' H'<m
theorem HU{c:TT}{tb:TS}(Pv:W2->Hp->Prop)(μ:W2->Hp->Nat)(h0:Pv σ H)
 (hs:∀σ H,Pv σ H->c σ H λb H1=>if b=true then∃N:W2->Hp->Prop,(∀σ' H',N σ' H'->∃m',m'<μ σ H/\(m'=μ σ' H'/\Pv σ' H'))/\tb {D with nx:=N,ct:=N,bk:=D.nx} σ H1 else D.nx σ H1):Me c tb D σ H:=
 ⟨λm σ H=>m=μ σ H/\Pv σ H,⟨_,rfl,h0⟩,λm σ H ⟨e,p⟩=>by subst e;exact hs σ H p⟩
theorem Lk{tb:TS}(h:tb {D with nx:=WN Pv μ m,ct:=WN Pv μ m,bk:=D.nx} σ H1):
 ∃N:W2->Hp->Prop,(∀σ' H',N σ' H'->∃m',m'<m/\(m'=μ σ' H'/\Pv σ' H'))/\tb {D with nx:=N,ct:=N,bk:=D.nx} σ H1:=
 ⟨WN Pv μ m,λσ' H' ⟨p,l⟩=>⟨_,l,rfl,p⟩,h⟩
theorem P9{u:Value}(h:GR u=some x):RelV x u:=by
 cases u<;>first
  |(cases h;rfl)
  |(cases h;exact⟨_,rfl⟩)
  |(exact absurd h (by intro z;cases z))
def JL(its:Array Value)(xs:List V):Bool:=decide (its.toList.map GR=xs.map some)
theorem Jx:∀ {xs:List V} {us:List Value},us.map GR=xs.map some->Vals xs us
 |[],[],_=> .nil
 |x::xs,u::us,h=>by
  rw[List.map_cons,List.map_cons]at h;injection h with h1 h2
  exact .cons (P9 h1) (Jx h2)
 |[],_::_,h=>by cases h
 |_::_,[],h=>by cases h
theorem J8(h:JL its xs=true):Vals xs its.toList:=Jx (of_decide_eq_true h)
theorem P3(h:JL its xs=true)(hx:xs.length<=1000):its.size<=sizeLine:=by
 have e:=(J8 h).length;have e2:its.toList.length=its.size:=by simp
 exact Nat.le_of_lt (DD (by lia))
theorem S7{y:V}(hl:ED y=true)(h:Q (.bl (!decide (x=y))) H):rIsNotA x y H Q:=⟨hl,h⟩
theorem ifd{c:Prop}[Decidable c](h1:c->A)(h2:¬c->B):if decide c=true then A else B:=by
 by_cases h:c
 ·rw[if_pos (decide_eq_true h)];exact h1 h
 ·rw[if_neg (by rw[decide_eq_false h];exact Bool.false_ne_true)];exact h2 h
theorem ifn{c:Prop}[Decidable c](h1:¬c->A)(h2:c->B):if(!decide c)=true then A else B:=by
 by_cases h:c
 ·rw[if_neg (by rw[decide_eq_true h];exact Bool.false_ne_true)];exact h2 h
 ·rw[if_pos (by rw[decide_eq_false h];rfl)];exact h1 h
theorem ifp(hc:c=true)(h:A):if c=true then A else B:=by rw[if_pos hc];exact h
theorem ifq(hc:c=false)(h:B):if c=true then A else B:=by rw[if_neg (by rw[hc];exact Bool.false_ne_true)];exact h
theorem Sg{k:Int}(h0:0<=k)(h:k<(ns.length:Int)):∃v:Int,atI (ns.map V.int) k=some (.int v):=by
 have hk:k.toNat<ns.length:=by lia
 have ek:k=((k.toNat:Nat):Int):=by lia
 have q:atI (ns.map V.int) ((k.toNat:Nat):Int)=some (.int ns[k.toNat]):=AM (by rw[List.getElem?_map,List.getElem?_eq_getElem hk];rfl);rw[<-ek]at q;exact⟨_,q⟩
end L2
namespace BrM
variable{i:Int}{s:List Nat}{xs:List V}{d w:Nat}{Q:VK}{E:XK}
def opn:List Nat:=[40,91,123,60]
def cls:List Nat:=[41,93,125,62]
def clo(c:Nat):Nat:=if c=40 then 41 else if c=91 then 93 else if c=123 then 125 else 62
def stp(st:List Nat)(c:Nat):Option (List Nat):=
 if c∈opn then some (clo c::st)else match st with
  |d::r=>if c=d then some r else none
  |[]=>none
def run:List Nat->List Nat->Option (List Nat)
 |st,[]=>some st
 |st,c::r=>(stp st c).bind λs=>run s r
theorem KC(st a b:List Nat):run st (a++b)=(run st a).bind λs=>run s b:=by
 induction a generalizing st with
 |nil=>rfl
 |cons c r ih=>
  show(stp st c).bind _=((stp st c).bind _).bind _
  cases stp st c with
  |none=>rfl
  |some s=>exact ih s
theorem Hf(h:run st a=some s)(c:Nat):run st (a++[c])=stp s c:=by
 rw[KC,h];show(stp s c).bind (λs=>some s)=stp s c
 cases stp s c<;>rfl
theorem HY(h:c∈opn)(st:List Nat):stp st c=some (clo c::st):=by unfold stp;rw[if_pos h]
theorem HH(h:d∉opn)(r:List Nat):stp (d::r) d=some r:=by unfold stp;rw[if_neg h];simp
def Rt(row:List Nat):Prop:=run [] row=some []
def kin(k:Int)(c:Nat):Prop:=c∈opn.take k.toNat\/c∈cls.take k.toNat
theorem Mx{k:Int}(h0:0<=i)(h1:i<k)(hk:k<=4):∃c,atI [40,91,123,60] i=some c/\c∈opn/\c∈opn.take k.toNat/\atI [41,93,125,62] i=some (clo c)/\clo c∈cls.take k.toNat/\clo c∉opn:=by
 have:i=0\/i=1\/i=2\/i=3:=by lia
 have hk':k=1\/k=2\/k=3\/k=4:=by lia
 rcases hk' with rfl|rfl|rfl|rfl<;>rcases this with rfl|rfl|rfl|rfl<;>first
  |lia
  |exact⟨40,by decide⟩
  |exact⟨91,by decide⟩
  |exact⟨123,by decide⟩
  |exact⟨60,by decide⟩
def sg(c:Nat):Int:=if c∈opn then 1 else -1
def hg:List Nat->Int
 |[]=>0
 |c::r=>sg c+hg r
theorem FP(a b:List Nat):hg (a++b)=hg a+hg b:=by
 induction a with
 |nil=>simp[hg]
 |cons c r ih=>rw[List.cons_append,hg,hg,ih];lia
def ht(a:List Nat)(i:Nat):Int:=hg (a.take i)
theorem MM{i:Nat}(h:a[i]? =some c):ht a (i+1)=ht a i+sg c:=by
 unfold ht;rw[List.take_add_one,h,FP];show _=hg _+sg c;simp[hg]
theorem Ss(h:stp st c=some s):(s.length:Int)=st.length+sg c:=by
 unfold stp at h;unfold sg
 by_cases hc:c∈opn
 ·rw[if_pos hc]at h⊢
  cases h
  simp
 ·rw[if_neg hc]at h⊢
  cases st with
  |nil=>cases h
  |cons d r=>
   simp only at h
   split at h
   ·cases h;simp;lia
   ·cases h
theorem TU(h:run st a=some s):(s.length:Int)=st.length+hg a:=by
 induction a generalizing st with
 |nil=>cases h;simp[hg]
 |cons c r ih=>
  have h':(stp st c).bind (λs=>run s r)=some s:=h
  cases e:stp st c with
  |none=>rw[e]at h';cases h'
  |some s1=>
   rw[e]at h';have:=ih h';have:=Ss e;rw[hg];lia
theorem Rf(h:run [] a=some s)(i:Nat):∃st,run [] (a.take i)=some st:=by
 have e:a=a.take i++a.drop i:=(List.take_append_drop i a).symm;rw[e,KC]at h
 cases q:run [] (a.take i)with
 |none=>rw[q]at h;cases h
 |some st=>exact⟨st,rfl⟩
theorem Jc{i:Nat}(h:run [] (a.take i)=some st):ht a i=st.length:=by
 have:=TU h;unfold ht;simp at this;lia
def Pr(a:List Nat)(x y:Nat):Prop:=x<y/\y<a.length/\ht a (y+1)=ht a x/\∀m,x<m->m<=y->ht a x<ht a m
def IsPart(a:List Nat)(xs:List V):Prop:=xs.length=a.length/\∀k,k<a.length->∃p:Nat,xs[k]? =some (.int p)/\(Pr a k p\/Pr a p k)
theorem Ms{k p:Nat}(h:Pr a k p)(h':Pr a k q):p=q:=by
 obtain⟨h1,h2,h3,h4⟩:=h;obtain⟨g1,g2,g3,g4⟩:=h';rcases Nat.lt_trichotomy p q with z|z|z
 ·have:=g4 (p+1) (by lia) (by lia);lia
 ·exact z
 ·have:=h4 (q+1) (by lia) (by lia);lia
theorem Mr{k p:Nat}(h:Pr a k p)(h':Pr a q k):False:=by
 obtain⟨h1,h2,h3,h4⟩:=h;obtain⟨g1,g2,g3,g4⟩:=h';have:=h4 (k+1) (by lia) (by lia);have:=g4 k g1 (by lia);lia
inductive WS (a:List Nat) (i:Nat):List Nat->List Nat->Prop where
 |nil:WS a i [] []
 |cons {w c:Nat} {ws st:List Nat}:w<i->a[w]? =some c->c∈opn->ht a w=ws.length->(∀m,w<m->m<=i->ht a w<ht a m)->WS a i ws st->WS a i (w::ws) (clo c::st)
theorem WS.len{i:Nat}(h:WS a i ws st):ws.length=st.length:=by
 induction h with
 |nil=>rfl
 |cons _ _ _ _ _ _ ih=>simp[ih]
theorem WS.ext{i:Nat}(h:WS a i ws st)(hh:(ws.length:Int)<=ht a (i+1)):WS a (i+1) ws st:=by
 induction h with
 |nil=>exact .nil
 |cons h1 h2 h3 h4 h5 _ ih=>
  simp only[List.length_cons]at hh;refine .cons (by lia) h2 h3 h4 (λm hm1 hm2=>?_) (ih (by lia))
  by_cases e:m=i+1
  ·subst e;lia
  ·exact h5 m hm1 (by lia)
structure MI (a:List Nat) (i:Nat) (st ws:List Nat) (xs:List V):Prop where
 rn:run [] (a.take i)=some st
 wk:WS a i ws st
 len:xs.length=a.length
 don:∀k,k<i->k∈ws\/∃p:Nat,xs[k]? =some (.int p)/\(Pr a k p\/Pr a p k)
theorem MI.start(a:List Nat)(h:xs.length=a.length):MI a 0 [] [] xs:=⟨rfl, .nil,h,λk z=>by lia⟩
theorem Hg{i:Nat}(h:run [] (a.take i)=some st)(hc:a[i]? =some c):run [] (a.take (i+1))=stp st c:=by
 rw[List.take_add_one,hc];exact Hf h c
theorem MI.opens{i:Nat}(m:MI a i st ws xs)(hc:a[i]? =some c)(ho:c∈opn):MI a (i+1) (clo c::st) (i::ws) xs:=by
 have e1:ht a (i+1)=ht a i+1:=by rw[MM hc];unfold sg;rw[if_pos ho]
 have e2:=Jc m.rn;have e3:=m.wk.len;refine⟨by rw[Hg m.rn hc,HY ho], .cons (by lia) hc ho (by lia) (λk h1 h2=>?_) (m.wk.ext (by lia)),m.len,λk hk=>?_⟩
 ·have:k=i+1:=by lia
  subst this;lia
 ·by_cases e:k=i
  ·subst e;exact .inl List.mem_cons_self
  ·rcases m.don k (by lia)with z|z
   ·exact .inl (List.mem_cons_of_mem _ z)
   ·exact .inr z
theorem MI.top{i:Nat}(m:MI a i st (w::ws) xs):∃c r,a[w]? =some c/\c∈opn/\st=clo c::r/\w<i:=by
 have h:=m.wk
 cases h with
 |cons h1 h2 h3 h4 h5 h6=>exact⟨_,_,h2,h3,rfl,h1⟩
theorem MI.closes{r:List Nat}{i:Nat}(m:MI a i (c::r) (w::ws) xs)(hc:a[i]? =some c)(ho:c∉opn):MI a (i+1) r ws ((xs.set w (.int i)).set i (.int w)):=by
 have e1:ht a (i+1)=ht a i-1:=by rw[MM hc];unfold sg;rw[if_neg ho];lia
 have e2:=Jc m.rn;have e3:=m.wk.len;have hn:i<a.length:=(List.getElem?_eq_some_iff.mp hc).1;have h:=m.wk
 cases h with
 |cons h1 h2 h3 h4 h5 h6=>
  simp only[List.length_cons]at e2 e3;have hp:Pr a w i:=⟨h1,hn,by lia,h5⟩;have hlen:=m.len;refine⟨?_,h6.ext (by lia),by simp[m.len],λk hk=>?_⟩
  ·rw[Hg m.rn hc];exact HH ho r
  ·by_cases ek:k=i
   ·subst ek;exact .inr ⟨w,by simp[hlen,hn], .inr hp⟩
   ·by_cases ew:k=w
    ·subst ew;refine .inr ⟨i,?_, .inl hp⟩;rw[List.getElem?_set_ne (by lia),List.getElem?_set_self (by lia)]
    ·rcases m.don k (by lia)with z|⟨p,z,q⟩
     ·rcases List.mem_cons.mp z with z|z
      ·exact absurd z ew
      ·exact .inl z
     ·exact .inr ⟨p,by rw[List.getElem?_set_ne (by lia),List.getElem?_set_ne (by lia)];exact z,q⟩
theorem MI.fin(m:MI a a.length [] ws xs):IsPart a xs:=by
 have h:=m.wk
 cases h
 refine⟨m.len,λk hk=>?_⟩;rcases m.don k hk with z|z
 ·cases z
 ·exact z
def B6:List String:=["NoneType","bool","int","str","list","tuple","dict"]
def DG(K:W.Frag):Sp:=λvs H Q _=>∃x T,vs=[x]/\TyOf K H x (.type T)/\T∈B6/\Q (.bl (decide (T="int"))) H
theorem HE(q:Q (.bl true) H):DG K ([.int i]++[]) H Q E:=⟨.int i,"int",rfl, .int i,by decide,q⟩
def Ls:Sp:=λvs H Q _=>∃k,vs=[.int k]/\1<=k/\k<=4/\Q .non H
theorem Q3{k:Int}(h1:1<=k)(h2:k<=4)(q:Q .non H):Ls ([.int k]++[]) H Q E:=⟨k,rfl,h1,h2,q⟩
def sgn(k:Int):List Nat:=opn.take k.toNat++cls.take k.toNat++[63]
def Ab(k:Int)(a:List Nat):Bool:=decide (a.length<=40)&&a.all λc=>decide (c∈sgn k)
def Mi(K:W.Frag):Sp:=λvs H Q _=>∃k x,vs=[.int k,x]/\1<=k/\k<=4/\
 ((∃a,x=tx a/\a.length<=1000/\∀H',Same H H'->Q (.bl (Ab k a)) H')\/(∃T,TyOf K H x (.type T)/\T∈B6/\T≠"str"/\Q (.bl false) H))
theorem R9{k:Int}(h1:1<=k)(h2:k<=4)(ha:a.length<=1000)(q:∀H',Same H H'->Q (.bl (Ab k a)) H'):Mi K ([.int k,tx a]++[]) H Q E:=⟨k,_,rfl,h1,h2, .inl ⟨a,rfl,ha,q⟩⟩
def CQ:Sp:=λvs H Q _=>∃k a,vs=[.int k,tx a]/\1<=k/\k<=4/\Ab k a=true/\∀H',Same H H'->Q .non H'
theorem Bh{k:Int}(h1:1<=k)(h2:k<=4)(ha:Ab k a=true)(q:∀H',Same H H'->Q .non H'):CQ ([.int k,tx a]++[]) H Q E:=⟨k,a,rfl,h1,h2,ha,q⟩
instance (a:List Nat):Decidable (Rt a):=by unfold Rt;infer_instance
def HI:Sp:=λvs H Q _=>∃a,vs=[tx a]/\a.length<=40/\(Rt a->∀r xs H',H r=none->Same H H'->H' r=some (.lst xs)->IsPart a xs->Q (.ref r) H')/\(¬Rt a->∀H',Same H H'->Q .non H')
theorem J2(ha:a.length<=40)(q:Rt a->∀r xs H',H r=none->Same H H'->H' r=some (.lst xs)->IsPart a xs->Q (.ref r) H')(q':¬Rt a->∀H',Same H H'->Q .non H'):HI ([tx a]++[]) H Q E:=⟨a,rfl,ha,q,q'⟩
def F8(K:W.Frag):Sp:=λvs H Q _=>∃ (a:Addr) (ns:List Int),vs=[.ref a]/\SqL K H a (ns.map V.int)/\ns.length<=63/\∀H',Q (.bl true) H'
theorem Az{k:Int}(h:Ab k a=true):a.length<=40:=by
 unfold Ab at h;simp only[Bool.and_eq_true,decide_eq_true_eq]at h;exact h.1
theorem CL(xs:List α){k:Int}(h:0<=k):Ba xs none (some k)=xs.take k.toNat:=by
 unfold Ba;obtain⟨n,rfl⟩:∃n:Nat,k=n:=⟨k.toNat,by lia⟩;rw[HT.sIx_nat,HT.sIx_none,List.drop_zero,Nat.sub_zero,Int.toNat_natCast];rcases Nat.le_total n xs.length with z|z
 ·rw[Nat.min_eq_left z]
 ·rw[Nat.min_eq_right z,List.take_length,List.take_of_length_le z]
theorem SF(ho:c∈opn):inV (tx [c,d]) [tx [40,41],tx [91,93],tx [123,125],tx [60,62]]=decide (d=clo c):=by
 have e:inV (tx [c,d]) [tx [40,41],tx [91,93],tx [123,125],tx [60,62]]=(decide ([40,41]=[c,d])||(decide ([91,93]=[c,d])||(decide ([123,125]=[c,d])||(decide ([60,62]=[c,d])||false)))):=by
  unfold inV;simp only[List.any_cons,List.any_nil,M5]
 rw[e];have ho':c=40\/c=91\/c=123\/c=60:=by simpa[opn]using ho
 rcases ho' with rfl|rfl|rfl|rfl<;>simp[clo,eq_comm]
theorem WZ(x:α)(n:Nat):(List.replicate n [x]).flatten=List.replicate n x:=by
 induction n with
 |zero=>rfl
 |succ n ih=>rw[List.replicate_succ,List.flatten_cons,ih];rfl
theorem Same.but(a:Same H H1)(b:SameBut1 p H1 H2)(h:H p=none):Same H H2:=λc o z=>b c o (a c o z) (AT z h)
theorem EO{k:Int}(h:Ab k a=true):∀c∈a,c∈sgn k:=by
 unfold Ab at h;simp only[Bool.and_eq_true,List.all_eq_true,decide_eq_true_eq]at h;exact h.2
theorem FX{k:Int}(hl:a.length<=40)(h:∀c∈a,c∈sgn k):Ab k a=true:=by
 unfold Ab;simp only[Bool.and_eq_true,List.all_eq_true,decide_eq_true_eq];exact⟨hl,h⟩
theorem Vs(xs:List α)(i j:Nat):Ba xs (some (i:Int)) (some (j:Int))=(xs.drop i).take (j-i):=by
 unfold Ba;rw[HT.sIx_nat,HT.sIx_nat];rcases Nat.le_total i xs.length with h|h
 ·rw[Nat.min_eq_left h];rcases Nat.le_total j xs.length with g|g
  ·rw[Nat.min_eq_left g]
  ·rw[Nat.min_eq_right g,List.take_of_length_le (by rw[List.length_drop];lia),List.take_of_length_le (by rw[List.length_drop];lia)]
 ·rw[Nat.min_eq_right h,List.drop_of_length_le (Nat.le_refl _),List.drop_of_length_le h];simp
theorem LY(xs:List α)(i:Nat):Ba xs (some (i:Int)) none=xs.drop i:=by
 unfold Ba;rw[HT.sIx_nat,HT.sIx_none];rcases Nat.le_total i xs.length with h|h
 ·rw[Nat.min_eq_left h,List.take_of_length_le (by rw[List.length_drop];lia)]
 ·rw[Nat.min_eq_right h,List.drop_of_length_le (Nat.le_refl _),List.drop_of_length_le h];simp
end BrM
open BrM
namespace L2
theorem Sr:∀ {us:List Value},Vals (xss.map tx) us->StrsAre us (xss.map λa=>⟨a.toArray⟩):=by
 induction xss with
 |nil=>intro us r;cases r;exact .nil
 |cons a r ih=>
  intro us h
  cases h with
  |cons h1 h2=>
   obtain⟨t,rfl⟩:=h1;exact .cons _ t (ih h2)
theorem Kh:∀ (xss:List (List Nat)),Str.join ⟨([]:List Nat).toArray⟩ (xss.map λa=>⟨a.toArray⟩)=⟨xss.flatten.toArray⟩
 |[]=>rfl
 |[a]=>by simp[Str.join]
 |a::b::r=>by
  have ih:=Kh (b::r);rw[List.map_cons,List.map_cons]at*
  show(⟨a.toArray⟩:Str)++⟨([]:List Nat).toArray⟩++Str.join ⟨([]:List Nat).toArray⟩ (⟨b.toArray⟩::r.map λa=>⟨a.toArray⟩)=_;rw[ih];show(⟨a.toArray++([]:List Nat).toArray++(b::r).flatten.toArray⟩:Str)=_;simp
def rJoin(K:W.Frag):V->List V->Hp->VK->Prop:=λx vs H Q=>∃ (p:Addr) (xss:List (List Nat)),x=tx []/\vs=[.ref p]/\SqL K H p (xss.map tx)/\xss.flatten.length+xss.length<=1000000/\Q (tx xss.flatten) H
theorem IV(K:W.Frag)(hK:X.K=K:=by rfl):MtR X "str.join" (rJoin K):=by
 subst hK;intro pins s σ H x vs v us Q I rx rv h;obtain⟨p,xss,rfl,rfl,hq,hw,q⟩:=h;obtain⟨t,rfl⟩:=rx;obtain⟨u,rfl,ru⟩:=rv.one
 cases ru
 obtain⟨its,r,ht,hz⟩:=I.list hq;have hs:((xss.map λa=>(⟨a.toArray⟩:Str)).map (·.length)).sum=xss.flatten.length:=by
  rw[List.map_map,List.length_flatten];congr 1
 refine join_listW ht.isList (Sr r) (by rw[Bd];decide) (by rw[hs,List.length_map];lia) λt' k=>?_;have e:Txt.join ⟨([]:List Nat).toArray⟩ (xss.map λa=>⟨a.toArray⟩)=⟨xss.flatten.toArray⟩:=by
  show Builtin.Str.glued _ _=_;rw[StrLaws.glued_eq_join,Kh]
 rw[e];exact⟨tx xss.flatten,H,I.tok k,⟨t',rfl⟩,q⟩
def Jm(l:List Nat)(c:Nat):Option Nat:=(Builtin.Str.occurrences ⟨l.toArray⟩ ⟨#[c]⟩ 0 (⟨l.toArray⟩:Str).length 1).head?
def rIdx:V->List V->Hp->VK->Prop:=λx vs H Q=>∃l c i,x=tx l/\vs=[tx [c]]/\Jm l c=some i/\Q (.int (i:Nat)) H
theorem R7:MtR X "str.index" rIdx:=by
 intro pins s σ H x vs v us Q I rx rv h;obtain⟨l,c,i,rfl,rfl,ho,q⟩:=h;obtain⟨t,rfl⟩:=rx;obtain⟨u,rfl,t2,rfl⟩:=rv.one;unfold Jm at ho
 cases e:Builtin.Str.occurrences ⟨l.toArray⟩ ⟨#[c]⟩ 0 (⟨l.toArray⟩:Str).length 1 with
 |nil=>rw[e]at ho;cases ho
 |cons j rest=>
  rw[e]at ho
  cases ho
  exact SC.index e ⟨.int (i:Nat),H,I.tok _,⟨_,rfl⟩,q⟩
section
variable{σ:W2}{Q:VK}
theorem V5{P:Prop}(h:P):tyV K "str" (tx a) H/\P:=⟨rfl,h⟩
theorem Iy(hq:SqL K H p (xss.map tx))(hw:xss.flatten.length+xss.length<=1000000)(h:Q (tx xss.flatten) H):rJoin K (tx []) [.ref p] H Q:=⟨p,xss,rfl,rfl,hq,hw,h⟩
end
end L2
namespace BrM
def sgs(k:Int):List Nat:=[40,41,91,93,123,125,60,62].take (2*k).toNat++[63]
theorem Sv{k:Int}(h1:1<=k)(h4:k<=4)(h:c∈sgs k):c∈sgn k:=by
 have hk:k=1\/k=2\/k=3\/k=4:=by lia
 rcases hk with rfl|rfl|rfl|rfl
 ·exact(show∀c∈sgs 1,c∈sgn 1 by decide) c h
 ·exact(show∀c∈sgs 2,c∈sgn 2 by decide) c h
 ·exact(show∀c∈sgs 3,c∈sgn 3 by decide) c h
 ·exact(show∀c∈sgs 4,c∈sgn 4 by decide) c h
theorem ND{l:List Nat}{i:Int}(h0:0<=i)(h1:i<(l.length:Int)):∃c,atI l i=some c/\c∈l:=by
 have hk:i.toNat<l.length:=by lia
 have ek:i=((i.toNat:Nat):Int):=by lia
 have q:atI l ((i.toNat:Nat):Int)=some l[i.toNat]:=AM (List.getElem?_eq_getElem hk);rw[<-ek]at q;exact⟨_,q,List.getElem_mem hk⟩
theorem UJ{k:Int}(h:kin k c):c∈sgn k:=by
 unfold sgn;rcases h with z|z
 ·exact List.mem_append_left _ (List.mem_append_left _ z)
 ·exact List.mem_append_left _ (List.mem_append_right _ z)
end BrM
namespace L2
variable{a:Addr}{Q:Env->Shared->Prop}{c i:Int}{xs:List V}{P:Program}{ta:TA}{g:TG}{σ:W2}{R:W3->Hp->Prop}
section
variable{Q:VK}
theorem HQ(ha:H a=some (.lst xs))
 (hst:∀D H',H D=none->Same H H'->H' D=some (.lst [])->Q (.ref D) H')
 (hs:∀ (D:Addr) (i:Nat) (x:V) (H':Hp) (R:W2->Bool->Hp->Prop),H D=none->xs[i]? =some x->Same H H'->(∀σ4 H5,Same H' H5->R σ4 false H5)->g x (Aa own sel σ) H' λσ4 H4=>tt σ4 H4 (R σ4)):BL (Itl K a) own sel σ g tt te Q H:=by
 intro D hD;refine⟨λi m H'=>m=xs.length-i/\i<=xs.length/\H' D=some (.lst [])/\Same H H',⟨_,rfl,Nat.zero_le _,AJ,AL hD _⟩,?_⟩;rintro i m H2 ⟨rfl,hi,hy,sH⟩
 by_cases hlt:i<xs.length
 ·refine .inr ⟨⟨xs,xs[i],SqL.of (sH _ _ ha),List.getElem?_eq_getElem hlt⟩,λx H3 y=>?_⟩;obtain⟨rfl,hx⟩:=y;refine hs D i x H3 (λσ4 b H5=>if b=true then te σ4 H5 λv H6=>∃ys,H6 D=some (.lst ys)/\ys.length<sizeLine/\∃m',m'<xs.length-i/\(m'=xs.length-(i+1)/\i+1<=xs.length/\(upd H6 D (.lst (ys++[v]))) D=some (.lst [])/\Same H (upd H6 D (.lst (ys++[v]))))else∃m',m'<xs.length-i/\(m'=xs.length-(i+1)/\i+1<=xs.length/\H5 D=some (.lst [])/\Same H H5)) hD (hx _ (SqL.of (sH _ _ ha))) sH (λσ4 H5 s5=>?_);rw[if_neg Bool.false_ne_true];exact⟨xs.length-(i+1),by lia,rfl,hlt,s5 _ _ hy,sH.trans s5⟩
 ·have e:i=xs.length:=by lia
  subst e;exact .inl ⟨⟨_,SqL.of (sH _ _ ha),Nat.le_refl _⟩,hst D H2 hD sH hy⟩
theorem SW(f:V->V)(hn:xs.length<=sizeLine)(ha:H a=some (.lst xs))
 (hst:∀D H',H D=none->Same H H'->H' D=some (.lst (xs.map f))->Q (.ref D) H')
 (hs:∀ (D:Addr) (i:Nat) (x:V) (H':Hp) (R:V->Hp->Prop),H D=none->xs[i]? =some x->Same H H'->(∀H6,Same H' H6->R (f x) H6)->g x (Aa own sel σ) H' λσ4 H4=>te σ4 H4 R):BL (Itl K a) own sel σ g tYes te Q H:=by
 refine DK (n:=xs.length) (λD i ys H'=>ys=(xs.take i).map f/\Same H H') (λD hD=>⟨rfl,AL hD _⟩) (λD i ys H' hD hi hy ⟨_,sH⟩=>⟨xs,xs[i],SqL.of (sH _ _ ha),List.getElem?_eq_getElem hi⟩) (λD ys H' hD hy hl ⟨e,sH⟩=>⟨⟨_,SqL.of (sH _ _ ha),Nat.le_refl _⟩,hst D H' hD sH (by rw[hy,e,List.take_length])⟩) ?_;rintro D i ys H' x H3 hD hi hy hl ⟨e,sH⟩ ⟨rfl,hx⟩;have hx':=hx _ (SqL.of (sH _ _ ha));have ef:(fun(σ4:W2) (H4:Hp)=>tYes σ4 H4 λb H5=>if b=true then te σ4 H5 λv H6=>∃ys,H6 D=some (.lst ys)/\ys.length<sizeLine/\∃m',m'<xs.length-i/\CW D xs.length (λi ys H'=>ys=(xs.take i).map f/\Same H H') (i+1) m' (upd H6 D (.lst (ys++[v])))else∃m',m'<xs.length-i/\CW D xs.length (λi ys H'=>ys=(xs.take i).map f/\Same H H') (i+1) m' H5)
  =λσ4 H4=>te σ4 H4 λv H6=>∃ys,H6 D=some (.lst ys)/\ys.length<sizeLine/\∃m',m'<xs.length-i/\CW D xs.length (λi ys H'=>ys=(xs.take i).map f/\Same H H') (i+1) m' (upd H6 D (.lst (ys++[v]))):=by
  funext σ4 H4
  simp only[tYes,if_true]
 rw[ef];refine hs D i x H3 _ hD hx' sH λH6 s6=>?_;refine De hi hn (s6 _ _ hy) hl ⟨?_,λb o z=>?_⟩
 ·rw[e,List.take_add_one,hx',List.map_append];rfl
 ·rw[AE (AT z hD)];exact s6 _ _ (sH _ _ z)
end
theorem IA:∀ (names:List (Str×NameKind)) (h:Heap) (acc:List (Str×Addr)) (x:Str) (c:Addr),(cellsFrom h.objs.size names acc).lookup x=some c->
 ((x,NameKind.cell)∈names/\h.objs.size<=c/\(pushCells h names).IsCell c none)\/acc.lookup x=some c
 |[],_,_,_,_,e=> .inr e
 |(nm,k)::r,h,acc,x,c,e=>by
  unfold cellsFrom at e;unfold pushCells
  by_cases hk:(k==NameKind.cell)=true
  ·rw[if_pos hk]at e⊢;rw[<-Heap.size_push h {cls:= .type "cell",data:= .cell none}]at e;rcases IA r _ _ x c e with⟨a,b,d⟩|q
   ·refine .inl ⟨List.mem_cons_of_mem _ a,?_,d⟩;rw[Heap.size_push]at b;lia
   ·rw[List.lookup_cons]at q
    cases hx:x==nm with
    |true=>
     rw[hx]at q
     cases q
     have e1:=eq_of_beq hx;have e2:k= .cell:=by simpa using hk
     subst e1;subst e2;exact .inl ⟨List.mem_cons_self,Nat.le_refl _,⟨_,pushCells_keeps _ _ _ _ (Heap.get?_push_size _ rfl),rfl⟩⟩
    |false=>rw[hx]at q;exact .inr q
  ·rw[if_neg hk]at e⊢;rcases IA r h acc x c e with⟨a,b,d⟩|q
   ·exact .inl ⟨List.mem_cons_of_mem _ a,b,d⟩
   ·exact .inr q
theorem Ew:∀ (names:List (Str×NameKind)) (n:Nat) (acc:List (Str×Addr)) (x:Str),(x,NameKind.cell)∉names->(cellsFrom n names acc).lookup x=acc.lookup x
 |[],_,_,_,_=>rfl
 |(nm,k)::r,n,acc,x,hx=>by
  unfold cellsFrom;have hr:(x,NameKind.cell)∉r:=λz=>hx (List.mem_cons_of_mem _ z)
  by_cases hk:(k==NameKind.cell)=true
  ·rw[if_pos hk,Ew r _ _ x hr,List.lookup_cons];have:(x==nm)=false:=by
    cases q:x==nm with
    |false=>rfl
    |true=>
     have e1:=eq_of_beq q;have e2:k= .cell:=by simpa using hk
     subst e1;subst e2;exact absurd List.mem_cons_self hx
   rw[this]
  ·rw[if_neg hk];exact Ew r n acc x hr
theorem JI:∀ (names:List (Str×NameKind)) (n:Nat) (acc:List (Str×Addr)) (x:Str),((x,NameKind.cell)∈names\/∃c,acc.lookup x=some c/\n<=c)->∃c,(cellsFrom n names acc).lookup x=some c/\n<=c
 |[],n,acc,x,h=>by
  rcases h with z|z
  ·cases z
  ·exact z
 |(nm,k)::r,n,acc,x,h=>by
  unfold cellsFrom
  by_cases hk:(k==NameKind.cell)=true
  ·rw[if_pos hk]
   by_cases hr:(x,NameKind.cell)∈r
   ·obtain⟨c,e,l⟩:=JI r (n+1) ((nm,n)::acc) x (.inl hr);exact⟨c,e,by lia⟩
   ·rw[Ew r _ _ x hr,List.lookup_cons]
    cases hx:x==nm with
    |true=>exact⟨n,rfl,Nat.le_refl _⟩
    |false=>
     rcases h with z|z
     ·rcases List.mem_cons.mp z with q|q
      ·cases q;simp at hx
      ·exact absurd q hr
     ·exact z
  ·rw[if_neg hk];refine JI r n acc x ?_;rcases h with z|z
   ·rcases List.mem_cons.mp z with q|q
    ·cases q;exact absurd rfl hk
    ·exact .inl q
   ·exact .inr z
theorem JJ:∀ (names:List (Str×NameKind)) (n:Nat) (acc:List (Str×Addr)),(∀x y c,acc.lookup x=some c->acc.lookup y=some c->x=y)->(∀x c,acc.lookup x=some c->c<n)->
 ∀x y c,(cellsFrom n names acc).lookup x=some c->(cellsFrom n names acc).lookup y=some c->x=y
 |[],_,_,h,_=>h
 |(nm,k)::r,n,acc,h,hb=>by
  unfold cellsFrom
  by_cases hk:(k==NameKind.cell)=true
  ·rw[if_pos hk];refine JJ r (n+1) ((nm,n)::acc) (λx y c a b=>?_) λx c a=>?_
   ·rw[List.lookup_cons]at a b
    cases hx:x==nm<;>cases hy:y==nm<;>rw[hx]at a<;>rw[hy]at b
    ·exact h x y c a b
    ·cases b;exact absurd (hb x _ a) (Nat.lt_irrefl _)
    ·cases a;exact absurd (hb y _ b) (Nat.lt_irrefl _)
    ·rw[eq_of_beq hx,eq_of_beq hy]
   ·rw[List.lookup_cons]at a
    cases hx:x==nm<;>rw[hx]at a
    ·exact Nat.lt_succ_of_lt (hb x c a)
    ·cases a;exact Nat.lt_succ_self _
  ·rw[if_neg hk];exact JJ r n acc h hb
theorem Sl{cl:List (Str×Addr)}
 (h:Q {scope:=scope,locals:=s.heap.objs.size,globals:=env.globals,cells:=cellsFrom (s.heap.objs.size+1) scope.names cl,qual:=env.qual,func:=none,code:=env.code,frame:=env.frame,builtins:=env.builtins}
   {s with heap:=pushCells (s.heap.push {cls:= .type "dict",data:= .dict #[]}) scope.names}):
 wpAny M A (newFunctionEnv scope env.globals cl [] env.qual none .none (some env)) Q E s:=by
 simp only[newFunctionEnv,Option.isSome_some,if_true];refine wpAny_bind (wpAny_alloc ?_);refine wpAny_bind (wpAny_layCells _ (λname kind cells=>by cases hkc:kind==NameKind.cell<;>simp[hkc]) _ _ _ _ ?_);rw[show({s with heap:=s.heap.push {cls:= .type "dict",data:= .dict #[]}}:Shared).heap.objs.size=s.heap.objs.size+1 from Heap.size_push ..];rw[List.forIn_nil];exact wpAny_bind (wpAny_pure (wpAny_pure h))
def CN(X:Cx)(own:List Str)(sel:List Nat)(scope:Scope)(cl:List (Str×Addr))(C:Addr)(s2:Shared)(H2:Hp)(fp:List Addr):Cx where
 prog:=X.prog
 w:=X.w
 K:=X.K
 mg:=X.mg
 base:=X.base
 A:=X.A
 N:=own++sel.map λj=>X.N.getD j Str.empty
 s₀:=s2
 H₀:=H2
 env:=compEnvC scope cl C X.env
 outer:=X.stack
 stack:=X.stack
 ex:=fp
 fn:=λx=>scope.names.lookup x==some .cell
 calm:=X.calm
 pn:=[]
 xe:=λ_ _=>False
structure CompOkC (osc:Scope) (N:List Str) (own:List Str) (sel:List Nat) (scope:Scope):Prop where
 kind:scope.kind= .function
 cell:∀y∈scope.names,y.2= .cell->scope.names.lookup y.1=some .cell
 names:∀y∈scope.names,y.2= .local->scope.names.lookup y.1=some .local
 free:∀y∈scope.names,y.2= .free->osc.names.lookup y.1=some .cell\/osc.names.lookup y.1=some .free
 seln:∀j∈sel,j<N.length/\scope.names.lookup (N.getD j Str.empty)=some .free/\(osc.names.lookup (N.getD j Str.empty)=some .cell\/osc.names.lookup (N.getD j Str.empty)=some .free)
theorem QQ{pos:Pos}{use:Option (Value->Sem Unit)}
 (S:CompOkC X.env.scope X.N own sel scope) (hc:X.calm=true) (hi:PI X tg iter wi)
 (hg:∀cl C s2 H2 fp,PG (CN X own sel scope cl C s2 H2 fp) tg g) (hk:GK own.length g)
 (ht:∀cl C s2 H2 fp,PIf (CN X own sel scope cl C s2 H2 fp) ifs tt) (he:∀cl C s2 H2 fp,PE (CN X own sel scope cl C s2 H2 fp) elt te)
 (hs:∀x,foldedSetIterable iter X.env x=pure x) {pins:List (Addr×Obj)} {s:Shared} {σ:W2} {H:Hp} {Q:VK} {ps:Pos} (I0:Inv X pins σ H s) (h:D3 own sel wi g tt te σ H Q)
 (fin:∀ (D C:Addr) (H':Hp) (s':Shared) (m:Str->Option Value),Inv X pins σ H' s'->s'.heap.Ns C m->Far X pins H' C->Q (.ref D) H'->compPost (model X.prog X.w) X.A X.xe use Qo (.ref D) C (.ok .next) s'):
 wpAny (model X.prog X.w) X.A (comprehension (.ListComp elt [⟨tg,iter,ifs,0⟩] scope pos) scope X.env ps (newList []) false (eval iter X.env) use) Qo X.xe s:=by
 obtain⟨cl0,hclos,hcl0,hfree0⟩:=Ic (scope:=scope) (env:=X.env) λy hy e=>I0.ok.has y.1 (S.free y hy e);refine wpAny_comprehension_free (use:=use) rfl hs hclos S.kind S.names (thn (hi pins s σ H _ I0 h) λv s1 h1=>thn h1 λitv s2 h2=>?_);obtain⟨it,fp,tn,J,H2,e,I,T,st2,f2,h3⟩:=h2;subst e;clear h h1 I0;refine wpAny_newObj_type (Sl ?_)
 dsimp only
 generalize hP:s2.heap.push {cls:= .type "list",dict:=none,data:= .seq ([]:List Value).toArray}=P1;generalize hD:s2.heap.objs.size=D;generalize hC:P1.objs.size=C;have hCD:C=D+1:=by rw[<-hC,<-hP,Heap.size_push,hD]
 have hlt:D<C:=by rw[hCD];exact Nat.lt_succ_self D
 have hDC:D≠C:=Nat.ne_of_lt hlt;have neC:∀b:Addr,b<D->b≠C:=λb hb=>Nat.ne_of_lt (Nat.lt_trans hb hlt);have neD:∀b:Addr,b<D->b≠D:=λb hb=>Nat.ne_of_lt hb;have hsD:s2.heap.objs.size<=D:=Nat.le_of_eq hD;have hsC:s2.heap.objs.size<=C:=Nat.le_trans hsD (Nat.le_of_lt hlt);have fresh:∀a,D<=a->H2 a=none:=λa ha=>I.hok.fresh (by rw[hD];exact ha);have hnD:H2 D=none:=fresh D (Nat.le_refl _);have hnC:H2 C=none:=fresh C (Nat.le_of_lt hlt);have below:∀b o,s2.heap.get? b=some o->b<D:=λb o e=>by rw[<-hD];exact Heap.lt_size e
 generalize hh1:pushCells (P1.push {cls:= .type "dict",data:= .dict #[]}) scope.names=h1;have keepP:∀b o,P1.get? b=some o->h1.get? b=some o:=λb o e=>by rw[<-hh1];exact pushCells_keeps _ _ b o (Heap.get?_push_of_some _ e)
 have keep1:∀b o,s2.heap.get? b=some o->h1.get? b=some o:=λb o e=>keepP b o (hP▸Heap.get?_push_of_some _ e);have hns1:h1.Ns C (λ_=>none):=by rw[<-hh1,<-hC];exact(Heap.Ns.new P1 (.type "dict")).keeps (pushCells_keeps _ _)
 have gD:h1.get? D=some {cls:= .type "list",dict:=none,data:= .seq ([]:List Value).toArray}:=by
  refine keepP _ _ ?_;rw[<-hP,<-hD];exact Heap.get?_push_size _ rfl
 have szP:(P1.push {cls:= .type "dict",data:= .dict #[]}).objs.size=C+1:=by rw[Heap.size_push,hC]
 have hcb:∀x c,cl0.lookup x=some c->c<D:=λx c e=>by
  obtain⟨u,o,z,_⟩:=I.cell x c (hcl0 _ _ e);exact below c o z
 generalize hcs:cellsFrom (C+1) scope.names cl0=cl;have hsplit:∀x c,cl.lookup x=some c->((x,NameKind.cell)∈scope.names/\C+1<=c/\h1.IsCell c none)\/X.env.cells.lookup x=some c:=λx c e=>by
  rw[<-hcs,<-szP]at e;rcases IA _ _ _ x c e with⟨a,b,d⟩|q
  ·rw[szP]at b;rw[hh1]at d;exact .inl ⟨a,b,d⟩
  ·exact .inr (hcl0 _ _ q)
 have hinj:∀x y c,cl.lookup x=some c->cl.lookup y=some c->x=y:=by
  rw[<-hcs];exact JJ _ _ _ (λx y c a b=>I.ok.inj x y c (hcl0 _ _ a) (hcl0 _ _ b)) λx c e=>Nat.lt_succ_of_lt (Nat.lt_trans (hcb x c e) hlt)
 have hcell:∀x,(x,NameKind.cell)∈scope.names->∃c,cl.lookup x=some c/\C+1<=c:=λx hx=>by rw[<-hcs];exact JI _ _ _ x (.inl hx)
 have hfree:∀y∈scope.names,y.2= .free->∃c,cl.lookup y.1=some c:=λy hy e=>by
  by_cases hm:(y.1,NameKind.cell)∈scope.names
  ·obtain⟨c,q,_⟩:=hcell _ hm;exact⟨c,q⟩
  ·rw[<-hcs,Ew _ _ _ _ hm];exact hfree0 y hy e
 have hold:∀x,scope.names.lookup x=some .free->∃c,cl.lookup x=some c/\X.env.cells.lookup x=some c:=λx hx=>by
  have hm:(x,NameKind.cell)∉scope.names:=λz=>by have:=S.cell _ z rfl;rw[hx]at this;cases this
  obtain⟨c,q⟩:=hfree0 _ (PySem.mem_of_lookup hx) rfl;exact⟨c,by rw[<-hcs,Ew _ _ _ _ hm];exact q,hcl0 _ _ q⟩
 obtain⟨W,⟨m0,w0⟩,turn⟩:=h3 D hnD;have fpb:∀b∈fp,b<D:=λb hb=>by obtain⟨o,e,_⟩:=T.obj _ _ st2 b hb;exact below b o e
 generalize hY:CN X own sel scope cl C s2 H2 fp=Y;have hg:=hg cl C s2 H2 fp;have ht:=ht cl C s2 H2 fp;have he:=he cl C s2 H2 fp;rw[hY]at hg ht he;have okY:Y.Ok:=by
  subst hY;refine⟨I.ok.mod,S.kind,I.ok.glob,I.ok.blt,?_,hinj,λx hx=>?_,λx c hf e=>?_,λz=>I.ok.hd z,I.ok.frames, .inl rfl,λb hb=>⟨?_,λx c e=>?_⟩,I.bs,
   Nat.le_trans I.ok.bsz I.sz,λb o e hb=>?_,λb hb z=>?_,I.stack,I.stkFree⟩
  ·exact hsC
  ·have hx':(relabel scope X.env).names.lookup x=some .cell\/(relabel scope X.env).names.lookup x=some .free:=hx;have hf:scope.names.lookup x=some .cell\/scope.names.lookup x=some .free:=by
    rcases hx' with z|z
    ·rcases DB z with q|q
     ·exact .inl q
     ·exact .inr q
    ·rcases DB z with q|q<;>exact .inr q
   rcases hf with hf|hf
   ·obtain⟨c,q,_⟩:=hcell _ (PySem.mem_of_lookup hf);exact⟨c,q⟩
   ·exact hfree _ (PySem.mem_of_lookup hf) rfl
  ·have hf':scope.names.lookup x=some .cell:=by
    have:(scope.names.lookup x==some NameKind.cell)=true:=hf;exact eq_of_beq this
   obtain⟨c',q,l⟩:=hcell x (PySem.mem_of_lookup hf');have e':cl.lookup x=some c:=e;rw[q]at e'
   cases e'
   exact Nat.le_trans hsC (by lia)
  ·exact neC b (fpb b hb)
  ·rcases hsplit x c e with⟨_,l,_⟩|q
   ·have:=fpb b hb;intro z;subst z;exact absurd (Nat.lt_of_lt_of_le this (Nat.le_of_lt hlt)) (by lia)
   ·exact(f2 b hb).2.2.2.2.1 x c q
  ·rcases(f2 b hb).2.2.2.1 with z|z
   ·exact I.ok.noex b o e z
   ·exact absurd (Nat.lt_of_lt_of_le (Heap.lt_size e) (Nat.le_trans I.ok.bsz z)) (Nat.lt_irrefl _)
  ·rcases List.mem_cons.mp (I.stkSub b z)with q|q
   ·exact(f2 b hb).2.1 q
   ·exact(f2 b hb).2.2.1 q
 have eo:ObjOk X.prog X.w (upd H2 D (.lst [])) h1 D (.lst []):=⟨by decide,[],_, .nil,gD⟩;have I1:Inv Y [] (Aa own sel σ) (upd H2 D (.lst [])) {s2 with heap:=h1}:=by
  subst hY;refine⟨okY,rfl,I.bare,Un.laid keep1 hsD hnD,⟨_,hns1,λi x v e1 e2 e3=>?_⟩,λx c e=>?_,?_,λx c e=>?_,λp hp=>absurd (show p∈([]:List (Addr×Obj))from hp) (by simp),I.hok.laid keep1 hsD eo,?_⟩
  ·obtain⟨k,j,ei,ej,es⟩:=Hq e2;subst ei;have e1':(own++sel.map λj=>X.N.getD j Str.empty)[own.length+k]? =some x:=e1;rw[List.getElem?_append_right (by lia),List.getElem?_map,show own.length+k-own.length=k by lia,ej]at e1';simp only[Option.map_some,Option.some.injEq]at e1';obtain⟨hj,hfx,hkd⟩:=S.seln j (List.mem_of_getElem? ej);have hN:X.N[j]? =some x:=by rw[<-e1',List.getD_eq_getElem?_getD,List.getElem?_eq_getElem hj];rfl
   rw[e1']at hkd hfx;obtain⟨m,_,hl⟩:=I.loc;obtain⟨u,r,lk⟩:=hl j x v hN es (.inr hkd);refine⟨u,r, .inr ⟨FG I.ok.kind hfx,?_⟩⟩;rcases lk with⟨z1,_⟩|⟨_,c,hc1,hc2⟩
   ·have z1':X.env.scope.names.lookup x=some .local:=z1;rcases hkd with q|q<;>(rw[z1']at q;cases q)
   ·obtain⟨c',q,q2⟩:=hold _ hfx;rw[hc1]at q2
    cases q2
    exact⟨c,q,hc2.keeps keep1⟩
  ·rcases hsplit x c e with⟨_,_,z⟩|q
   ·exact⟨_,z⟩
   ·obtain⟨u,z⟩:=I.cell x c q;exact⟨u,z.keeps keep1⟩
  ·show upd H2 D (.lst []) C=none;rw[AE (Ne.symm hDC)];exact hnC
  ·show upd H2 D (.lst []) c=none;rcases hsplit x c e with⟨_,l,_⟩|q
   ·have hcD:D<c:=Nat.lt_of_lt_of_le hlt (by lia);rw[AE (Ne.symm (Nat.ne_of_lt hcD))];exact fresh c (Nat.le_of_lt hcD)
   ·obtain⟨u,o,z,_⟩:=I.cell x c q;rw[AE (neD c (below c o z))];exact I.freeC x c q
  ·show(Aa own sel σ).length=(own++sel.map λj=>X.N.getD j Str.empty).length;rw[Hr];simp
 have fin:∀ (σ':W2) (H':Hp) (s':Shared),Inv Y [] σ' H' s'->Q (.ref D) H'->compPost (model X.prog X.w) X.A X.xe use Qo (.ref D) C (.ok .next) s':=by
  intro σ' H' s' I' q;subst hY;obtain⟨m,hn,_⟩:=I'.loc;have J':Inv X pins σ H' s':=I.call' I'.os I'.base I'.hok I'.bare λb hb=>⟨(f2 b hb).2.2.2.1,(f2 b hb).2.1,(f2 b hb).2.2.2.2.1,(f2 b hb).2.2.2.2.2⟩;refine fin D C H' s' m J' hn ⟨I'.free,Ne.symm (neC _ (by rw[<-hD];exact I.lt)),Nat.le_trans I.sz hsC,λx c e=>?_,λp hp=>?_⟩ q
  ·obtain⟨u,o,z,_⟩:=I.cell x c e;exact neC c (below c o z)
  ·exact neC p.1 (below p.1 p.2 (I.pin p hp).1)
 have stat:∀ {H':Hp},(∀b∈fp,H' b=none)->∀b∈fp,BF Y [] H' b:=fun{H'} hn b hb=>by
  subst hY;refine⟨hn b hb,neC b (fpb b hb),λz=>?_, .inl hb,λx c e=>?_,λp hp=>absurd (show p∈([]:List (Addr×Obj))from hp) (by simp)⟩
  ·rcases List.mem_cons.mp (I.stkSub b z)with q|q
   ·exact(f2 b hb).2.1 q
   ·exact(f2 b hb).2.2.1 q
  ·rcases hsplit x c e with⟨_,l,_⟩|q
   ·have:=fpb b hb;intro z;subst z;exact absurd (Nat.lt_of_lt_of_le this (Nat.le_of_lt hlt)) (by lia)
   ·exact(f2 b hb).2.2.2.2.1 x c q
 have loop:∀s3:Shared,s3={s2 with heap:=h1}->
  codeAny (model X.prog X.w) X.A (.compLoop (.ListComp elt [⟨tg,iter,ifs,0⟩] scope pos) 0 (.ref it) (.ref D) (compEnvC scope cl C X.env)) (compPost (model X.prog X.w) X.A X.xe use Qo (.ref D) C) s3:=by
  rintro s3 rfl;have eP:Y.prog=X.prog:=by subst hY;rfl
  have eW:Y.w=X.w:=by subst hY;rfl
  have eA:Y.A=X.A:=by subst hY;rfl
  have eK:Y.K=X.K:=by subst hY;rfl
  have eE:Y.env=compEnvC scope cl C X.env:=by subst hY;rfl
  have eX:Y.xe=λ_ _=>False:=by subst hY;rfl
  have eC:Y.calm=true:=by subst hY;exact hc
  refine KN (λn s'=>∃i H',Inv Y [] (Aa own sel σ) H' s'/\tn i s'.heap/\(∀b∈fp,H' b=none)/\W i n H') ?_ m0
   ⟨0,_,I1,T.keep _ _ _ st2 λb _ o e=>keep1 b o e,λb hb=>by rw[AE (neD b (fpb b hb))];exact(f2 b hb).1,w0⟩
  rintro n s4 ⟨i,H4,I4,st4,fr4,w4⟩;rcases turn i n H4 w4 with⟨stop,q⟩|⟨go,step⟩
  ·have dn:=T.done Y eP eW eK eC i [] s4 _ H4 (λ_ _=>False) I4 (stat fr4) st4 stop;rw[eA]at dn;refine thn dn λr s5 ⟨hr,I5⟩=>?_;subst hr;exact fin _ _ _ I5 q
  ·have im:=T.item Y eP eW eK eC i [] s4 _ H4 (λ_ _=>False) I4 (stat fr4) st4 go;rw[eA]at im;refine thn im λr s5 ⟨u,hr,h5⟩=>?_;subst hr;refine thn h5 λ_ s6 ⟨x,H6,I6,r6,y6,st6,fr6⟩=>?_;have I6':=I6.pinned (stat fr6) (T.obj _ _ st6);have back:∀ {σ7:W2} {H7:Hp} {s7:Shared} {k:Nat},Inv Y ([]++Cv fp s6.heap) σ7 H7 s7->σ7.length=(Aa own sel σ).length->(∀j,own.length<=j->σ7[j]? =(Aa own sel σ)[j]?)->(∃m',m'<n/\W (i+1) m' H7)->
    ∃m',m'<n/\∃i H',Inv Y [] (Aa own sel σ) H' s7/\tn i s7.heap/\(∀b∈fp,H' b=none)/\W i m' H':=fun{σ7 H7 s7 k} I7 l7 k7 w7=>by
    obtain⟨m',hm,w7⟩:=w7;refine⟨m',hm,i+1,H7,I7.unpinned.weak l7.symm λj v e=>?_,T.keep _ _ _ st6 λb hb o e=>(I7.pin (b,o) (List.mem_append_right _ (List.mem_append_right _ (Cr hb e)))).1,λb hb=>?_,w7⟩
    ·by_cases hj:j<own.length
     ·rw[FY hj]at e;cases e
     ·rw[k7 j (Nat.le_of_not_lt hj)];exact e
    ·obtain⟨o,e,d⟩:=T.obj _ _ st6 b hb;exact(I7.pin (b,o) (List.mem_append_right _ (List.mem_append_right _ (Cr hb e)))).2.1
   have ga:=hg _ s6 _ H6 x u _ I6' r6 (hk _ _ _ _ (step x H6 y6));rw[eP,eW,eA,eE,eX]at ga;refine thn ga λ_ s7 ⟨σ7,H7,I7,q7,l7,k7⟩=>?_;have ta:=ht _ s7 σ7 H7 _ I7 q7;rw[eP,eW,eA,eE,eX]at ta;refine thn ta λb s8 ⟨H8,I8,q8⟩=>?_
   cases b with
   |false=>
    rw[if_neg Bool.false_ne_true]at q8⊢;exact back (k:=0) I8 l7 k7 q8
   |true=>
    rw[if_pos rfl]at q8⊢;have ea:=he _ s8 σ7 H8 _ I8 q8;rw[eP,eW,eA,eE,eX]at ea;refine thn ea λv s9 ⟨x9,H9,I9,r9,ys,hD9,hz9,q9⟩=>?_;have aa:=CI (X:=Y) _ s9 σ7 H9 (.ref D) [x9] (.ref D) [v] (λ_ H'=>∃m',m'<n/\W (i+1) m' H') I9 rfl (.cons r9 .nil) ⟨D,ys,x9,rfl,rfl,hD9,hz9,q9⟩;rw[eP,eW,eA,eX]at aa;exact thn aa λ_ s10 ⟨_,H10,I10,_,q10⟩=>back (k:=0) I10 l7 k7 q10
 exact codeAny_compStart_list (loop _ rfl) (T.self X.A 0 _ _ _ (T.keep _ _ _ st2 λb _ o e=>keep1 b o e) (loop _ rfl))
theorem Ry{pos:Pos}
 (S:CompOkC X.env.scope X.N own sel scope) (hc:X.calm=true) (hi:PI X tg iter wi)
 (hg:∀cl C s2 H2 fp,PG (CN X own sel scope cl C s2 H2 fp) tg g) (hk:GK own.length g)
 (ht:∀cl C s2 H2 fp,PIf (CN X own sel scope cl C s2 H2 fp) ifs tt) (he:∀cl C s2 H2 fp,PE (CN X own sel scope cl C s2 H2 fp) elt te)
 (hs:∀x,foldedSetIterable iter X.env x=pure x:=by intro _;rfl):
 PE X (.ListComp elt [⟨tg,iter,ifs,0⟩] scope pos) (D3 own sel wi g tt te):=by
 intro pins s σ H Q I h;rw[eval_ListComp];refine QQ (use:=none) S hc hi hg hk ht he hs I h λD C H' s' m I' hn f q=>?_;exact⟨m,hn,λh' k=>⟨.ref D,H',I'.far f k,rfl,q⟩⟩
def DY(lo c:Int)(n:Nat):W3:=⟨λi _=>i<n,λi H x H'=>H'=H/\x= .int (lo+i*c),λi _=>n<=i⟩
theorem PU(it:Addr)(lo c:Int)(n:Nat):Turn P w K tg (DY lo c n) [it] it (λi h=>IsRangeIter h it (lo+(i:Nat)*c) ((n:Int)-(i:Nat)) c) where
 mem:=by simp
 obj:=λi h st b hb=>by
  obtain rfl:b=it:=by simpa using hb
  exact⟨_,st,λv z=>by
   have z':Data.fields _=Data.cell v:=z
   cases z'⟩
 keep:=λi h h' st k=>k it (by simp) _ st
 item:=by
  intro X hP hw hK hc i pins s σ H E I hf st hg;subst hP hw hK;obtain⟨f0,f1,f2,f3,f4,f5⟩:=hf it (by simp);have W:=Walks.range (prog:=X.prog) (w:=X.w) (I.ok.hd hc) it lo c n;refine W.item i s _ _ hg st λv h' tk hv st' kk=>?_;obtain⟨t,rfl⟩:=hv;have I1:Inv X pins σ H {s with heap:=h',toks:=tk}:=I.turned (λb o hb e=>kk b o (by simpa using hb) e) f0 f1 f3 f4 f5;exact⟨_,rfl,GF (s:={s with heap:=h',toks:=tk}) (n:="range_iterator") st' rfl rfl (by decide) ⟨.int (lo+i*c),H,I1,⟨t,rfl⟩,⟨rfl,rfl⟩,st',λb hb=>(hf b hb).1⟩⟩
 done:=by
  intro X hP hw hK hc i pins s σ H E I hf st hg;subst hP hw hK;obtain⟨f0,f1,f2,f3,f4,f5⟩:=hf it (by simp);exact wpAny_pyNext_range_end (I.ok.hd hc) st (by have:n<=i:=hg;lia) λh' eb=>⟨rfl,I.turned (t':=s.toks) (λb o hb e=>eb b o hb e) f0 f1 f3 f4 f5⟩
 self:=λ_ _ _ _ _ st h=>wpAny_pyIter_rangeiter st h
def rN(a b c:Int):Nat:=(Builtin.Range.rangeSize a b c).toNat
theorem Qf{t u v:Tok}(I:Inv X pins σ H s)(hs:Builtin.Range.small lo hi c=true)
 (q:R (DY lo c (rN lo hi c)) H):wpAny (model X.prog X.w) X.A (pyIter (.ref s.heap.objs.size)) (PIE X pins σ tg R) E {s with heap:=s.heap.push {cls:= .type "range",data:= .fields #[.int lo t, .int hi u, .int c v]},toks:=tk}:=by
 refine wpAny_pyIter_range (IsRange.new ..) hs ?_;have I1:Inv X pins σ H {s with heap:=s.heap.push {cls:= .type "range",data:= .fields #[.int lo t, .int hi u, .int c v]},toks:=tk}:=I.kept λb o e=>Heap.get?_push_of_some _ e;refine⟨(s.heap.push {cls:= .type "range",data:= .fields #[.int lo t, .int hi u, .int c v]}).objs.size,[(s.heap.push {cls:= .type "range",data:= .fields #[.int lo t, .int hi u, .int c v]}).objs.size],_,_,H,rfl,
  I1.kept (t':=tk) λb o e=>Heap.get?_push_of_some _ e,PU _ lo c (rN lo hi c),?_,λb hb=>?_,q⟩
 ·have e1:lo+((0:Nat):Int)*c=lo:=by simp
  have e2:((rN lo hi c:Nat):Int)-((0:Nat):Int)=Builtin.Range.rangeSize lo hi c:=by unfold rN;rw[<-rangeSize_toNat];simp
  show IsRangeIter _ _ (lo+((0:Nat):Int)*c) (((rN lo hi c:Nat):Int)-((0:Nat):Int)) c;rw[e1,e2];exact Heap.get?_push_size _ rfl
 ·obtain rfl:b=(s.heap.push {cls:= .type "range",data:= .fields #[.int lo t, .int hi u, .int c v]}).objs.size:=by simpa using hb
  exact I1.fpOk (Nat.le_refl _) (I1.hok.fresh (Nat.le_refl _))
def NY(ta:TA):TI:=λσ H R=>ta σ H λvs H1=>∃i j c:Int,vs=[.int i, .int j, .int c]/\(c≠0/\c.natAbs<1000/\Builtin.Range.small i j c=true)/\R (DY i c (rN i j c)) H1
theorem Bi{a b c:Expr}{p pos:Pos}(hg:Gl X "range")(hm:X.mg "range"=none)(ha:PA X [a,b,c] ta)(hs:starEach [a,b,c] X.env=[(false,eval a X.env),(false,eval b X.env),(false,eval c X.env)]:=by rfl)(hs2:starEach [b,c] X.env=[(false,eval b X.env),(false,eval c X.env)]:=by rfl):
 PI X tg (.Call (.Name "range" p) [a,b,c] [] pos) (NY ta):=by
 intro pins s σ H R I h;refine Call_ (CB I hg hm boot_range (PyProof.Rows.callWith_type1 (thn (ha pos pins s σ H _ I h) λus s1 ⟨vs,H1,I1,r1,q1⟩=>?_) (by rw[hs,hs2]) (by rw[hs2];rfl)));obtain⟨i,j,c,e,⟨q1,q2,q3⟩,q⟩:=q1;subst e
 cases r1 with
 |cons r rr=>
  cases rr with
  |cons r' rr=>
   cases rr with
   |cons r'' rr=>
    cases rr
    obtain⟨t,rfl⟩:=r;obtain⟨t',rfl⟩:=r';obtain⟨t'',rfl⟩:=r'';exact call_range_3 q1 (Qf I1 q3 q) (Or.inl (PyProof.noPylong_small (by lia)))
theorem B3{a b:Int}(ha:0<=a)(ha':a<=1000)(hb: -1000<=b)(hb':b<=1000):Builtin.Range.small a b 2=true:=by
 unfold Builtin.Range.small Builtin.Range.rangeSize;simp only[Builtin.Range.rangeFitsLong,Bool.and_eq_true,Bool.or_eq_true,decide_eq_true_eq,beq_iff_eq,show(2:Int)>0 by decide,if_true]
 split<;>lia
theorem KA{a b:Int}(hc:c= -1\/c= -2)(ha: -1000<=a)(ha':a<=1000)(hb: -1000<=b)(hb':b<=1000):Builtin.Range.small a b c=true:=by
 unfold Builtin.Range.small Builtin.Range.rangeSize;rcases hc with rfl|rfl
 ·simp only[Builtin.Range.rangeFitsLong,Bool.and_eq_true,Bool.or_eq_true,decide_eq_true_eq,beq_iff_eq,show¬ ((-1:Int)>0) by decide,if_false,Int.neg_neg]
  split<;>lia
 ·simp only[Builtin.Range.rangeFitsLong,Bool.and_eq_true,Bool.or_eq_true,decide_eq_true_eq,beq_iff_eq,show¬ ((-2:Int)>0) by decide,if_false,Int.neg_neg]
  split<;>lia
theorem CA(a b:Int):rN a b 2=((b-a+1)/2).toNat:=by
 unfold rN Builtin.Range.rangeSize;simp only[show(2:Int)>0 by decide,if_true]
 split<;>lia
theorem L7(a b:Int):rN a b (-1)=(a-b).toNat:=by
 unfold rN Builtin.Range.rangeSize;simp only[show¬ ((-1:Int)>0) by decide,if_false,Int.neg_neg]
 split<;>lia
def Nq(K:W.Frag):List V->Hp->VK->Prop:=λxs H Q=>∃ (p:Addr) (ns:List Int),xs=[.ref p]/\SqL K H p (ns.map V.int)/\Q (.int ns.sum) H
theorem Kq(K:W.Frag)(hc:X.calm=true)(hK:X.K=K:=by rfl):CallR X (.builtin "sum") (Nq K):=by
 subst hK;intro pins s σ H xs us Q I r h;obtain⟨p,ns,rfl,hq,q⟩:=h;obtain⟨u,rfl,ru⟩:=vals1 r
 cases ru
 obtain⟨its,rr,ht,hz⟩:=I.list hq;have hi:=KI rr;obtain⟨xs,e⟩:=hi.allInts.items;have hns:ns=xs.toList.map (·.1):=by rw[<-hi.numsOf,<-nums_intItems,<-e]
 have hl:=ht.isList;rw[e]at hl;refine sum_intListG (I.ok.hd hc) hl λh' tk t' hk=>?_;have e2:preSum (numAt xs) xs.size=ns.sum:=by
  rw[preSum_eq,List.take_of_length_le (by simp),hns]
 rw[e2];exact⟨.int ns.sum,H,I.kept λb o z=>hk b o z,⟨t',rfl⟩,q⟩
def NV(K:W.Frag):List V->Hp->VK->Prop:=λxs H Q=>∃p ys,xs=[.ref p]/\(SqL K H p ys\/SqT K H p ys)/\∀l,H l=none->Q (.ref l) (upd H l (.lst ys))
theorem QU(K:W.Frag)(hK:X.K=K:=by rfl):CallR X (.type "list") (NV K):=by subst hK;exact PN
def NW(K:W.Frag):V->V->Hp->VK->Prop:=λx y H Q=>∃p xs,∃ (j:Nat),∃v,x= .ref p/\y= .int j/\SqL K H p xs/\xs[j]? =some v/\Q v H
theorem EQ(K:W.Frag)(hK:X.K=K:=by rfl):N7 X (NW K):=by
 subst hK;intro pins s σ H o i ov iv Q I r1 r2 h;obtain⟨p,xs,j,z,rfl,rfl,hq,he,q⟩:=h
 cases r1
 obtain⟨t,rfl⟩:=r2;obtain⟨its,r,pl,hz⟩:=I.list hq;obtain⟨w,ew,rw'⟩:=r.get he;have hl:=r.length;have hn:=Cy;have hj:=(List.getElem?_eq_some_iff.mp he).1;exact wpAny_getItem_list pl.isList (by lia) (by lia) (by simpa using ew) ⟨z,H,I,rw',q⟩
section
variable{Q:VK}{D:Ends}
theorem S8(h:ta σ H λvs H1=>∃i j c:Int,vs=[.int i, .int j, .int c]/\(c≠0/\c.natAbs<1000/\Builtin.Range.small i j c=true)/\R (DY i c (rN i j c)) H1):NY ta σ H R:=h
theorem NQ(hq:SqL K H p (ns.map V.int))(h:Q (.int ns.sum) H):Nq K [.ref p] H Q:=⟨p,ns,rfl,hq,h⟩
theorem S5{ys:List V}(hq:SqL K H p ys)(h:∀l,H l=none->Q (.ref l) (upd H l (.lst ys))):NV K [.ref p] H Q:=⟨p,ys,rfl, .inl hq,h⟩
theorem VA{tip:TIp}(h:to σ H λo H1=>ti σ H1 λi H2=>tget o i H2 λx H3=>te σ H3 λy H4=>tip x y H4 λz H5=>tset o i z H5 λH6=>D.nx σ H6):NO to ti te tget tip tset D σ H:=h
theorem Ek{v:V}(hq:SqL K H p xs)(he:xs[j]? =some v)(h:Q v H):NW K (.ref p) (.int j) H Q:=⟨p,xs,j,v,rfl,rfl,hq,he,h⟩
theorem B4(Pv:Nat->W2->Hp->Prop)(h0:Pv 0 σ H)
 (hs:∀i σ H,i<n->Pv i σ H->g (.int (lo+i*c)) σ H λσ2 H2=>tb {D with nx:=Pv (i+1),ct:=Pv (i+1),bk:=D.nx} σ2 H2) (hd:∀σ H,Pv n σ H->D.nx σ H):DZ (DY lo c n) g tb D σ H:=
 JG (n:=n) Pv h0 (λi σ H hi _=>hi) (λσ H _=>Nat.le_refl _) (λi x σ H H' hi p y=>by obtain⟨rfl,rfl⟩:=y;exact hs i σ _ hi p) hd
end
def Rm(scope osc:Scope):Scope:={scope with names:=scope.names.map fun(n,k)=>if(k== .free&&osc.kind== .function&&osc.names.lookup n==some .cell)then(n, .cell)else(n,k)}
theorem SX{own':List Str}{sel':List Nat}{cl:List (Str×Addr)}
 (e:X.env.scope=osc) (eN:(CN X own' sel' sc cl C s2 H2 fp).N=N) (h:Ia (Rm sc osc) N own sel scope=true):CompOk (CN X own' sel' sc cl C s2 H2 fp).env.scope (CN X own' sel' sc cl C s2 H2 fp).N own sel scope:=by
 subst e;subst eN;exact A4 h
def La(osc:Scope)(N:List Str)(own:List Str)(sel:List Nat)(scope:Scope):Bool:=
 (scope.kind== .function)&&scope.names.all (λy=>y.2 != .cell||scope.names.lookup y.1==some .cell)&&scope.names.all (λy=>y.2 != .local||scope.names.lookup y.1==some .local)&&
 scope.names.all (λy=>y.2 != .free||osc.names.lookup y.1==some .cell||osc.names.lookup y.1==some .free)&&
 sel.all (λj=>decide (j<N.length)&&scope.names.lookup (N.getD j Str.empty)==some .free&&(osc.names.lookup (N.getD j Str.empty)==some .cell||osc.names.lookup (N.getD j Str.empty)==some .free))
theorem QR(h:La osc N own sel scope=true):CompOkC osc N own sel scope:=by
 unfold La at h;simp only[Bool.and_eq_true,List.all_eq_true]at h;obtain⟨⟨⟨⟨h1,h2⟩,h3⟩,h4⟩,h5⟩:=h;refine⟨by simpa using h1,λy hy e=>?_,λy hy e=>?_,λy hy e=>?_,λj hj=>?_⟩
 ·have:=h2 y hy;simp only[Bool.or_eq_true,bne_iff_ne,beq_iff_eq]at this;rcases this with q|q
  ·exact absurd e q
  ·exact q
 ·have:=h3 y hy;simp only[Bool.or_eq_true,bne_iff_ne,beq_iff_eq]at this;rcases this with q|q
  ·exact absurd e q
  ·exact q
 ·have:=h4 y hy;simp only[Bool.or_eq_true,bne_iff_ne,beq_iff_eq]at this;rcases this with(q|q)|q
  ·exact absurd e q
  ·exact .inl q
  ·exact .inr q
 ·have:=h5 j hj;simp only[Bool.or_eq_true,beq_iff_eq,decide_eq_true_eq]at this;exact⟨this.1.1,this.1.2,this.2⟩
def big:Nat:=2^10000
theorem Ld(h:i.natAbs<big):Builtin.Int.intBits i<=2^20:=by
 refine Nat.le_trans (?_ :Builtin.Int.intBits i<=10000) (by decide);exact PySem.intBits_le_iff.mpr h
def rTimesW:R2:=λx y H Q=>(∃i j,x= .int i/\y= .int j/\(i.natAbs<big/\j.natAbs<big)/\Q (.int (i*j)) H)\/rRep x y H Q\/NU x y H Q
theorem op_mulW:OpR X (binaryOp .Mult) (rI (λi j=>i.natAbs<big/\j.natAbs<big) λi j=> .int (i*j)):=opI λ_ _ _ _ _ _ _ hc q=>mul_int q (PySem.IntMulOk.of_bits (Ld hc.1) (Ld hc.2))
theorem Av:OpR X (binaryOp .Mult) rTimesW:=op_mulW.or (op_rep.or MC)
section
variable{Q:VK}
theorem Aw{j:Int}(h1:i.natAbs<big)(h2:j.natAbs<big)(h:Q (.int (i*j)) H):rTimesW (.int i) (.int j) H Q:= .inl ⟨i,j,rfl,rfl,⟨h1,h2⟩,h⟩
theorem Dh{J:W3}(f:Nat->V)(hn:n<=sizeLine)(Iv:Addr->Nat->List V->Hp->Prop)
 (hgo:∀i H',i<n->Same H H'->J.go i H') (hsp:∀H',Same H H'->J.stop n H') (hy:∀i H1 x H',i<n->Same H H1->J.yld i H1 x H'->H'=H1/\x=f i)
 (h0:∀D,H D=none->Iv D 0 [] (upd H D (.lst []))) (mono:∀D i ys H1 H2,H D=none->Iv D i ys H1->SameBut1 D H1 H2->Iv D i ys H2)
 (hst:∀D ys H',H D=none->H' D=some (.lst ys)->ys.length=n->Same H H'->Iv D n ys H'->Q (.ref D) H')
 (hs:∀ (D:Addr) (i:Nat) (ys:List V) (H':Hp) (R:V->Hp->Prop),H D=none->i<n->H' D=some (.lst ys)->ys.length=i->Same H H'->Iv D i ys H'->(∀v H6,Same H' H6->Iv D (i+1) (ys++[v]) H6->R v H6)->
   g (f i) (Aa own sel σ) H' λσ4 H4=>te σ4 H4 R):BL J own sel σ g tYes te Q H:=by
 refine DK (n:=n) (λD i ys H'=>ys.length=i/\Same H H'/\Iv D i ys H') (λD hD=>⟨rfl,AL hD _,h0 D hD⟩) (λD i ys H' hD hi _ ⟨_,sH,_⟩=>hgo i H' hi sH)
  (λD ys H' hD hy' hl ⟨e,sH,iv⟩=>⟨hsp H' sH,hst D ys H' hD hy' e sH iv⟩) ?_
 rintro D i ys H1 x H3 hD hi hyD hl ⟨el,sH,iv⟩ yl;obtain⟨rfl,rfl⟩:=hy i H1 x H3 hi sH yl;have key:=hs D i ys H3 (λv H6=>∃ys,H6 D=some (.lst ys)/\ys.length<sizeLine/\∃m',m'<n-i/\CW D n (λi ys H'=>ys.length=i/\Same H H'/\Iv D i ys H') (i+1) m' (upd H6 D (.lst (ys++[v])))) hD hi hyD el sH iv (λv H6 s6 iv6=>?_)
 ·have ef:(fun(σ4:W2) (H4:Hp)=>tYes σ4 H4 λb H5=>if b=true then te σ4 H5 λv H6=>∃ys,H6 D=some (.lst ys)/\ys.length<sizeLine/\∃m',m'<n-i/\CW D n (λi ys H'=>ys.length=i/\Same H H'/\Iv D i ys H') (i+1) m' (upd H6 D (.lst (ys++[v])))
   else∃m',m'<n-i/\CW D n (λi ys H'=>ys.length=i/\Same H H'/\Iv D i ys H') (i+1) m' H5)=λσ4 H4=>te σ4 H4 λv H6=>∃ys,H6 D=some (.lst ys)/\ys.length<sizeLine/\∃m',m'<n-i/\CW D n (λi ys H'=>ys.length=i/\Same H H'/\Iv D i ys H') (i+1) m' (upd H6 D (.lst (ys++[v]))):=by
   funext σ4 H4
   exact propext ⟨λz=>by have z':=z;simp only[tYes]at z';simpa using z',λz=>by show tYes _ _ _;simp only[tYes];simpa using z⟩
  rw[ef];exact key
 ·refine De hi hn (s6 _ _ hyD) hl ⟨by simp[el],λb o z=>?_,mono D _ _ _ _ hD iv6 SameBut1.upd⟩;rw[AE (AT z hD)];exact s6 b o (sH b o z)
theorem ID(hn:n<=sizeLine)(Iv:Addr->Nat->List V->Hp->Prop)
 (h0:∀D,H D=none->Iv D 0 [] (upd H D (.lst []))) (mono:∀D i ys H1 H2,H D=none->Iv D i ys H1->SameBut1 D H1 H2->Iv D i ys H2)
 (hst:∀D ys H',H D=none->H' D=some (.lst ys)->ys.length=n->Same H H'->Iv D n ys H'->Q (.ref D) H')
 (hs:∀ (D:Addr) (i:Nat) (ys:List V) (H':Hp) (R:V->Hp->Prop),H D=none->i<n->H' D=some (.lst ys)->ys.length=i->Same H H'->Iv D i ys H'->(∀v H6,Same H' H6->Iv D (i+1) (ys++[v]) H6->R v H6)->
   g (.int (lo+i)) (Aa own sel σ) H' λσ4 H4=>te σ4 H4 R):BL (Itr lo n) own sel σ g tYes te Q H:=
 Dh (λi=> .int (lo+i)) hn Iv (λi H' hi _=>hi) (λH' _=>Nat.le_refl _) (λi H1 x H' _ _ y=>y) h0 mono hst hs
theorem RP(hn:n<=sizeLine)(Iv:Addr->Nat->List V->Hp->Prop)
 (h0:∀D,H D=none->Iv D 0 [] (upd H D (.lst []))) (mono:∀D i ys H1 H2,H D=none->Iv D i ys H1->SameBut1 D H1 H2->Iv D i ys H2)
 (hst:∀D ys H',H D=none->H' D=some (.lst ys)->ys.length=n->Same H H'->Iv D n ys H'->Q (.ref D) H')
 (hs:∀ (D:Addr) (i:Nat) (ys:List V) (H':Hp) (R:V->Hp->Prop),H D=none->i<n->H' D=some (.lst ys)->ys.length=i->Same H H'->Iv D i ys H'->(∀v H6,Same H' H6->Iv D (i+1) (ys++[v]) H6->R v H6)->
   g (.int (lo+i*c)) (Aa own sel σ) H' λσ4 H4=>te σ4 H4 R):BL (DY lo c n) own sel σ g tYes te Q H:=
 Dh (λi=> .int (lo+i*c)) hn Iv (λi H' hi _=>hi) (λH' _=>Nat.le_refl _) (λi H1 x H' _ _ y=>y) h0 mono hst hs
theorem Lh{a:List Nat}(hn:a.length<=sizeLine)(Iv:Addr->Nat->List V->Hp->Prop)
 (h0:∀D,H D=none->Iv D 0 [] (upd H D (.lst []))) (mono:∀D i ys H1 H2,H D=none->Iv D i ys H1->SameBut1 D H1 H2->Iv D i ys H2)
 (hst:∀D ys H',H D=none->H' D=some (.lst ys)->ys.length=a.length->Same H H'->Iv D a.length ys H'->Q (.ref D) H')
 (hs:∀ (D:Addr) (i:Nat) (ys:List V) (H':Hp) (R:V->Hp->Prop),H D=none->i<a.length->H' D=some (.lst ys)->ys.length=i->Same H H'->Iv D i ys H'->(∀v H6,Same H' H6->Iv D (i+1) (ys++[v]) H6->R v H6)->
   g (tx [a.getD i 0]) (Aa own sel σ) H' λσ4 H4=>te σ4 H4 R):BL (Its ⟨a.toArray⟩) own sel σ g tYes te Q H:=
 Dh (λi=>tx [a.getD i 0]) hn Iv (λi H' hi _=>by simpa[Its]using hi) (λH' _=>by simp[Its]) (λi H1 x H' hi _ y=>by
  obtain⟨rfl,c,e,rfl⟩:=y;have e':a[i]? =some c:=by simpa using e
  exact⟨rfl,by rw[List.getD_eq_getElem?_getD,e'];rfl⟩) h0 mono hst hs
theorem RS(v:Nat->V)(hn:n<=sizeLine)(hst:∀D H',H D=none->Same H H'->H' D=some (.lst ((List.range n).map v))->Q (.ref D) H')
 (hs:∀ (i:Nat) (H':Hp) (R:V->Hp->Prop),i<n->Same H H'->(∀H6,Same H' H6->R (v i) H6)->g (.int (lo+i)) (Aa own sel σ) H' λσ4 H4=>te σ4 H4 R):BL (Itr lo n) own sel σ g tYes te Q H:=
 ID hn (λD i ys _=>ys=(List.range i).map v) (λ_ _=>rfl) (λ_ _ _ _ _ _ e _=>e) (λD ys H' hD hy _ sH e=>hst D H' hD sH (by rw[hy,e]))
  (λD i ys H' R hD hi hy _ sH e r=>hs i H' R hi sH λH6 s6=>r _ H6 s6 (by rw[e,List.range_succ,List.map_append];rfl))
theorem KO(v:Nat->V)(hn:n<=sizeLine)(hst:∀D H',H D=none->Same H H'->H' D=some (.lst ((List.range n).map v))->Q (.ref D) H')
 (hs:∀ (i:Nat) (H':Hp) (R:V->Hp->Prop),i<n->Same H H'->(∀H6,Same H' H6->R (v i) H6)->g (.int (lo+i*c)) (Aa own sel σ) H' λσ4 H4=>te σ4 H4 R):BL (DY lo c n) own sel σ g tYes te Q H:=
 RP hn (λD i ys _=>ys=(List.range i).map v) (λ_ _=>rfl) (λ_ _ _ _ _ _ e _=>e) (λD ys H' hD hy _ sH e=>hst D H' hD sH (by rw[hy,e]))
  (λD i ys H' R hD hi hy _ sH e r=>hs i H' R hi sH λH6 s6=>r _ H6 s6 (by rw[e,List.range_succ,List.map_append];rfl))
theorem RR{a:List Nat}(v:Nat->V)(hn:a.length<=sizeLine)(hst:∀D H',H D=none->Same H H'->H' D=some (.lst (a.map v))->Q (.ref D) H')
 (hs:∀ (i c:Nat) (H':Hp) (R:V->Hp->Prop),a[i]? =some c->Same H H'->(∀H6,Same H' H6->R (v c) H6)->g (tx [c]) (Aa own sel σ) H' λσ4 H4=>te σ4 H4 R):BL (Its ⟨a.toArray⟩) own sel σ g tYes te Q H:=
 Lh hn (λD i ys _=>ys=(a.take i).map v) (λ_ _=>rfl) (λ_ _ _ _ _ _ e _=>e) (λD ys H' hD hy _ sH e=>hst D H' hD sH (by rw[hy,e,List.take_length]))
  (λD i ys H' R hD hi hy _ sH e r=>by
    have ec:a[i]? =some a[i]:=List.getElem?_eq_getElem hi;have eg:a.getD i 0=a[i]:=by rw[List.getD_eq_getElem?_getD,ec];rfl
    rw[eg];exact hs i a[i] H' R ec sH λH6 s6=>r _ H6 s6 (by rw[e,List.take_add_one,ec,List.map_append];rfl))
end
end L2
namespace BrC
variable{g:Nat->Int}
def sm:Nat->(Nat->Int)->Int
 |0,_=>0
 |n+1,f=>sm n f+f n
theorem AQ:∀n,(∀i,i<n->f i=g i)->sm n f=sm n g
 |0,_=>rfl
 |n+1,h=>by unfold sm;rw[AQ n λi hi=>h i (Nat.lt_succ_of_lt hi),h n (Nat.lt_succ_self n)]
theorem CJ(f g:Nat->Int):∀n,sm n (λi=>f i+g i)=sm n f+sm n g
 |0=>rfl
 |n+1=>by unfold sm;rw[CJ f g n];show sm n f+sm n g+(f n+g n)=_;lia
theorem BI(c:Int)(f:Nat->Int):∀n,sm n (λi=>c*f i)=c*sm n f
 |0=>by simp[sm]
 |n+1=>by unfold sm;rw[BI c f n,Int.mul_add]
theorem CU(c:Int)(f:Nat->Int)(n:Nat):sm n (λi=>f i*c)=sm n f*c:=by
 rw[Int.mul_comm,<-BI];exact AQ n λi _=>Int.mul_comm _ _
theorem sm_zero:∀n,(∀i,i<n->f i=0)->sm n f=0
 |0,_=>rfl
 |n+1,h=>by unfold sm;rw[sm_zero n λi hi=>h i (Nat.lt_succ_of_lt hi),h n (Nat.lt_succ_self n)];rfl
theorem He(f:Nat->Int):∀n,sm (n+1) f=f 0+sm n (λi=>f (i+1))
 |0=>by simp[sm]
 |n+1=>by rw[sm,He f n,sm];lia
theorem CV(f:Nat->Nat->Int)(m:Nat):∀n,sm n (λi=>sm m λj=>f i j)=sm m (λj=>sm n λi=>f i j)
 |0=>by rw[sm];exact(sm_zero m λ_ _=>rfl).symm
 |n+1=>by rw[sm,CV f m n,<-CJ];rfl
theorem Iq(f:Nat->Nat->Int):∀L,sm L (λa=>sm (L-a-1) λb=>f a (a+1+b))=sm L (λe=>sm e λa=>f a e)
 |0=>rfl
 |L+1=>by
  rw[sm,sm];have e:sm L (λa=>sm (L+1-a-1) λb=>f a (a+1+b))=sm L (λa=>(sm (L-a-1) λb=>f a (a+1+b))+f a L):=by
   refine AQ L λa ha=>?_;have:L+1-a-1=(L-a-1)+1:=by lia
   rw[this,sm];congr 2;lia
  rw[e,CJ,Iq f L,show L+1-L-1=0 by lia,sm];lia
theorem A7:∀n,(∀i,i<n->0<=f i)->0<=sm n f
 |0,_=>Int.le_refl _
 |n+1,h=>by unfold sm;have:=A7 n λi hi=>h i (Nat.lt_succ_of_lt hi);have:=h n (Nat.lt_succ_self n);lia
theorem DI:∀n,(∀i,i<n->f i<=g i)->sm n f<=sm n g
 |0,_=>Int.le_refl _
 |n+1,h=>by unfold sm;have:=DI n λi hi=>h i (Nat.lt_succ_of_lt hi);have:=h n (Nat.lt_succ_self n);lia
theorem DE(c:Int):∀n,sm n (λ_=>c)=n*c
 |0=>by simp[sm]
 |n+1=>by rw[sm,DE c n];rw[Int.natCast_add,Int.add_mul];simp
theorem B9(hi:i<n)(h:∀j,j<n->j≠i->f j=0):sm n f=f i:=by
 induction n with
 |zero=>lia
 |succ n ih=>
  unfold sm
  by_cases e:i=n
  ·subst e;rw[sm_zero i λj hj=>h j (by lia) (by lia)];lia
  ·rw[ih (by lia) λj hj=>h j (by lia),h n (by lia) (by lia)];lia
theorem JR(hi:i<n)(h:∀j,j<n->0<=f j):f i<=sm n f:=by
 induction n with
 |zero=>lia
 |succ n ih=>
  unfold sm
  by_cases e:i=n
  ·subst e;have:=A7 (f:=f) i λj hj=>h j (by lia);lia
  ·have:=ih (by lia) λj hj=>h j (by lia);have:=h n (by lia);lia
theorem Fg(f:Nat->Int):∀n,(∀i,i<n->i%2=1->f i=0)->sm n f=sm ((n+1)/2) λq=>f (2*q)
 |0,_=>rfl
 |n+1,h=>by
  rw[sm,Fg f n λi hi=>h i (Nat.lt_succ_of_lt hi)]
  by_cases e:n%2=1
  ·rw[h n (Nat.lt_succ_self n) e,show(n+1+1)/2=(n+1)/2 by lia];lia
  ·rw[show(n+1+1)/2=(n+1)/2+1 by lia,sm,show 2*((n+1)/2)=n by lia]
theorem HG(f:Nat->Int):∀n,((List.range n).map f).sum=sm n f
 |0=>rfl
 |n+1=>by rw[List.range_succ,List.map_append,List.sum_append,HG f n];simp[sm]
def cv(P:Nat->Nat->Int)(k:Nat):Nat->Nat->List Nat->Int
 |0,_,[]=>1
 |0,_,_::_=>0
 |n+1,i,st=>sm k (λp=>P i (2*p)*cv P k n (i+1) (p::st))+(match st with|[]=>0|o::r=>P i (2*o+1)*cv P k n (i+1) r)
variable{k:Nat}
theorem Bs(n i:Nat):cv P k (n+1) i []=sm k (λp=>P i (2*p)*cv P k n (i+1) [p]):=by
 rw[cv];simp
theorem Bz(n i o:Nat)(st:List Nat):cv P k (n+1) i (o::st)=sm k (λp=>P i (2*p)*cv P k n (i+1) (p::o::st))+P i (2*o+1)*cv P k n (i+1) st:=by
 rw[cv]
theorem LX:∀ (N n i o:Nat) (st:List Nat),n<=N->cv P k n i (o::st)=sm n (λe=>cv P k e i []*P (i+e) (2*o+1)*cv P k (n-e-1) (i+e+1) st):=by
 intro N
 induction N with
 |zero=>intro n i o st h;obtain rfl:n=0:=by lia
        rfl
 |succ N ih=>
  intro n i o st h
  cases n with
  |zero=>rfl
  |succ n=>
   rw[Bz,He,show cv P k 0 i []=1 from rfl];have e0:(1:Int)*P (i+0) (2*o+1)*cv P k (n+1-0-1) (i+0+1) st=P i (2*o+1)*cv P k n (i+1) st:=by rw[Int.one_mul];rfl
   rw[e0,Int.add_comm];congr 1;have L:∀p,cv P k n (i+1) (p::o::st)=sm n (λe=>sm e λa=>(cv P k a (i+1) []*P (i+1+a) (2*p+1))*(cv P k (e-a-1) (i+a+2) []*P (i+e+1) (2*o+1)*cv P k (n-e-1) (i+e+2) st)):=by
    intro p;rw[ih n (i+1) p (o::st) (by lia),<-Iq];refine AQ n λa ha=>?_;rw[ih (n-a-1) (i+1+a+1) o st (by lia),<-BI];refine AQ _ λb hb=>?_;rw[show a+1+b-a-1=b by lia,show i+1+a+1=i+a+2 by lia,show i+a+2+b=i+(a+1+b)+1 by lia,show n-a-1-b-1=n-(a+1+b)-1 by lia,show i+(a+1+b)+1+1=i+(a+1+b)+2 by lia]
   have e1:sm k (λp=>P i (2*p)*cv P k n (i+1) (p::o::st))=sm k (λp=>sm n λe=>P i (2*p)*sm e λa=>(cv P k a (i+1) []*P (i+1+a) (2*p+1))*(cv P k (e-a-1) (i+a+2) []*P (i+e+1) (2*o+1)*cv P k (n-e-1) (i+e+2) st)):=by
    refine AQ k λp _=>?_;rw[L p,<-BI]
   rw[e1,CV];refine AQ n λe he=>?_;rw[Bs,show i+(e+1)=i+e+1 by lia,show n+1-(e+1)-1=n-e-1 by lia,show i+e+1+1=i+e+2 by lia,Int.mul_assoc,<-CU];refine AQ k λp _=>?_;rw[ih e (i+1) p [] (by lia),Int.mul_assoc];congr 1;rw[<-CU];refine AQ e λa ha=>?_;rw[show i+1+a+1=i+a+2 by lia];simp only[Int.mul_assoc,Int.mul_comm,Int.mul_left_comm]
theorem DQ:∀ (n i:Nat) (st:List Nat),(n+st.length)%2=1->cv P k n i st=0
 |0,_,[],h=>by simp at h
 |0,_,_::_,_=>rfl
 |n+1,i,[],h=>by
  rw[Bs];refine sm_zero k λp _=>?_;rw[DQ n (i+1) [p] (by simp at h⊢;lia),Int.mul_zero]
 |n+1,i,o::st,h=>by
  rw[Bz,sm_zero k λp _=>by rw[DQ n (i+1) (p::o::st) (by simp at h⊢;lia),Int.mul_zero],DQ n (i+1) st (by simp at h⊢;lia),Int.mul_zero]
  rfl
def pr(P:Nat->Nat->Int)(k i j:Nat):Int:=sm k λp=>P i (2*p)*P j (2*p+1)
theorem Et(m i:Nat):cv P k (m+1) i []=sm m (λe=>pr P k i (i+1+e)*cv P k e (i+1) []*cv P k (m-e-1) (i+e+2) []):=by
 rw[Bs];have e1:sm k (λp=>P i (2*p)*cv P k m (i+1) [p])=sm k (λp=>sm m λe=>P i (2*p)*P (i+1+e) (2*p+1)*(cv P k e (i+1) []*cv P k (m-e-1) (i+e+2) [])):=by
  refine AQ k λp _=>?_;rw[LX m m (i+1) p [] (Nat.le_refl _),<-BI];refine AQ m λe _=>?_;rw[show i+1+e+1=i+e+2 by lia];simp only[Int.mul_assoc,Int.mul_comm,Int.mul_left_comm]
 rw[e1,CV];refine AQ m λe _=>?_;rw[CU,Int.mul_assoc]
 rfl
theorem UU(m i:Nat):cv P k (m+1) i []=sm ((m+1)/2) (λq=>pr P k i (i+1+2*q)*cv P k (2*q) (i+1) []*cv P k (m-2*q-1) (i+2*q+2) []):=by
 rw[Et,Fg];intro e _ h;rw[DQ e (i+1) [] (by simpa using h),Int.mul_zero,Int.zero_mul]
theorem FZ{c:Int}(hc:0<=c)(h0:∀i b,0<=P i b)(h1:∀i b,P i b<=c):∀ (n i:Nat) (st:List Nat),0<=cv P k n i st/\cv P k n i st<=(((k:Int)+1)*c)^n
 |0,i,[]=>⟨by simp[cv],by simp[cv]⟩
 |0,i,_::_=>⟨by simp[cv],by simp[cv]⟩
 |n+1,i,st=>by
  have ih:=FZ hc h0 h1 n (i+1);have hB:0<=(((k:Int)+1)*c)^n:=Int.le_trans (ih []).1 (ih []).2;have tm:∀b s',0<=P i b*cv P k n (i+1) s'/\P i b*cv P k n (i+1) s'<=c*(((k:Int)+1)*c)^n:=λb s'=>
   ⟨Int.mul_nonneg (h0 i b) (ih s').1,Int.mul_le_mul (h1 i b) (ih s').2 (ih s').1 hc⟩
  have s1:0<=sm k (λp=>P i (2*p)*cv P k n (i+1) (p::st)):=A7 k λp _=>(tm _ _).1;have s2:sm k (λp=>P i (2*p)*cv P k n (i+1) (p::st))<=k*(c*(((k:Int)+1)*c)^n):=by
   rw[<-DE];exact DI k λp _=>(tm _ _).2
  have e:(((k:Int)+1)*c)^(n+1)=k*(c*(((k:Int)+1)*c)^n)+c*(((k:Int)+1)*c)^n:=by
   rw[Int.pow_succ,Int.mul_comm,Int.mul_assoc,Int.add_mul,Int.one_mul]
  have s3:0<=c*(((k:Int)+1)*c)^n:=Int.mul_nonneg hc hB
  cases st with
  |nil=>rw[Bs,e];exact⟨s1,by lia⟩
  |cons o r=>
   have:=tm (2*o+1) r;rw[Bz,e];constructor<;>lia
theorem Hy{P':Nat->Nat->Int}:∀ (n i:Nat) (st:List Nat),(∀j b,i<=j->j<i+n->P j b=P' j b)->cv P k n i st=cv P' k n i st
 |0,_,[],_=>rfl
 |0,_,_::_,_=>rfl
 |n+1,i,st,h=>by
  have ih:=λs'=>Hy (P':=P') n (i+1) s' λj b h1 h2=>h j b (by lia) (by lia);have e:=AQ (f:=λp=>P i (2*p)*cv P k n (i+1) (p::st)) (g:=λp=>P' i (2*p)*cv P' k n (i+1) (p::st)) k λp _=>by rw[ih,h i _ (by lia) (by lia)]
  cases st with
  |nil=>rw[Bs,Bs];exact e
  |cons o r=>rw[Bz,Bz,e,ih,h i _ (by lia) (by lia)]
theorem IM(n:Nat):∀d,(∀e,n<=e->f e=0)->sm (n+d) f=sm n f
 |0,_=>rfl
 |d+1,h=>by rw[show n+(d+1)=(n+d)+1 by lia,sm,IM n d h,h (n+d) (by lia)];lia
theorem Ko{P':Nat->Nat->Int}:∀ (n i:Nat) (st:List Nat),(∀o∈st,o<k)->(∀j b,i<=j->j<i+n->b<2*k->P j b=P' j b)->cv P k n i st=cv P' k n i st
 |0,_,[],_,_=>rfl
 |0,_,_::_,_,_=>rfl
 |n+1,i,st,hst,h=>by
  have ih:=λs' hs'=>Ko (P':=P') n (i+1) s' hs' λj b h1 h2=>h j b (by lia) (by lia);have e:=AQ (f:=λp=>P i (2*p)*cv P k n (i+1) (p::st)) (g:=λp=>P' i (2*p)*cv P' k n (i+1) (p::st)) k λp hp=>by
   rw[ih _ (λo ho=>by rcases List.mem_cons.mp ho with rfl|z;exact hp;exact hst o z),h i _ (by lia) (by lia) (by lia)]
  cases st with
  |nil=>rw[Bs,Bs];exact e
  |cons o r=>
   have ho:=hst o List.mem_cons_self;rw[Bz,Bz,e,ih r (λx hx=>hst x (List.mem_cons_of_mem _ hx)),h i _ (by lia) (by lia) (by lia)]
theorem Hx{P':Nat->Nat->Int}(d:Nat):∀ (n i:Nat) (st:List Nat),(∀j b,i<=j->j<i+n->P' j b=P (j+d) b)->cv P' k n i st=cv P k n (i+d) st
 |0,_,[],_=>rfl
 |0,_,_::_,_=>rfl
 |n+1,i,st,h=>by
  have ih:=λs'=>Hx (P':=P') d n (i+1) s' λj b h1 h2=>h j b (by lia) (by lia);have e:=AQ (f:=λp=>P' i (2*p)*cv P' k n (i+1) (p::st)) (g:=λp=>P (i+d) (2*p)*cv P k n (i+d+1) (p::st)) k λp hp=>by
   rw[ih,h i _ (by lia) (by lia),show i+1+d=i+d+1 by lia]
  cases st with
  |nil=>rw[Bs,Bs];exact e
  |cons o r=>rw[Bz,Bz,e,ih r,h i _ (by lia) (by lia),show i+1+d=i+d+1 by lia]
end BrC
open BrC
namespace BrS
variable{s:Addr}{i v x:Int}{w:List Int}{Q:VK}{E:XK}
abbrev iL(l:List Int):HO:= .lst (l.map V.int)
def Pls(H:Hp)(r:Addr)(ps:List (List Int)):Prop:=∃ad:Nat->Addr,H r=some (.lst ((List.range ps.length).map λi=>V.ref (ad i)))/\∀i,i<ps.length->H (ad i)=some (iL (ps.getD i []))
theorem Pls.same(h:Pls H r ps)(s:Same H H'):Pls H' r ps:=by
 obtain⟨ad,h1,h2⟩:=h;exact⟨ad,s _ _ h1,λi hi=>s _ _ (h2 i hi)⟩
def rwl(n:Nat)(f:Nat->Int):List V:=(List.range (n+1)).map λj=>V.int (f j)
theorem CY(n:Nat)(f:Nat->Int):(rwl n f).length=n+1:=by simp[rwl]
theorem Bx(h:j<=n):(rwl n f)[j]? =some (.int (f j)):=by
 unfold rwl;rw[List.getElem?_map,List.getElem?_range (by lia)];rfl
theorem TQ:(rwl n f).set j (.int v)=rwl n (λx=>if x=j then v else f x):=by
 apply List.ext_getElem?;intro i;unfold rwl;rw[List.getElem?_set,List.getElem?_map,List.getElem?_map]
 by_cases e:j=i
 ·subst e
  by_cases hj:j<n+1
  ·rw[List.getElem?_range hj];simp[hj]
  ·rw[if_pos rfl,if_neg (by simpa using hj)];rw[List.getElem?_eq_none (by simpa using hj)];rfl
 ·rw[if_neg e]
  by_cases hi:i<n+1
  ·rw[List.getElem?_range hi];simp[Ne.symm e]
  ·rw[List.getElem?_eq_none (by simpa using hi)];rfl
theorem HK{g:Nat->Int}(h:∀j,j<=n->f j=g j):rwl n f=rwl n g:=by
 unfold rwl;refine List.map_congr_left λj hj=>?_;rw[h j (by have:=List.mem_range.mp hj;lia)]
structure Tb (H0 H:Hp) (s:Addr) (ad:Nat->Addr) (n:Nat) (T:Nat->Nat->Int):Prop where
 fs:H0 s=none
 fa:∀i,i<=n->H0 (ad i)=none
 ns:∀i,i<=n->ad i≠s
 inj:∀i j,i<=n->j<=n->ad i=ad j->i=j
 top:H s=some (.lst ((List.range (n+1)).map λi=>V.ref (ad i)))
 row:∀i,i<=n->H (ad i)=some (.lst (rwl n (T i)))
 sm:Same H0 H
theorem Tb.same(t:Tb H0 H s ad n T)(h:Same H H'):Tb H0 H' s ad n T:=⟨t.fs,t.fa,t.ns,t.inj,h _ _ t.top,λi hi=>h _ _ (t.row i hi),t.sm.trans h⟩
theorem Tb.congr(t:Tb H0 H s ad n T)(h:∀i j,i<=n->j<=n->T i j=T' i j):Tb H0 H s ad n T':=⟨t.fs,t.fa,t.ns,t.inj,t.top,λi hi=>by rw[t.row i hi,HK λj hj=>h i j hi hj],t.sm⟩
theorem Tb.at(t:Tb H0 H s ad n T){i:Nat}(hi:i<=n):((List.range (n+1)).map λi=>V.ref (ad i))[i]? =some (.ref (ad i)):=by
 rw[List.getElem?_map,List.getElem?_range (by lia)];rfl
theorem Tb.set(t:Tb H0 H s ad n T){i:Nat}(hi:i<=n):Tb H0 (upd H (ad i) (.lst ((rwl n (T i)).set j (.int v)))) s ad n (λa b=>if a=i/\b=j then v else T a b):=by
 refine⟨t.fs,t.fa,t.ns,t.inj,by rw[AE (Ne.symm (t.ns i hi))];exact t.top,λa ha=>?_,λb o z=>?_⟩
 ·by_cases e:a=i
  ·subst e;rw[AJ,TQ];congr 2;refine HK λx _=>?_
   by_cases q:x=j<;>simp[q]
  ·rw[AE (λz=>e (t.inj a i ha hi z)),t.row a ha];congr 2;refine HK λx _=>?_;simp[e]
 ·rw[AE (AT z (t.fa i hi))];exact t.sm b o z
def brs:List Nat:=[40,41,91,93,123,125,60,62]
def plw(w:List Int)(c:Nat):List Int:=if c=63 then w else(brs.take w.length).map λb=>if c=b then 1 else 0
theorem L8(h:w.length<=8):(plw w c).length=w.length:=by
 unfold plw
 split
 ·rfl
 ·rw[List.length_map,List.length_take];exact Nat.min_eq_left h
abbrev PP(ps:List (List Int)):Nat->Nat->Int:=λi b=>(ps.getD i []).getD b 0
abbrev ones(k:Nat):List Int:=List.replicate (2*k) 1
def W4(k:Nat)(a:List Nat):Int:=cv (PP (a.map (plw (ones k)))) k a.length 0 []
def FN(K:W.Frag):Sp:=λvs H Q _=>∃ (a:List Nat) (p:Addr) (w:List Int),vs=[tx a, .ref p]/\a.length<=40/\SqL K H p (w.map V.int)/\w.length<=8/\∀r H',H r=none->Same H H'->Pls H' r (a.map (plw w))->Q (.ref r) H'
theorem Jw(h1:a.length<=40)(h2:SqL K H p (w.map V.int))(h3:w.length<=8)(q:∀r H',H r=none->Same H H'->Pls H' r (a.map (plw w))->Q (.ref r) H'):FN K ([tx a, .ref p]++[]) H Q E:=⟨a,p,w,rfl,h1,h2,h3,q⟩
def EL:Sp:=λvs H Q _=>∃ (k:Int) (a:List Nat),vs=[.int k,tx a]/\1<=k/\k<=4/\a.length<=40/\∀r H',H r=none->Same H H'->Pls H' r (a.map (plw (ones k.toNat)))->Q (.ref r) H'
theorem FI{k:Int}(h1:1<=k)(h2:k<=4)(h3:a.length<=40)(q:∀r H',H r=none->Same H H'->Pls H' r (a.map (plw (ones k.toNat)))->Q (.ref r) H'):EL ([.int k,tx a]++[]) H Q E:=⟨k,a,rfl,h1,h2,h3,q⟩
def top30:Int:=10^31
def Sm(l:List Int):Prop:=∀v∈l,0<=v/\v<=top30
theorem Sm.at{l:List Int}(h:Sm l)(b:Nat):0<=l.getD b 0/\l.getD b 0<=top30:=by
 rw[List.getD_eq_getElem?_getD]
 cases e:l[b]? with
 |none=>exact⟨by simp,by simp[top30]⟩
 |some v=>exact h v (List.mem_of_getElem? e)
def Eh:Sp:=λvs H Q _=>∃ (p q:Addr) (x y:List Int) (k:Nat),vs=[.ref p, .ref q]/\H p=some (iL x)/\H q=some (iL y)/\x.length=2*k/\y.length=2*k/\k<=4/\Sm x/\Sm y/\∀H',Same H H'->Q (.int (sm k λo=>x.getD (2*o) 0*y.getD (2*o+1) 0)) H'
theorem Hm{q:Addr}{x y:List Int}{k:Nat}(h1:H p=some (iL x))(h2:H q=some (iL y))(l1:x.length=2*k)(l2:y.length=2*k)(hk:k<=4)(s1:Sm x)(s2:Sm y)(r:∀H',Same H H'->Q (.int (sm k λo=>x.getD (2*o) 0*y.getD (2*o+1) 0)) H'):Eh ([.ref p, .ref q]++[]) H Q E:=⟨p,q,x,y,k,rfl,h1,h2,l1,l2,hk,s1,s2,r⟩
def FW:Sp:=λvs H Q _=>∃n:Nat,vs=[.int n]/\n<=40/\∀s ad H',Tb H H' s ad n (λ_ _=>0)->Q (.ref s) H'
theorem KG(h1:n<=40)(r:∀s ad H',Tb H H' s ad n (λ_ _=>0)->Q (.ref s) H'):FW ([.int n]++[]) H Q E:=⟨n,rfl,h1,r⟩
def tbl(P:Nat->Nat->Int)(k:Nat)(i j:Nat):Int:=if i<=j then cv P k (j-i) i []else 0
def DH:Sp:=λvs H Q _=>∃ (p:Addr) (ps:List (List Int)) (k:Nat),vs=[.ref p]/\Pls H p ps/\ps.length<=40/\k<=4/\(∀l∈ps,l.length=2*k/\Sm l)/\∀s ad H',Tb H H' s ad ps.length (tbl (PP ps) k)->Q (.ref s) H'
theorem Dd{k:Nat}(h1:Pls H p ps)(h2:ps.length<=40)(h3:k<=4)(h4:∀l∈ps,l.length=2*k/\Sm l)(r:∀s ad H',Tb H H' s ad ps.length (tbl (PP ps) k)->Q (.ref s) H'):DH ([.ref p]++[]) H Q E:=⟨p,ps,k,rfl,h1,h2,h3,h4,r⟩
def CS:Sp:=λvs H Q _=>∃H0 s ad n T,vs=[.ref s]/\Tb H0 H s ad n T/\Q (.int (T 0 n)) H
theorem Cq(h:Tb H0 H s ad n T)(q:Q (.int (T 0 n)) H):CS ([.ref s]++[]) H Q E:=⟨H0,s,ad,n,T,rfl,h,q⟩
def Dr:Sp:=λvs H Q _=>∃ (k:Int) (a:List Nat),vs=[.int k,tx a]/\1<=k/\k<=4/\Ab k a=true/\∀H',Same H H'->Q (.int (W4 k.toNat a)) H'
theorem EW{k:Int}(h1:1<=k)(h2:k<=4)(h3:Ab k a=true)(q:∀H',Same H H'->Q (.int (W4 k.toNat a)) H'):Dr ([.int k,tx a]++[]) H Q E:=⟨k,a,rfl,h1,h2,h3,q⟩
def JQ:Sp:=λvs H Q _=>∃ (k:Int) (a:List Nat),vs=[.int k,tx a]/\1<=k/\k<=4/\Ab k a=true/\∀H',Same H H'->Q (.bl (decide (W4 k.toNat a>0))) H'
theorem UY{k:Int}(h1:1<=k)(h2:k<=4)(h3:Ab k a=true)(q:∀H',Same H H'->Q (.bl (decide (W4 k.toNat a>0))) H'):JQ ([.int k,tx a]++[]) H Q E:=⟨k,a,rfl,h1,h2,h3,q⟩
theorem IU(k:Nat):Sm (ones k):=λv hv=>by
 obtain rfl:=List.eq_of_mem_replicate hv;exact⟨by decide,by decide⟩
theorem Mv(h:Sm w)(c:Nat):Sm (plw w c):=by
 unfold plw
 split
 ·exact h
 ·intro v hv;obtain⟨b,_,rfl⟩:=List.mem_map.mp hv
  split<;>exact⟨by decide,by decide⟩
theorem Ay(h:∀l∈ps,Sm l)(i b:Nat):0<=PP ps i b/\PP ps i b<=top30:=by
 show 0<=(ps.getD i []).getD b 0/\(ps.getD i []).getD b 0<=top30
 cases e:ps[i]? with
 |none=>
  have q:ps.getD i []=[]:=by rw[List.getD_eq_getElem?_getD,e];rfl
  rw[q];exact⟨by simp,by simp[top30]⟩
 |some l=>
  have q:ps.getD i []=l:=by rw[List.getD_eq_getElem?_getD,e];rfl
  rw[q];exact(h l (List.mem_of_getElem? e)).at b
theorem Hl(h0:0<=x)(h:x<=y):∀n:Nat,0<=x^n/\x^n<=y^n
 |0=>by simp
 |n+1=>by
  obtain⟨a,b⟩:=Hl h0 h n;rw[Int.pow_succ,Int.pow_succ];exact⟨Int.mul_nonneg a h0,Int.mul_le_mul b h h0 (Int.le_trans a b)⟩
theorem VI(h1:1<=x)(h:m<=n):x^m<=x^n:=by
 induction n with
 |zero=>obtain rfl:m=0:=by lia
        exact Int.le_refl _
 |succ n ih=>
  by_cases e:m=n+1
  ·subst e;exact Int.le_refl _
  ·have h2:=ih (by lia);have h3:=(Hl (x:=x) (y:=x) (by lia) (Int.le_refl _) n).1;rw[Int.pow_succ];have:=Int.mul_le_mul (Int.le_refl (x^n)) h1 (by decide) h3;lia
def cap:Int:=(5*top30)^40
theorem Dy{k:Nat}(hk:k<=4)(h:∀l∈ps,Sm l)(hn:n<=40)(i:Nat)(st:List Nat):0<=cv (PP ps) k n i st/\cv (PP ps) k n i st<=cap:=by
 obtain⟨a,b⟩:=FZ (P:=PP ps) (k:=k) (c:=top30) (by decide) (λi b=>(Ay h i b).1) (λi b=>(Ay h i b).2) n i st;refine⟨a,Int.le_trans b ?_⟩;have h1:(0:Int)<=((k:Int)+1)*top30:=Int.mul_nonneg (by lia) (by decide);have h2:((k:Int)+1)*top30<=5*top30:=Int.mul_le_mul_of_nonneg_right (by lia) (by decide);refine Int.le_trans (Hl h1 h2 n).2 (VI (by decide) hn)
theorem JC{k:Nat}(hk:k<=4)(h:∀l∈ps,Sm l)(i j:Nat):0<=pr (PP ps) k i j/\pr (PP ps) k i j<=4*(top30*top30):=by
 unfold pr;have tm:∀p,0<=PP ps i (2*p)*PP ps j (2*p+1)/\PP ps i (2*p)*PP ps j (2*p+1)<=top30*top30:=λp=>
  ⟨Int.mul_nonneg (Ay h _ _).1 (Ay h _ _).1,Int.mul_le_mul (Ay h _ _).2 (Ay h _ _).2 (Ay h _ _).1 (by decide)⟩
 refine⟨A7 k λp _=>(tm p).1,Int.le_trans (DI (g:=λ_=>top30*top30) k λp _=>(tm p).2) ?_⟩;rw[DE];exact Int.mul_le_mul_of_nonneg_right (by lia) (by decide)
theorem An{c:Int}(h0:0<=i)(h:i<=c)(hc:c.natAbs<big):i.natAbs<big:=by
 refine Nat.lt_of_le_of_lt ?_ hc;lia
theorem DL:cap.natAbs<big:=by unfold cap big top30;decide +kernel
theorem Sb:(4*(top30*top30)*cap).natAbs<big:=by unfold cap big top30;decide +kernel
theorem DF:top30.natAbs<big:=by unfold big top30;decide +kernel
theorem Dt:(4*(top30*top30)).natAbs<big:=by unfold big top30;decide +kernel
theorem Rk(n:Nat):(List.replicate (n+1) [V.int 0]).flatten=rwl n λ_=>0:=by
 unfold rwl;have:∀m,(List.replicate m [V.int 0]).flatten=(List.range m).map λ_=>V.int 0:=by
  intro m
  induction m with
  |zero=>rfl
  |succ m ih=>rw[List.replicate_succ',List.flatten_append,ih,List.range_succ,List.map_append];rfl
 exact this (n+1)
theorem Fx{xs:List α}{v:α}(h:0<xs.length)(e:xs[xs.length-1]? =some v):atI xs (-1)=some v:=by
 unfold atI ixN;rw[if_neg (by lia),if_pos (by lia)];have:((-1:Int)+xs.length).toNat=xs.length-1:=by lia
 simp only[this,Option.bind];exact e
theorem Hh(m:Nat):(List.replicate (2*m) [V.int 1]).flatten=(ones m).map V.int:=by
 unfold ones;generalize 2*m=j
 induction j with
 |zero=>rfl
 |succ j ih=>rw[List.replicate_succ,List.flatten_cons,ih,List.replicate_succ];rfl
theorem int_at{l:List Int}(h:j<l.length):(l.map V.int)[j]? =some (.int (l.getD j 0)):=by
 rw[List.getElem?_map,List.getD_eq_getElem?_getD,List.getElem?_eq_getElem h];rfl
def part(P:Nat->Nat->Int)(k i q j:Nat):Int:=
 if j<=i then(if j=i then 1 else 0)else if(j-i)%2=1 then 0 else
  sm q λe=>if i+2+2*e<=j then pr P k i (i+1+2*e)*cv P k (2*e) (i+1) []*cv P k (j-(i+2+2*e)) (i+2+2*e) []else 0
section
variable{k i:Nat}
theorem Qk:part P k i 0 j=if j=i then 1 else 0:=by
 unfold part
 by_cases h:j<=i
 ·rw[if_pos h]
 ·rw[if_neg h,if_neg (show¬ (j=i) by lia)]
  split<;>rfl
theorem LK(h:i<j/\(j-i)%2=1):part P k i q j=0:=by
 unfold part;rw[if_neg (by lia),if_pos h.2]
theorem Ql(h:j<i+2+2*q):part P k i (q+1) j=part P k i q j:=by
 unfold part
 by_cases h1:j<=i
 ·rw[if_pos h1,if_pos h1]
 ·rw[if_neg h1,if_neg h1,sm,if_neg (show¬ (i+2+2*q<=j) by lia),Int.add_zero]
theorem Qm{en:Nat}(he:en=i+1+2*q)(h:en+1<=j)(h2:(j-i)%2=0):part P k i q j+pr P k i en*cv P k (2*q) (i+1) []*cv P k (j-(en+1)) (en+1) []=part P k i (q+1) j:=by
 subst he;unfold part;rw[if_neg (by lia),if_neg (by lia),if_neg (by lia),if_neg (by lia),sm,if_pos (show i+2+2*q<=j by lia),show i+1+2*q+1=i+2+2*q by lia]
theorem Rz(hj:j<=n):part P k i ((n-i)/2) j=tbl P k i j:=by
 unfold part tbl
 by_cases h1:j<=i
 ·rw[if_pos h1]
  by_cases h2:j=i
  ·subst h2;rw[if_pos rfl,if_pos (Nat.le_refl _),Nat.sub_self];rfl
  ·rw[if_neg h2,if_neg (by lia)]
 ·rw[if_neg h1,if_pos (show i<=j by lia)]
  by_cases h2:(j-i)%2=1
  ·rw[if_pos h2,DQ _ _ _ (by simpa using h2)]
  ·rw[if_neg h2];obtain⟨m,hm⟩:∃m,j-i=m+1:=⟨j-i-1,by lia⟩;rw[hm,UU];obtain⟨d,hd⟩:∃d,(n-i)/2=(m+1)/2+d:=⟨(n-i)/2-(m+1)/2,by lia⟩;rw[hd,IM _ d λe h3=>by rw[if_neg (by lia)]];refine AQ _ λe h3=>?_;rw[if_pos (by lia),show j-(i+2+2*e)=m-2*e-1 by lia,show i+2+2*e=i+2*e+2 by lia]
end
theorem BN{k:Nat}(hk:k<=4):∀l∈a.map (plw (ones k)),l.length=2*k/\Sm l:=λl hl=>by
 obtain⟨c,_,rfl⟩:=List.mem_map.mp hl;exact⟨by rw[L8 (by rw[List.length_replicate];lia),List.length_replicate],Mv (IU k) c⟩
theorem FQ(ds:List Int):(ds.map V.int).all As=true:=by
 rw[List.all_eq_true];intro v hv;obtain⟨d,_,rfl⟩:=List.mem_map.mp hv
 rfl
theorem SU(ds:List Int):eqVs (ds.map V.int) []=decide (ds=[]):=by
 cases ds with
 |nil=>rfl
 |cons d r=>rw[decide_eq_false (by simp)];rfl
theorem at4(x y z u:α)(h0:0<=i)(h1:i<4):∃v,atI [x,y,z,u] i=some v/\(v=x\/v=y\/v=z\/v=u):=by
 have:i=0\/i=1\/i=2\/i=3:=by lia
 rcases this with rfl|rfl|rfl|rfl
 ·exact⟨x,rfl, .inl rfl⟩
 ·exact⟨y,rfl, .inr (.inl rfl)⟩
 ·exact⟨z,rfl, .inr (.inr (.inl rfl))⟩
 ·exact⟨u,rfl, .inr (.inr (.inr rfl))⟩
def pw(k c b:Nat):Int:=(plw (ones k) c).getD b 0
variable{k:Nat}
theorem LB(f:Nat->Int):∀k,sm (2*k) f=sm k λp=>f (2*p)+f (2*p+1)
 |0=>rfl
 |k+1=>by rw[show 2*(k+1)=2*k+1+1 by lia,sm,sm,LB f k,sm];lia
end BrS
open BrS
namespace L2
variable{a:Addr}{kvs:List (Key×V)}{vs:List (Key×Value)}{xs:List (List Key×Addr×Value)}{o:Option V}{P:Program}{Q:Unit->Shared->Prop}{v y:V}{σ:W2}
section
variable[DecidableEq κ]
def Bu(kvs:List (κ×V))(k:κ):Option V:=(kvs.find? λkv=>decide (kv.1=k)).map (·.2)
def putK(kvs:List (κ×V))(k:κ)(v:V):List (κ×V):=
 if(kvs.any λkv=>decide (kv.1=k))=true then kvs.map (λkv=>if kv.1=k then(kv.1,v)else kv)else kvs++[(k,v)]
theorem HV{p:κ×V}{r:List (κ×V)}{k:κ}(e:p.1=k):Bu (p::r) k=some p.2:=by simp[Bu,List.find?_cons,e]
theorem HW{p:κ×V}{r:List (κ×V)}{k:κ}(e:¬p.1=k):Bu (p::r) k=Bu r k:=by simp[Bu,List.find?_cons,e]
theorem HX(k:κ):∀kvs:List (κ×V),(kvs.any λkv=>decide (kv.1=k))=(Bu kvs k).isSome
 |[]=>rfl
 |p::r=>by
  rw[List.any_cons]
  by_cases e:p.1=k
  ·simp only[HV e,decide_eq_true e,Bool.true_or,Option.isSome_some]
  ·rw[HW e,decide_eq_false e,Bool.false_or];exact HX k r
theorem Gq(kvs:List (κ×V))(k:κ)(v:V):(putK kvs k v).length<=kvs.length+1:=by
 unfold putK
 split
 ·rw[List.length_map];lia
 ·rw[List.length_append,List.length_cons,List.length_nil];lia
theorem LG{kvs:List (κ×V)}{k:κ}(v:V)(h:Bu kvs k=none):putK kvs k v=kvs++[(k,v)]:=by
 unfold putK;rw[HX,h];exact if_neg (by decide)
theorem RelO.isSome_eq{u:Option Value}(r:RelO o u):o.isSome=u.isSome:=by
 cases o with
 |none=>cases u with
  |none=>rfl
  |some _=>exact(show False from r).elim
 |some _=>cases u with
  |none=>exact(show False from r).elim
  |some _=>rfl
theorem KV.val{kvs:List (κ×V)}{vs:List (κ×Value)}(r:KV kvs vs)(k:κ):RelO (Bu kvs k) (valueAt vs k):=by
 unfold KV at r
 induction r with
 |nil=>exact True.intro
 | @cons p q ps qs h t ih=>
   obtain⟨h1,h2⟩:=h
   by_cases e:p.1=k
   ·have e':q.1=k:=h1.symm.trans e;have b:valueAt (q::qs) k=some q.2:=by simp[valueAt,List.find?_cons,e']
    rw[HV e,b];exact h2
   ·have e':¬q.1=k:=λz=>e (h1.trans z);have b:valueAt (q::qs) k=valueAt qs k:=by simp[valueAt,List.find?_cons,e']
    rw[HW e,b];exact ih
theorem KV.any{kvs:List (κ×V)}{vs:List (κ×Value)}(r:KV kvs vs)(k:κ):(kvs.any λkv=>decide (kv.1=k))=vs.any λkv=>decide (kv.1=k):=by
 unfold KV at r
 induction r with
 |nil=>rfl
 |cons h t ih=>rw[List.any_cons,List.any_cons,ih,h.1]
theorem KV.repl{kvs:List (κ×V)}{vs:List (κ×Value)}(r:KV kvs vs)(k:κ){u:Value}(ry:RelV y u):
 KV (kvs.map λkv=>if kv.1=k then(kv.1,y)else kv) (vs.map λkv=>if kv.1=k then(kv.1,u)else kv):=by
 unfold KV at r⊢
 induction r with
 |nil=>exact .nil
 | @cons p q ps qs h t ih=>
   rw[List.map_cons,List.map_cons];refine .cons ?_ ih;obtain⟨h1,h2⟩:=h
   by_cases e:p.1=k
   ·rw[if_pos e,if_pos (h1.symm.trans e)];exact⟨h1,ry⟩
   ·rw[if_neg e,if_neg (λz=>e (h1.trans z))];exact⟨h1,h2⟩
theorem KV.put{kvs:List (κ×V)}{vs:List (κ×Value)}(r:KV kvs vs)(k:κ){u:Value}(ry:RelV y u):KV (putK kvs k y) (stored vs k u):=by
 unfold putK stored;rw[r.any k]
 by_cases e:(vs.any λkv=>decide (kv.1=k))=true
 ·rw[if_pos e,if_pos e];exact r.repl k ry
 ·rw[if_neg e,if_neg e];exact Paired.snoc r ⟨rfl,ry⟩
theorem KV.length{kvs:List (κ×V)}{vs:List (κ×Value)}(r:KV kvs vs):kvs.length=vs.length:=Paired.length r
end
theorem JZ{k:Key}{u:Value}(r:RelV (kV k) u):(A5 P w).is k u=true:=by
 cases k with
 |inl i=>obtain⟨t,e⟩:=(show∃t,u=Value.int i t from r);subst e;exact Pn P w i t
 |inr x=>obtain⟨t,e⟩:=(show∃t,u=Value.str x t from r);subst e;exact Pm P w x t
theorem Ki:∀ {ks:List Key} {us:List Value},Vals (ks.map kV) us->ItemsAre (A5 P w) ks us
 |[],_,r=>by rw[List.map_nil]at r;cases r;exact .nil
 |k::ks,_,r=>by
  rw[List.map_cons]at r
  cases r with
  |cons h t=>exact .cons (JZ h) (Ki t)
abbrev KT(H:Hp):List (List Key×V)->List (List Key×Addr×Value)->Prop:=Paired λp q=>p.1=q.1/\H q.2.1=some (.tup (p.1.map kV))/\RelV p.2 q.2.2
theorem KT.val{kvs:List (List Key×V)}(r:KT H kvs xs)(k:List Key):RelO (Bu kvs k) ((atKey xs k).map (·.2)):=by
 induction r with
 |nil=>exact True.intro
 | @cons p q ps qs h t ih=>
   obtain⟨h1,_,h2⟩:=h
   by_cases e:p.1=k
   ·have e':q.1=k:=h1.symm.trans e;have b:atKey (q::qs) k=some q.2:=by simp[atKey,List.find?_cons,e']
    rw[HV e,b];exact h2
   ·have e':¬q.1=k:=λz=>e (h1.trans z);have b:atKey (q::qs) k=atKey qs k:=by simp[atKey,List.find?_cons,e']
    rw[HW e,b];exact ih
theorem KT.repl{kvs:List (List Key×V)}(r:KT H kvs xs)(k:List Key){u:Value}(ry:RelV y u):
 KT H (kvs.map λkv=>if kv.1=k then(kv.1,y)else kv) (xs.map (putAt k u)):=by
 induction r with
 |nil=>exact .nil
 | @cons p q ps qs h t ih=>
   rw[List.map_cons,List.map_cons];refine .cons ?_ ih;obtain⟨h1,h2,h3⟩:=h;unfold putAt
   by_cases e:p.1=k
   ·rw[if_pos e,if_pos (h1.symm.trans e)];exact⟨h1,h2,ry⟩
   ·rw[if_neg e,if_neg (λz=>e (h1.trans z))];exact⟨h1,h2,h3⟩
theorem KT.put{kvs:List (List Key×V)}(r:KT H kvs xs)(k:List Key){b:Addr}{u:Value}(hb:H b=some (.tup (k.map kV)))(ry:RelV y u):
 KT H (putK kvs k y) (storedH xs k b u):=by
 have e:(kvs.any λkv=>decide (kv.1=k))=(atKey xs k).isSome:=by
  rw[HX,(r.val k).isSome_eq,Option.isSome_map]
 unfold putK storedH;rw[e]
 by_cases q:(atKey xs k).isSome=true
 ·rw[if_pos q,if_pos q];exact r.repl k ry
 ·rw[if_neg q,if_neg q];exact Paired.snoc r ⟨rfl,hb,ry⟩
theorem KT.keeps{kvs:List (List Key×V)}(r:KT H kvs xs)(ht:∀b ys,H b=some (.tup ys)->H' b=some (.tup ys)):KT H' kvs xs:=
 Paired.mapP r λ_ _ z=>⟨z.1,ht _ _ z.2.1,z.2.2⟩
theorem NT{u:HO}(ok:HOk P w H h)(e:Rd H a u):ObjOk P w H h a u:=e.ok ok
theorem D7(ok:HOk P w H h)(e:Rd H a (.dK kvs)):kvs.length<=sizeLine/\(a==sysModules)=false/\∃vs,KV kvs vs/\h.DictOf (A5 P w) a vs:=
 show ObjOk P w H h a (.dK kvs)from NT ok e
theorem Nc(ok:HOk P w H h)(e:H a=some (.dK kvs)):kvs.length<=sizeLine/\(a==sysModules)=false/\∃vs,KV kvs vs/\h.DictOf (A5 P w) a vs:=D7 ok (.inl e)
theorem key_of(ok:HOk P w H h)(e:H a=some (.tup (ks.map kV))):(tupleKind (A5 P w)).is h ks a:=by
 obtain⟨_,its,r,o,h1,h2,n,h3⟩:=(show ObjOk P w H h a (.tup (ks.map kV))from ok a _ e);exact⟨o,its.toArray,n,h1,h2,h3,by simpa using Ki r⟩
theorem Nb{kvs:List (List Key×V)}(ok:HOk P w H h)(e:Rd H a (.dT kvs)):kvs.length<=sizeLine/\(a==sysModules)=false/\
 ∃xs,KT H kvs xs/\h.DictOfH (tupleKind (A5 P w)) a xs:=by
 obtain⟨z,y,xs,r,o,es,ep,h1,h2,h3,h4,h5⟩:=(show ObjOk P w H h a (.dT kvs)from NT ok e);refine⟨z,y,xs,r,o,es,ep,h1,h2,h3,h4,λx hx=>?_,h5⟩;have all:∀ {l:List (List Key×V)} {m:List (List Key×Addr×Value)},KT H l m->∀x∈m,(tupleKind (A5 P w)).is h x.1 x.2.1:=by
  intro l m q
  induction q with
  |nil=>intro x hx;exact nomatch hx
  | @cons p q ps qs hq t ih=>
    intro x hx;rcases List.mem_cons.mp hx with e|hx
    ·subst e;exact key_of ok (by rw[<-hq.1];exact hq.2.1)
    ·exact ih x hx
 exact all r x hx
theorem Wa{kvs:List (List Key×V)}(ok:HOk P w H h)(e:H a=some (.dT kvs)):kvs.length<=sizeLine/\(a==sysModules)=false/\
 ∃xs,KT H kvs xs/\h.DictOfH (tupleKind (A5 P w)) a xs:=Nb ok (.inl e)
def DPut(H:Hp)(a:Addr)(y v:V)(H':Hp):Prop:=
 (∃kvs k,H a=some (.dK kvs)/\y=kV k/\kvs.length<sizeLine/\H'=upd H a (.dK (putK kvs k v)))\/
 ∃kvs k b,H a=some (.dT kvs)/\y= .ref b/\H b=some (.tup (k.map kV))/\kvs.length<sizeLine/\H'=upd H a (.dT (putK kvs k v))
theorem DPut.k{k:Key}(e:H a=some (.dK kvs))(hl:kvs.length<sizeLine):DPut H a (kV k) v (upd H a (.dK (putK kvs k v))):= .inl ⟨kvs,k,e,rfl,hl,rfl⟩
section
variable{u r:Value}
theorem Inv.big(I:Inv X pins σ H s):sysModules<s.heap.objs.size:=by
 have h:mainGlobals<s.heap.objs.size:=(I.mod.glob.keeps I.bk).lt;exact Nat.lt_trans (by decide) h
theorem IY{ob:HO}(I:Inv X pins σ H s)(mu:Mut (H a))(hs:Heap.SameBut a s.heap h')(he:∃q,h'.get? a=some q)(new:ObjOk X.prog X.w (upd H a ob) h' a ob):
 Inv X pins σ (upd H a ob) {s with heap:=h',toks:=t'}:=
 I.write (x:=a) (e:=a) mu (.inl rfl) (λb q hb z=>(hs.2 b hb).trans z) he new
theorem M9(z:kvs.length<=sizeLine)(hd:(a==sysModules)=false)(rel:KV kvs vs)(dd:h'.DictOf (A5 P w) a vs):
 ObjOk P w H' h' a (.dK kvs):=⟨z,hd,vs,rel,dd⟩
theorem RF(hu:A.units+1<cLine)(I:Inv X pins σ H s)(g:DPut H a y v H')(ry:RelV y u)(rv:RelV v r)(h:∀s',Inv X pins σ H' s'->Q () s'):
 wpAny (model X.prog X.w) A (setItem (.ref a) u r) Q E s:=by
 rcases g with⟨kvs,k,e,ey,l,eH⟩|⟨kvs,k,b,e,ey,eb,l,eH⟩
 ·subst ey eH;obtain⟨z,hd,vs,rel,dd⟩:=Nc I.hok e;have hz:vs.length<=sizeLine:=by rw[<-rel.length];exact z
  have hl:(putK kvs k v).length<=sizeLine:=by have:=Gq kvs k v;lia
  refine wpAny_setItem_pairs (hsz:=hz) (JZ ry) dd λh' dd' hs=>h _ ?_;have he:∃q,h'.get? a=some q:=let⟨q,_,_,hq,_⟩:=dd';⟨q,hq⟩;exact IY I (by rw[e];exact True.intro) hs he (M9 hl hd (rel.put k rv) dd')
 ·subst ey eH
  cases(show u=Value.ref b from ry)
  obtain⟨z,hd,xs,rel,dd⟩:=Wa I.hok e;have hz:xs.length<=sizeLine:=by rw[<-Paired.length rel];exact z
  have hl:(putK kvs k v).length<=sizeLine:=by have:=Gq kvs k v;lia
  refine wpAny_setItem_heap (hsz:=hz) (tupleKind_room_in1 hu) (key_of I.hok eb) dd λh' dd' hs=>h _ ?_;obtain⟨q,es,ep,hq,h2,h3,h4,_,h5⟩:=dd';refine IY I (by rw[e];exact True.intro) hs ⟨q,hq⟩ ⟨hl,hd,_,(rel.put k eb rv).keeps λc ys ec=>?_,q,es,ep,hq,h2,h3,h4,h5⟩;rw[AE (CF ec e (λz=>nomatch z))];exact ec
end
def JV(td ty tv:TE):TS:=λD σ H=>tv σ H λv H1=>td σ H1 λx H2=>ty σ H2 λy H3=>∃a H4,x= .ref a/\DPut H3 a y v H4/\D.nx σ H4
section
variable{o i:Expr}{pos:Pos}{ty:TE}
theorem TX(hu:X.A.units+1<cLine)(ho:PE X o td)(hi:PE X i ty)(hv:PE X value tv)(hs:swapsWith value (some (.Subscript o i pos')) pos.line X.env=pure false):
 PS X (.Assign [.Subscript o i pos'] value pos) (JV td ty tv):=by
 intro pins s σ H D I h;refine wpAny_Assign_Subscript (thn (hv pins s σ H _ I h) λr s1 ⟨v,H1,I1,rv,q1⟩=>thn (ho pins s1 σ H1 _ I1 q1) λu s2 ⟨x,H2,I2,rx,q2⟩=>thn (hi pins s2 σ H2 _ I2 q2) λiv s3 ⟨y,H3,I3,ry,a,H4,ex,g,q3⟩=>?_) hs;subst ex;obtain rfl:u=Value.ref a:=rx;exact RF hu I3 g ry rv λs4 I4=>⟨σ,H4,I4,q3⟩
end
theorem SV(h:Heap)(hb:sysModules<h.objs.size):ObjOk P w H (h.push {cls:= .type "dict",data:= .dict #[]}) h.objs.size (.dK []):=
 ⟨Nat.zero_le _,beq_eq_false_iff_ne.mpr (Ne.symm (Nat.ne_of_lt hb)),[], .nil,Heap.DictOf.new h⟩
def tDNewK:TE:=λ_ H Q=>∀p,H p=none->Q (.ref p) (upd H p (.dK []))
section
variable{pos:Pos}
theorem Rw:PE X (.Dict [] [] pos) tDNewK:=λpins s σ H Q I h=>
 wpAny_Dict_empty ⟨.ref s.heap.objs.size,_,I.laid (a:=s.heap.objs.size) (o:= .dK []) (t':=s.toks) (λ_ _ q=>Heap.get?_push_of_some _ q) (Nat.le_refl _) (SV s.heap I.big),rfl,h _ (I.hok.fresh (Nat.le_refl _))⟩
end
def IsD(H:Hp)(a:Addr):Prop:=(∃kvs,Rd H a (.dK kvs))\/∃kvs,Rd H a (.dT kvs)
theorem Vh(I:Inv X pins σ H s)(d:IsD H a):
 s.TypeIs (.ref a) "dict"/\(∀b,Value.ref a= .ref b->∃ob,s.heap.get? b=some ob/\ob.dict=none)/\(a==sysModules)=false:=by
 rcases d with⟨kvs,e⟩|⟨kvs,e⟩
 ·obtain⟨_,hd,vs,_,dd⟩:=D7 I.hok e;refine⟨dd.typeIs,λb q=>?_,hd⟩
  cases q
  obtain⟨ob,_,_,h1,h2,_⟩:=dd;exact⟨ob,h1,h2.2.1⟩
 ·obtain⟨_,hd,xs,_,dd⟩:=Nb I.hok e;refine⟨dd.typeIs,λb q=>?_,hd⟩
  cases q
  obtain⟨ob,_,_,h1,h2,_⟩:=dd;exact⟨ob,h1,h2.2.1⟩
inductive Sc:V->PyData->Prop
 |non:Sc .non .none
 |bl (b:Bool):Sc (.bl b) (.bool b)
 |int (i:Int):Sc (.int i) (.int i)
 |str (x:Str):Sc (.str x) (.str x)
def Sck(p:Key×V)(q:PyData×PyData):Prop:=Sc (kV p.1) q.1/\Sc p.2 q.2
theorem Sc.reads{x:V}{d:PyData}{u:Value}(c:Sc x d)(r:RelV x u):Reads h u d []:=by
 cases c with
 |non=>obtain rfl:u=Value.none:=r;exact .none
 |bl b=>obtain rfl:u=Value.bool b:=r;exact .bool b
 |int i=>obtain⟨t,rfl⟩:=r;exact .int i t
 |str x=>obtain⟨t,rfl⟩:=r;exact .str x t
theorem UK{k:Key}{u:Value}(h:(A5 P w).is k u=true):RelV (kV k) u:=by
 rcases CG h with⟨i,t,rfl,rfl⟩|⟨x,t,rfl,rfl⟩<;>exact⟨t,rfl⟩
theorem J0{P:Program}{w:World}{h:Heap}:∀ {es:List DictEntry} {vs:List (Key×Value)} {kvs:List (Key×V)} {ds:List (PyData×PyData)},Pairs (A5 P w) es vs->KV kvs vs->Paired Sck kvs ds->
 ReadsAll h (es.map (·.key)) (ds.map (·.1)) []/\ReadsAll h (es.map (·.val)) (ds.map (·.2)) []
 |[],_,_,_, .nil, .nil, .nil=>⟨.nil, .nil⟩
 |_::_,_::_,_::_,_::_, .cons hk hv pr, .cons r rr, .cons c cr=>by
  obtain⟨i1,i2⟩:=J0 (h:=h) pr rr cr;obtain⟨rk,rv⟩:=r;rw[<-rk]at hk
  constructor
  ·have:=ReadsAll.cons (c.1.reads (h:=h) (UK hk)) i1;simpa using this
  ·have:=ReadsAll.cons (c.2.reads (h:=h) (hv▸rv)) i2;simpa using this
def Low(a:List Nat):Prop:=∀c∈a,c<16^8
theorem KY{F:α->β->Prop}:∀ {l:List α} {m:List β},l.length=m.length->(∀ (i:Nat) x u,l[i]? =some x->m[i]? =some u->F x u)->Paired F l m
 |[],[],_,_=> .nil
 |[],_::_,h,_=>by simp at h
 |_::_,[],h,_=>by simp at h
 |a::l,b::m,h,hf=> .cons (hf 0 a b rfl rfl) (KY (by simpa using h) λi x u h1 h2=>hf (i+1) x u (by simpa using h1) (by simpa using h2))
def rListS:List V->Hp->VK->Prop:=λxs H Q=>∃a,xs=[tx a]/\a.length<=1000/\∀l,H l=none->Q (.ref l) (upd H l (.lst ((a.map λc=>[c]).map tx)))
theorem QT(K:W.Frag)(hc:X.calm=true):CallR X (.type "list") rListS:=by
 intro pins s σ H xs us Q I r h;obtain⟨a,rfl,ha,q⟩:=h;obtain⟨u,rfl,rx⟩:=vals1 r;obtain⟨t,rfl⟩:=rx;refine PySem.call_list_str (I.ok.hd hc) _ t (λh' tk acc' c' hk e it=>?_) (by rw[sizeLine_eq];show a.toArray.size<=_;rw[List.size_toArray];lia);obtain⟨hsz,hit⟩:=it;have hsz':acc'.size=a.length:=by rw[hsz];simp
 have hv:Vals ((a.map λc=>[c]).map tx) acc'.toList:=by
  refine KY ?_ λi x u hx hu=>?_
  ·simp[hsz']
  ·have hu':acc'[i]? =some u:=by simpa using hu
   obtain⟨c,t',e1,rfl⟩:=hit i u hu';have e2:a[i]? =some c:=by simpa using e1
   rw[List.map_map,List.getElem?_map,e2]at hx
   cases hx
   exact⟨t',rfl⟩
 refine⟨.ref s.heap.objs.size,_,I.laid (t':=tk) (o:= .lst ((a.map λc=>[c]).map tx)) hk (Nat.le_refl _) ⟨?_,acc'.toList,c',hv,by simpa using e⟩,rfl,q _ (I.hok.fresh (Nat.le_refl _))⟩;rw[List.length_map,List.length_map,sizeLine_eq];lia
end L2
namespace BrM
theorem S4{Q:VK}(ha:a.length<=1000)(q:∀l,H l=none->Q (.ref l) (upd H l (.lst ((a.map λc=>[c]).map tx)))):rListS [tx a] H Q:=⟨a,rfl,ha,q⟩
def GU(a:List Nat):Prop:=Low a/\a.length<=1000
inductive Th (p:Addr) (H:Hp):V->Prop
 |txt (a:List Nat) (h:GU a):Th p H (tx a)
 |non:Th p H .non
 |int (i:Int) (h:i=0\/i=7):Th p H (.int i)
 |bl (b:Bool):Th p H (.bl b)
 |lst {q:Addr} {l:List (List Nat)} (h:H q=some (.lst (l.map tx))) (n:q≠p) (f:∀a∈l,GU a) (z:l.length<=1100):Th p H (.ref q)
 |tup {q:Addr} {l:List (List Nat)} (h:H q=some (.tup (l.map tx))) (n:q≠p) (f:∀a∈l,GU a) (z:l.length<=1):Th p H (.ref q)
 |dc0 {q:Addr} (h:H q=some (.dK [])) (n:q≠p):Th p H (.ref q)
 |dc1 {q:Addr} {a:List Nat} (h:H q=some (.dK [(.inr ⟨a.toArray⟩, .int 1)])) (n:q≠p) (f:GU a):Th p H (.ref q)
theorem Sw{k:Int}(h1:1<=k)(h4:k<=4):c∈sgs k↔c∈sgn k:=by
 refine⟨Sv h1 h4,λh=>?_⟩;have hk:k=1\/k=2\/k=3\/k=4:=by lia
 rcases hk with rfl|rfl|rfl|rfl
 ·exact(show∀c∈sgn 1,c∈sgs 1 by decide) c h
 ·exact(show∀c∈sgn 2,c∈sgs 2 by decide) c h
 ·exact(show∀c∈sgn 3,c∈sgs 3 by decide) c h
 ·exact(show∀c∈sgn 4,c∈sgs 4 by decide) c h
theorem all_cons{x:V}{l:List V}(h1:Th p H x)(h2:∀v∈l,Th p H v):∀v∈x::l,Th p H v:=λv hv=>(List.mem_cons.mp hv).elim (λe=>e▸h1) (h2 v)
end BrM
namespace L2
variable{a b f x:Addr}{Q:Bool->Shared->Prop}{D:Ends}{o:HO}{es:List Expr}{ps:List Str}{P:Program}{sp:Sp}{st:Stmt}{m:Str->Option Value}{R:TS->Prop}{v:V}{e t:Value}{σ:W2}{E:XK}
abbrev F1:List Value:=[.type "ValueError", .type "Exception", .type "BaseException", .type "object"]
structure ECls (K:W.Frag) (C:Addr):Prop where
 ex:W.excIn K C F1 "ValueError.__new__"=true
 ty:W.typeIn K (.ref C)=some (.type "type")
 cs:∃cd,W.clsIn K C=some cd
 bs:W.mroIn K C (.type "BaseException")=some true
 ob:W.mroIn K C (.type "object")=some true
 ga:W.findIn K (.ref C) "__getattribute__"=some (some (.builtin "BaseException.__getattribute__"))
 gk:W.findIn K (.ref C) "__getattr__"=some none
 ca:W.findIn K (.ref C) "__class__"=some (some (.builtin "object.__class__"))
 cn:W.specialIn K (.builtin "object.__class__") "__get__"=some (some (.builtin "getset_descriptor.__get__"))
 ct:W.takesIn K (.builtin "object.__class__")=some true
def ExcAt(x C:Addr)(h:Heap):Prop:=∃o vs,h.get? x=some o/\o.cls= .ref C/\o.data= .fields vs
theorem ExcAt.type(e:ExcAt x C h):W.Looks M h (typeOf (.ref x)) (.ref C):=by
 obtain⟨o,vs,h1,h2,_⟩:=e;exact h2▸(W.Looks.ld h1).andThen .now
def C7(ob:Obj)(x C:Addr):HO:= .frz ob (.ext (ExcAt x C))
theorem ObjOk.here(x:ObjOk P w H h a o):∃ob,h.get? a=some ob:=by
 cases o with
 |lst xs=>obtain⟨_,_,_,_,e⟩:=x;exact⟨_,e⟩
 |tup xs=>obtain⟨_,_,_,_,e,_⟩:=x;exact⟨_,e⟩
 |dK kvs=>obtain⟨_,_,_,_,_,_,_,e,_⟩:=x;exact⟨_,e⟩
 |dT kvs=>obtain⟨_,_,_,_,_,_,_,e,_⟩:=x;exact⟨_,e⟩
 |set S n=>obtain⟨_,_,_,_,e,_⟩:=x;exact⟨_,e⟩
 |ins C dx fs=>obtain⟨_,_,_,e,_⟩:=x;exact⟨_,e⟩
 |own y=>exact x
 |xd fs=>obtain⟨_,⟨_,_,_,e,_⟩,_⟩:=x;exact⟨_,e⟩
 |rng lo hi=>obtain⟨_,_,_,e⟩:=x;exact⟨_,e⟩
 |frz ob u=>obtain⟨e,_⟩:=x;exact⟨_,e⟩
 |tbl ps=>exact⟨_,(show h.get? a=some _ from x)⟩
 |met f y=>exact⟨_,(show h.get? a=some _ from x)⟩
 |ext φ=>obtain⟨_,e,_⟩:=x;exact e
theorem Vq(g:h.get? x=some ob)(e:ExcAt x C h):ObjOk P w H h x (C7 ob x C):=by
 refine⟨g,e,?_,λh1 h2 p k=>?_⟩
 ·obtain⟨o,_,q,_⟩:=e;exact⟨o,q⟩
 ·obtain⟨o,vs,q1,q2⟩:=p;exact⟨o,vs,k _ q1,q2⟩
structure Aloft (P:Program) (w:World) (l:List Env) (H:Hp) (h:Heap) (x C:Addr) (a0:Value) (H':Hp) (B h':Heap):Prop where
 un:Un (frs l) [] H H' h h'
 ok:HOk P w H' B
 stay:∀b o,h.get? b=some o->H b=none->b∉frs l->B.get? b=some o
 here:∀b o,h.get? b=some o->b∉frs l->∃o',B.get? b=some o'
 fl:Heap.FlyingW B l x (.ref C) a0 h'
def CXE(P:Program)(w:World):CXT:=λouter H s E e s'=>∃ (x C:Addr) (a0:Value) (H':Hp) (B:Heap),e= .ref x/\s'.os=s.os/\AllBare s'.gens/\Aloft P w outer H s.heap x C a0 H' B s'.heap/\E (.ref C) (some x) H'
abbrev XR:=Addr->Addr->W2->Hp->Prop
def xk(R:XR)(σ:W2):XK:=λc xo H'=>∃C x,c= .ref C/\xo=some x/\R C x σ H'
def XF(X:Cx)(R:XR)(e:Value)(s':Shared):Prop:=∃ (pins:List (Addr×Obj)) (σ:W2) (H:Hp) (s:Shared),Inv X pins σ H s/\CXE X.prog X.w X.stack H s (xk R σ) e s'
def XM(X:Cx)(R:XR)(e:Value)(s':Shared):Prop:=∃ (pins:List (Addr×Obj)) (σ:W2) (H:Hp) (s:Shared) (x C:Addr) (args:List Value),e= .ref x/\Inv X pins σ H s/\Heap.MadeExcOf s.heap s'.heap x (.ref C) args/\
 s'.os=s.os/\AllBare s'.gens/\R C x σ H
section
variable{l:List Env}{B:Heap}
theorem Aloft.newx(q:Aloft P w l H h x C a0 H' B h'):h.get? x=none:=by
 cases e:h.get? x with
 |none=>rfl
 |some o=>
  by_cases hm:x∈frs l
  ·obtain⟨_,o',h1,h2⟩:=q.fl.2.2.1.mem hm;obtain⟨oe,vs,h3,_,h4,_⟩:=q.fl.first;rw[h1]at h3;cases h3;exact absurd h4 (h2 vs)
  ·obtain⟨o',h1⟩:=q.here x o e hm;rw[q.fl.2.1]at h1;cases h1
theorem Aloft.nox(q:Aloft P w l H h x C a0 H' B h'):H' x=none:=by
 cases e:H' x with
 |none=>rfl
 |some o=>
  obtain⟨ob,h1⟩:=(q.ok x o e).here;rw[q.fl.2.1]at h1;cases h1
theorem Aloft.on(q:Aloft P w l H h x C a0 H' B h')(up:h'.UpToSlots h2)(fl:Heap.FlyingW B l x (.ref C) a0 h2)(fr:∀b∈frs l,H b=none):Aloft P w l H h x C a0 H' B h2 where
 ok:=q.ok
 stay:=q.stay
 here:=q.here
 fl:=fl
 un:={
  keep:=λb o e n hb _=>fl.1 b o (q.stay b o e n hb)
  slot:=λb o e n hb hx=>by
   obtain⟨sl,e1⟩:=q.un.slot b o e n hb hx;obtain⟨_,o1,e2,nf⟩:=q.fl.2.2.1.mem hb;rw[e1]at e2;cases e2;obtain⟨sl2,e3⟩:=up b _ e1 nf;exact⟨sl2,e3⟩
  free:=q.un.free
  there:=λb o e hx=>by
   by_cases hb:b∈frs l
   ·obtain⟨sl,e1⟩:=q.un.slot b o e (fr b hb) hb hx;obtain⟨_,o1,e2,nf⟩:=q.fl.2.2.1.mem hb;rw[e1]at e2;cases e2;obtain⟨sl2,e3⟩:=up b _ e1 nf;exact⟨_,e3⟩
   ·obtain⟨o',e1⟩:=q.here b o e hb;exact⟨o',fl.1 b o' e1⟩
  tups:=q.un.tups
  frzs:=q.un.frzs
  tbls:=q.un.tbls}
theorem Aloft.caught(q:Aloft P w l H h x C a0 H' B h'):∃ob,Un (frs l) [] H (upd H' x (C7 ob x C)) h h'/\HOk P w (upd H' x (C7 ob x C)) h':=by
 have nx:=q.newx;have n':=q.nox;have bgB:∃b o,1<b/\h'.get? b=some o:=by
  obtain⟨b,o,l,e⟩:=q.ok.bg;exact⟨b,o,l,q.fl.1 _ _ e⟩
 obtain⟨oe,vs,g1,g2,g3,_⟩:=q.fl.first;refine⟨oe,⟨q.un.keep,q.un.slot,λb o e n hx=>?_,q.un.there,λb xs e=>?_,λb o u e=>?_,λb ps e=>?_⟩,⟨λb u e=>?_,λu e=>?_,bgB⟩⟩
 ·rw[AE (λz=>by rw[z,nx]at e;cases e)];exact q.un.free b o e n hx
 ·have e':=q.un.tups b xs e;rw[AE (AT e' n')];exact e'
 ·have e':=q.un.frzs b o u e;rw[AE (AT e' n')];exact e'
 ·obtain⟨more,e'⟩:=q.un.tbls b ps e;exact⟨more,by rw[AE (AT e' n')];exact e'⟩
 ·by_cases hb:b=x
  ·subst hb;rw[AJ]at e;cases e;exact Vq g1 ⟨oe,vs,g1,g2,g3⟩
  ·rw[AE hb]at e;exact(q.ok b u e).stay (λc v _ r=>q.fl.1 c v r) (λc r=>by rw[AE (AT r n')];exact r) λc xs r=>by rw[AE (AT r n')];exact r
 ·by_cases hb:sysModules=x
  ·rw[hb,AJ]at e;cases e;exact⟨_,_,rfl⟩
  ·rw[AE hb]at e;exact q.ok.sm u e
end
section
variable{R:XR}
structure Cx.Top (X:Cx):Prop where
 stk:X.stack=X.env::X.outer
 fr:X.env.frame=some X.env.locals
 ex:X.ex=[]
theorem Inv.old(I:Inv X pins σ H s){o:Obj}(e:X.s₀.heap.get? b=some o)(hb:b∉X.fs):b∉frs X.stack:=λz=>by
 rcases List.mem_cons.mp (I.stkSub b z)with q|q
 ·exact absurd (Heap.lt_size e) (by rw[q];exact Nat.not_lt.mpr I.ok.above)
 ·exact hb q
theorem Inv.oldfs{pins:List (Addr×Obj)}{σ:W2}{H:Hp}{s:Shared}(T:X.Top)(hb:b∈X.fs):b∈frs X.stack:=by
 rw[T.stk];unfold frs;rw[List.filterMap_cons,T.fr];exact List.mem_cons_of_mem _ hb
theorem Aloft.leave{B:Heap}(T:X.Top)(I:Inv X pins σ H s)(q:Aloft X.prog X.w X.stack H s.heap x C a0 H' B h1)
 (up:h1.UpToSlots h') (fl:Heap.FlyingW B X.outer x (.ref C) a0 h'):Aloft X.prog X.w X.outer X.H₀ X.s₀.heap x C a0 H' B h':=by
 have nex:∀b:Addr,b∉X.ex:=λb=>by rw[T.ex];simp
 have stay:∀b o,X.s₀.heap.get? b=some o->X.H₀ b=none->b∉X.fs->B.get? b=some o:=λb o e n hb=>q.stay b o (I.base.keep b o e n hb (nex b)) (I.base.free b o e n (nex b)) (I.old e hb);have here:∀b o,X.s₀.heap.get? b=some o->b∉X.fs->∃o',B.get? b=some o':=λb o e hb=>by
  obtain⟨o1,e1⟩:=I.base.there b o e (nex b);exact q.here b o1 e1 (I.old e hb)
 have slot:∀b o,X.s₀.heap.get? b=some o->X.H₀ b=none->b∈X.fs->∃sl,h'.get? b=some {o with slots:=sl}:=λb o e n hb=>by
  obtain⟨sl,e1⟩:=I.base.slot b o e n hb (nex b);obtain⟨sl2,e2⟩:=q.un.any e1 (I.base.free b o e n (nex b)) (by simp);obtain⟨_,o3,e3,nf⟩:=q.fl.2.2.1.mem (Inv.oldfs (pins:=pins) (σ:=σ) (H:=H) (s:=s) T hb);rw[e2]at e3;cases e3;obtain⟨sl4,e4⟩:=up b _ e2 nf;exact⟨sl4,e4⟩
 refine⟨⟨λb o e n hb _=>fl.1 b o (stay b o e n hb),λb o e n hb _=>slot b o e n hb,λb o e n _=>?_,λb o e _=>?_,λb xs e=>q.un.tups b xs (I.base.tups b xs e),λb o u e=>q.un.frzs b o u (I.base.frzs b o u e),λb ps e=>?_⟩,q.ok,stay,here,fl⟩
 ·have n1:=I.base.free b o e n (nex b);obtain⟨o1,e1⟩:=I.base.there b o e (nex b);exact q.un.free b o1 e1 n1 (by simp)
 ·by_cases hb:b∈X.fs
  ·obtain⟨sl,e1⟩:=slot b o e (I.ok.frf b hb) hb;exact⟨_,e1⟩
  ·obtain⟨o1,e1⟩:=here b o e hb;exact⟨o1,fl.1 b o1 e1⟩
 ·obtain⟨m1,e1⟩:=I.base.tbls b ps e;obtain⟨m2,e2⟩:=q.un.tbls b _ e1;exact⟨m1++m2,by rw[e2,Array.append_assoc]⟩
theorem Inv.aloft(I:Inv X pins σ H s):HOk X.prog X.w H (W.hideAll s.heap (frs X.stack)):=by
 refine⟨?_,I.hok.sm,?_⟩
 rotate_left
 ·obtain⟨o,_,_,e,_⟩:=I.ok.mod.glob;refine⟨mainGlobals,o,by decide,W.hideAll_get _ (I.bk _ _ e) λz=>?_⟩;rw[(I.stack.mem z).1]at e;cases e
 exact λa o q=>(I.hok a o q).stay (λb u hb e=>W.hideAll_get _ e λz=>by
  have n:=I.stkFree b z;rcases hb with rfl|hb
  ·rw[q]at n;cases n
  ·rw[hb]at n;cases n) (λ_ z=>z) λ_ _ z=>z
theorem QY(T:X.Top)(h:XF X R e s'):
 wpAny (model X.prog X.w) X.A (leaving X.env e) (λ_ s2=>CXE X.prog X.w X.outer X.H₀ X.s₀ (λc xo H'=>∃C x σ,c= .ref C/\xo=some x/\R C x σ H') e s2) E' s':=by
 obtain⟨pins,σ,H,s,I,x,C,a0,H',B,rfl,os,bare,q,C',x',e1,e2,r⟩:=h;refine wpAny_leaves_onW (by rw[I.ok.frames,T.stk]) T.fr (by rw[<-T.stk];exact q.fl) λh' fl up=>?_;exact⟨x,_,a0,H',B,rfl,os.trans I.os,bare,q.leave T I up fl,C',x',σ,e1,e2,r⟩
theorem QX(T:X.Top)(h:XM X R e s'):
 wpAny (model X.prog X.w) X.A (leaving X.env e) (λ_ s2=>CXE X.prog X.w X.outer X.H₀ X.s₀ (λc xo H'=>∃C x σ,c= .ref C/\xo=some x/\R C x σ H') e s2) E' s':=by
 obtain⟨pins,σ,H,s,x,C,args,rfl,I,mk,os,bare,r⟩:=h;have nex:∀b:Addr,b∉X.ex:=λb=>by rw[T.ex];simp
 have hin:∀env∈(X.env::X.outer),∀b,env.frame=some b->b∈frs X.stack:=λenv he b hb=>by rw[T.stk];exact List.mem_filterMap.mpr ⟨env,he,hb⟩
 refine wpAny_leaves_madeW (base:=W.hideAll s.heap (frs X.stack)) (h:=s.heap) (by rw[I.ok.frames,T.stk]) T.fr (λb o q=>W.of_hideAll _ q) (W.funFrames_hide (by rw[<-T.stk];exact I.stack) hin) mk λh' t fl _ _ up=>?_;have stay:∀b o,X.s₀.heap.get? b=some o->X.H₀ b=none->b∉X.fs->(W.hideAll s.heap (frs X.stack)).get? b=some o:=λb o e n hb=>W.hideAll_get _ (I.base.keep b o e n hb (nex b)) (I.old e hb);have here:∀b o,X.s₀.heap.get? b=some o->b∉X.fs->∃o',(W.hideAll s.heap (frs X.stack)).get? b=some o':=λb o e hb=>by
  obtain⟨o1,e1⟩:=I.base.there b o e (nex b);exact⟨o1,W.hideAll_get _ e1 (I.old e hb)⟩
 have slot:∀b o,X.s₀.heap.get? b=some o->X.H₀ b=none->b∈X.fs->∃sl,h'.get? b=some {o with slots:=sl}:=λb o e n hb=>by
  obtain⟨sl,e1⟩:=I.base.slot b o e n hb (nex b);obtain⟨_,o3,e3,nf⟩:=I.stack.mem (Inv.oldfs (pins:=pins) (σ:=σ) (H:=H) (s:=s) T hb);rw[e1]at e3;cases e3;obtain⟨sl4,e4⟩:=up b _ (mk.keeps _ _ e1) nf;exact⟨sl4,e4⟩
 refine⟨x,C,_,H,_,rfl,os.trans I.os,bare,⟨⟨λb o e n hb _=>fl.1 b o (stay b o e n hb),λb o e n hb _=>slot b o e n hb,λb o e n _=>I.base.free b o e n (nex b),λb o e _=>?_,I.base.tups,I.base.frzs,I.base.tbls⟩,I.aloft,stay,here,fl⟩,C,x,σ,rfl,rfl,r⟩
 by_cases hb:b∈X.fs
 ·obtain⟨sl,e1⟩:=slot b o e (I.ok.frf b hb) hb;exact⟨_,e1⟩
 ·obtain⟨o1,e1⟩:=here b o e hb;exact⟨o1,fl.1 b o1 e1⟩
end
theorem UT(X:K.In h)(q:W.excIn K C F1 "ValueError.__new__"=true):
 ∃bm N nm qn bs hdct sn sub ab col dd k0 k1 k2 k3 k5 mN,h.get? C=some (excClassObj nm qn C N bs bm hdct sn sub ab col dd k0 k1 k2 k3 k5 "ValueError.__new__")/\h.Ns N mN/\mN "__init__"=none/\OwnTail h F1 bm:=by
 unfold W.excIn at q
 split at q
 ·rename_i dd cd sl ho
  split at q
  ·rename_i C1 bm k0 k1 k2 k3 n k5 hm hs
   simp only[Bool.and_eq_true,beq_iff_eq,Bool.not_eq_true']at q;obtain⟨⟨⟨⟨⟨rfl,rfl⟩,hdel⟩,ht⟩,hok⟩,hni⟩:=q;obtain⟨nm,bs,mro,ns,qn,hd,sn,sub,ab,col,del⟩:=cd
   dsimp only at hm hdel hok hni;subst hm hdel
   obtain⟨sl⟩:=sl;have e:sl=[k0,k1,k2,k3,some (.builtin "ValueError.__new__"),k5]:=hs;subst e;exact⟨bm,ns,nm,qn,bs,hd,sn,sub,ab,col,dd,k0,k1,k2,k3,k5,_,X _ _ ho, .of_isNs (W.isNs_of_in X hok),W.nsMap_none_of_in X hok hni,W.tail_of_in X ht⟩
  ·cases q
 ·cases q
section
variable{R:XR}{x:Str}{e:Expr}{t:TA}{pos p:Pos}
def Mf(C:Addr)(R:XR)(t:TA):TS:=λ_ σ H=>t σ H λvs H1=>vs.length<=sizeLine/\∀y,H1 y=none->R C y σ H1
theorem CT(Z:ECls X.K C)(hm:X.mg x=some (.ref C))(hh:X.A.handled=none)(hx:∀e s',XM X R e s'->X.xe e s')(ha:PA X (e::es) t)(hg:Gl X x:=by rfl)(hd:(x==("__debug__":Str))=false:=by decide)
 (he:starEach (e::es) X.env=(false,eval e X.env)::starEach es X.env:=by rfl) (hpl:(backTo cpos (starEach es X.env)).any (·.1)=false:=by rfl):
 PS X (.Raise (some (.Call (.Name x np) (e::es) [] cpos)) none pos) (Mf C R t):=by
 intro pins s σ H D I h;obtain⟨bm,N,nm,qn,bs,hdct,sn,sub,ab,col,dd,k0,k1,k2,k3,k5,mN,hC,hN,hni,TL⟩:=UT I.ok.mod.kin Z.ex;refine wpAny_Raise_call_subU (C:=C) (nm:=nm) (q:=qn) (N:=N) (bs:=bs) (bm:=bm) (hdct:=hdct) (sn:=sn) (sub:=sub) (ab:=ab) (col:=col) (dd:=dd) (k0:=k0) (k1:=k1) (k2:=k2) (k3:=k3) (k5:=k5)
  F.excBase_ValueError rfl F.excBase_ValueError (mN:=mN) (TL.hasType F.excBase_ValueError.hasBase) hh ?_ hni (Dl I hg hm ⟨rfl,?_⟩ hd)
 ·rw[he];show(false||(backTo cpos (starEach es X.env)).any (·.1))=false;rw[hpl];rfl
 ·have w:=ha cpos pins s σ H _ I h;rw[he]at w⊢;refine Calls.evalArgs_plain (thn w λus s2 ⟨vs,H1,I1,rv,hl,r⟩=>⟨rfl,by show us.length<=_;rw[<-rv.length];exact hl,I1.bk _ _ hC,hN.keeps I1.bk,TL.keeps I1.bk,λh' y mk=>hx _ _ ?_⟩);refine⟨pins,σ,H1,s2,y,C,_,rfl,I1,mk,rfl,I1.bare,r y ?_⟩
  cases q:H1 y with
  |none=>rfl
  |some o=>
   obtain⟨ob,h1⟩:=(I1.hok y o q).here;rw[mk.new]at h1;cases h1
structure FnUE (P:Program) (w:World) (K:W.Frag) (mg:Str->Option Value) (base:Heap) (k:Nat) (x:Str) (ps:List Str) (sp:Sp):Prop where
 ex:∃f fd,FnOk P w K mg base (CXE P w) k f fd ps sp/\mg x=some (.ref f)/\W.keepIn K (.ref f)=true/\Binds K fd ps []
theorem FnUE.mono{k:Nat}(U:FnUE P w K mg base j x ps sp)(h:j<=k):FnUE P w K mg base k x ps sp:=by
 obtain⟨f,fd,F,r⟩:=U.ex;exact⟨f,fd,F.mono h,r⟩
def Mh(sp:Sp)(R:XR)(t:TA):TE:=λσ H Q=>t σ H λvs H1=>sp vs H1 Q (xk R σ)
theorem AZ{k:Nat}(U:FnUE X.prog X.w X.K X.mg X.base k x ps sp)(hr:Room k X.A)(hx:∀e s',XF X R e s'->X.xe e s')(ha:PA X (e::es) t)(hg:Gl X x:=by rfl)
 (hdb:(x==("__debug__":Str))=false:=by decide) (he:starEach (e::es) X.env=(false,eval e X.env)::starEach es X.env:=by rfl) (hpl:(backTo pos (starEach es X.env)).any (·.1)=false:=by rfl):
 PE X (.Call (.Name x p) (e::es) [] pos) (Mh sp R t):=by
 obtain⟨f,fd,F,hm,hk,hb⟩:=U.ex;intro pins s σ H Q I h;refine wpAny_Call_Name_kw (Dl I hg hm ?_ hdb);refine W.callWith_K (h₀:=X.base) I.ok.mod.kin hk (thn (ha pos pins s σ H _ I h) λus s1 ⟨vs,H1,I1,r,q⟩=>⟨I1.kIn,?_⟩) he hpl;have hl:us.length=ps.length:=by rw[<-r.length];exact F.len _ _ _ _ q
 refine wpAny_call (codeAny_mono (F.run X.A X.stack s1 H1 ⟨us,[]⟩ us vs Q (xk R σ) hr I1.env0 ?_ r q) λres s' hq=>?_)
 ·have z:=hb s1 us I1.kIn (by rw[List.append_nil];exact hl);rw[List.append_nil]at z;exact z
 ·cases res with
  |error ev=>exact hx _ _ ⟨pins,σ,H1,s1,I1,hq⟩
  |ok fl=>
   cases fl with
   |ret u=>exact I1.after hq
   |next=>exact False.elim hq
   |brk=>exact False.elim hq
   |cont=>exact False.elim hq
end
def rOf(E:XK):XR:=λC x _ H'=>E (.ref C) (some x) H'
abbrev cxE(P:Program)(w:World)(K:W.Frag)(mg:Str->Option Value)(base:Heap)(N:List Str)(qual:Str)(st:Stmt)(f:Addr)(cdv:Value)(A:Around)(outer:List Env)(s:Shared)(H:Hp)(E:XK):Cx:=
 DX (CXE P w) P w K mg base N qual (AK st) f cdv A outer s H E
theorem MU:(cxE P w K mg base N qual st f cdv A outer s H E).Top:=⟨rfl,rfl,rfl⟩
theorem LW{l:List Env}{E':XK}(h:CXE P w l H s E e s')(k:∀c x H',E c x H'->E' c x H'):CXE P w l H s E' e s':=by
 obtain⟨x,C,a0,H',B,e1,e2,e3,q,r⟩:=h;exact⟨x,C,a0,H',B,e1,e2,e3,q,k _ _ _ r⟩
theorem BJ(e:Value)(s':Shared)
 (h:XF (cxE P w K mg base N qual st f cdv A outer s H E) (rOf E) e s'):(cxE P w K mg base N qual st f cdv A outer s H E).xe e s':=
 wpAny_mono (QY (E':=λ_ _=>False) MU h) (λ_ _ q=>LW q λc x H' ⟨C,y,σ,e1,e2,r⟩=>by subst e1;subst e2;exact r) λ_ _ z=>z.elim
theorem Ce(e:Value)(s':Shared)
 (h:XM (cxE P w K mg base N qual st f cdv A outer s H E) (rOf E) e s'):(cxE P w K mg base N qual st f cdv A outer s H E).xe e s':=
 wpAny_mono (QX (E':=λ_ _=>False) MU h) (λ_ _ q=>LW q λc x H' ⟨C,y,σ,e1,e2,r⟩=>by subst e1;subst e2;exact r) λ_ _ z=>z.elim
theorem Fun.okE{x:Str}{k:Nat}(F:Fun K x qual st f fd)(S:FnScope N ps (AK st))(len:∀vs H Q E,sp vs H Q E->vs.length=ps.length)
 (hbody:∀ (cdv:Value) (A:Around) (outer:List Env) (s:Shared) (H:Hp) (vs:List V) (Q:VK) (E:XK),Room k (A.deeper (envOfC qual (AK st) s.heap.objs.size f cdv))->sp vs H Q E->
   ∃t,PSs (cxE P w K mg base N qual st f cdv A outer s H E) (BH st) t/\t {nx:=λ_ H'=>Q .non H',rt:=Q} (start N vs) H):FnOk P w K mg base (CXE P w) (k+1) f fd ps sp:=by
 obtain⟨oc,od,kV,doc,pm,an,cdv,ct,osl,rfl,lk,hcd⟩:=F.ex;exact NZ lk hcd S len λA outer s H vs Q E hr hsp=>hbody cdv A outer s H vs Q E hr hsp
theorem DefAt.fnUE{x:Str}{k:Nat}(d:DefAt K mg x st ps f fd)(ok:FnOk P w K mg base (CXE P w) k f fd ps sp):FnUE P w K mg base k x ps sp:=
 ⟨f,fd,ok,d.m,d.F.kp,d.b⟩
section
variable{E:Value->Shared->Prop}{CR:Addr}
theorem SS(Z:ECls K C)(X:K.In h):W.Looks M h (isType (.ref C)) true:=by
 obtain⟨cd,hcd⟩:=Z.cs;unfold W.clsIn at hcd
 split at hcd
 ·rename_i ho
  intro A' Q' E' s' k q;unfold isType loadHead;exact wpAny_bind (wpAny_loadPart (k _ _ (X _ _ ho)) (wpAny_pure q))
 ·cases hcd
theorem Pq{b:Bool}(ZR:ECls K CR)(X:K.In s.heap)(hb:W.mroIn K C (.ref CR)=some b)(e:ExcAt x C s.heap)(h:Q b s):wpAny M A (excMatches (.ref x) (.ref CR)) Q E s:=by
 obtain⟨hp,g,d,tk,os⟩:=s;have L0:=e.type (M:=M);have L1:=W.looks_typeIn (M:=M) X ZR.ty;have L2:=SS (M:=M) ZR X;have L3:=W.looks_mroIn (M:=M) X ZR.bs;have L4:=W.looks_mroIn (M:=M) X hb;have f:=tc_notTuple;unfold excMatches isInstance;refine wpAny_bind (wpAny_bind (L1.at ?_));rw[f];refine wpAny_pure ?_;simp only[Bool.false_eq_true,if_false];refine wpAny_bind (wpAny_pure ?_);rw[List.forIn_cons];unfold isExcClass;refine wpAny_bind (wpAny_bind (wpAny_bind (wpAny_bind (L2.at ?_))));simp only[if_true];refine L3.at ?_;simp only[Bool.not_true,Bool.false_eq_true,if_false];refine wpAny_pure ?_;refine wpAny_pure (wpAny_bind (L0.at ?_));rw[List.forIn_cons];refine wpAny_bind (wpAny_bind (wpAny_bind (L4.at ?_)))
 cases b with
 |true=>
  simp only[if_true];exact wpAny_pure (wpAny_pure (wpAny_pure h))
 |false=>
  simp only[Bool.false_eq_true,if_false];exact wpAny_pure (wpAny_pure (wpAny_pure h))
end
abbrev Cx.held(X:Cx)(e:Value):Cx:={X with A:=X.A.mark (some e),calm:=false,xe:=λ_ _=>False}
abbrev Cx.tried(X:Cx)(pn:List (Addr×Obj))(xe:Value->Shared->Prop):Cx:={X with pn:=pn,xe:=xe}
theorem Cx.Ok.held(ok:X.Ok)(e:Value):(X.held e).Ok:=
 ⟨ok.mod,ok.kind,ok.glob,ok.blt,ok.above,ok.inj,ok.has,ok.cab,λz=>(nomatch z),ok.frames,ok.stk,ok.exf,ok.bs,ok.bsz,ok.noex,ok.exfs,ok.funs,ok.frf⟩
theorem Inv.held(I:Inv X pins σ H s)(e:Value):Inv (X.held e) pins σ H s:=⟨I.ok.held e,I.os,I.bare,I.base,I.loc,I.cell,I.free,I.freeC,I.pin,I.hok,I.len⟩
theorem Inv.unheld(ok:X.Ok)(I:Inv (X.held e) pins σ H s):Inv X pins σ H s:=⟨ok,I.os,I.bare,I.base,I.loc,I.cell,I.free,I.freeC,I.pin,I.hok,I.len⟩
theorem Cx.Ok.tried(ok:X.Ok)(pn:List (Addr×Obj))(xe:Value->Shared->Prop):(X.tried pn xe).Ok:=
 ⟨ok.mod,ok.kind,ok.glob,ok.blt,ok.above,ok.inj,ok.has,ok.cab,ok.hd,ok.frames,ok.stk,ok.exf,ok.bs,ok.bsz,ok.noex,ok.exfs,ok.funs,ok.frf⟩
theorem Inv.tried(I:Inv X pins σ H s)(xe:Value->Shared->Prop):Inv (X.tried (X.pn++pins) xe) [] σ H s:=
 ⟨I.ok.tried _ _,I.os,I.bare,I.base,I.loc,I.cell,I.free,I.freeC,λp hp=>I.pin p (by simpa using hp),I.hok,I.len⟩
theorem Inv.untried(ok:X.Ok)(I:Inv (X.tried (X.pn++pins) xe) pins' σ H s):Inv X pins σ H s:=
 ⟨ok,I.os,I.bare,I.base,I.loc,I.cell,I.free,I.freeC,λp hp=>I.pin p (List.mem_append_left _ hp),I.hok,I.len⟩
theorem SP.untried{f:Flow}(ok:X.Ok)(h:SP (X.tried (X.pn++pins) xe) [] D f s):SP X pins D f s:=by
 cases f with
 |next=>obtain⟨σ',H',I,q⟩:=h;exact⟨σ',H',I.untried ok,q⟩
 |brk=>obtain⟨σ',H',I,q⟩:=h;exact⟨σ',H',I.untried ok,q⟩
 |cont=>obtain⟨σ',H',I,q⟩:=h;exact⟨σ',H',I.untried ok,q⟩
 |ret u=>obtain⟨v,σ',H',I,r,q⟩:=h;exact⟨v,σ',H',I.untried ok,r,q⟩
theorem Inv.gone{n:Str}{v:Option Value}(I:Inv X pins σ H s)(hN:X.N.Nodup)(hi:X.N[i]? =some n)
 (hl:∀ (i:Nat) (x:Str) (v:V),X.N[i]? =some x->σ[i]? =some (some v)->Vis X.env.scope x->∃u,RelV v u/\Look X.env s.heap m x u)
 (hn:h'.Ns X.env.locals (λx=>if x=n then v else m x)) (hs:Heap.SameBut X.env.locals s.heap h'):Inv X pins (σ.set i none) H {s with heap:=h',toks:=tk}:=by
 have ne0:∀b o,X.s₀.heap.get? b=some o->b≠X.env.locals:=λb o e=>Nat.ne_of_lt (Nat.lt_of_lt_of_le (Heap.lt_size e) I.ok.above);have tr:∀b u,H b=some u->b≠X.env.locals:=λb u e z=>by rw[z,I.free]at e;cases e
 refine⟨I.ok,I.os,I.bare,⟨λb o e q hb hx=>?_,λb o e q hb hx=>?_,I.base.free,λb o e hx=>?_,I.base.tups,I.base.frzs,I.base.tbls⟩,⟨_,hn,λj y w e1 e2 e3=>?_⟩,λy c e=>?_,I.free,I.freeC,λp hp=>?_,⟨λb u e=>?_,I.hok.sm,let⟨o,_,_,e,_⟩:=I.ok.mod.glob;⟨mainGlobals,o,by decide,(hs.2 _ (ne0 _ o (I.ok.bs _ _ e).1)).trans (I.bk _ _ e)⟩⟩,by simpa using I.len⟩
 ·exact(hs.2 b (ne0 b o e)).trans (I.base.keep b o e q hb hx)
 ·obtain⟨sl,e1⟩:=I.base.slot b o e q hb hx;exact⟨sl,(hs.2 b (ne0 b o e)).trans e1⟩
 ·obtain⟨o',e1⟩:=I.base.there b o e hx;exact⟨o',(hs.2 b (ne0 b o e)).trans e1⟩
 ·have hj:j≠i:=λz=>by
   subst z
   by_cases hlt:j<σ.length
   ·rw[List.getElem?_set_self hlt]at e2;cases e2
   ·rw[List.getElem?_eq_none (by rw[List.length_set];lia)]at e2;cases e2
  rw[List.getElem?_set_ne (Ne.symm hj)]at e2;obtain⟨u,r,q⟩:=hl j y w e1 e2 e3;refine⟨u,r,?_⟩;have ny:y≠n:=λz=>hj (Hn hN e1 (z▸hi));rcases q with⟨k,e⟩|⟨k,c,e,z⟩
  ·exact .inl ⟨k,by show(if y=n then v else m y)=some u;rw[if_neg ny];exact e⟩
  ·exact .inr ⟨k,c,e,z.sameBut hs (I.cne y c e)⟩
 ·obtain⟨w',z⟩:=I.cell y c e;exact⟨w',z.sameBut hs (I.cne y c e)⟩
 ·obtain⟨e,q,ne,nf,d⟩:=I.pin p hp;exact⟨(hs.2 p.1 ne).trans e,q,ne,nf,d⟩
 ·refine(I.hok b u e).stay (λc w' hc r=>(hs.2 c ?_).trans r) (λ_ z=>z) λ_ _ z=>z;rcases hc with rfl|hc
  ·exact tr _ _ e
  ·exact tr _ _ hc
section
variable{cn en:Str}{CR:Addr}{suite:List Stmt}{hpos pos:Pos}{tb:XR->TS}
def Ec(i:Nat)(D:Ends):Ends:={nx:=λσ H=>D.nx (σ.set i none) H,rt:=D.rt,bk:=λσ H=>D.bk (σ.set i none) H,ct:=λσ H=>D.ct (σ.set i none) H}
def Nh(K:W.Frag)(i:Nat)(CR:Addr)(tb:XR->TS)(ts:TS):TS:=λD σ H=>
 tb (λC x σ' H'=>W.mroIn K C (.ref CR)=some true/\∀ob,ts (Ec i D) (σ'.set i (some (.ref x))) (upd H' x (C7 ob x C))) D σ H
theorem Mq(ZR:ECls X.K CR)(hm:X.mg cn=some (.ref CR))(T:X.Top)(hN:X.N.Nodup)(hi:X.N[i]? =some en)(hl:X.env.scope.names.lookup en=some .local)
 (hb:∀ (pn:List (Addr×Obj)) (xe:Value->Shared->Prop) (R:XR),(∀e s',XF (X.tried pn xe) R e s'->xe e s')->PSs (X.tried pn xe) body (tb R))
 (hs:∀e:Value,PSs (X.held e) (b₀::suite) ts) (hg:Gl X cn:=by rfl) (hd:(cn==("__debug__":Str))=false:=by decide):
 PS X (.Try body [.ExceptHandler (some (.Name cn np)) (some en) (b₀::suite) hpos] [] [] pos) (Nh X.K i CR tb ts):=by
 intro pins s σ H D I h;refine wpAny_Try_except ?_;refine wpAny_mono (hb (X.pn++pins) _ _ (λe s1 z=>?_) [] s σ H D (I.tried _) h) (λf s1 q=>?_) λe s1 z=>z
 ·obtain⟨pins1,σ1,H1,s1',I1,x,C,a0,H',B,rfl,os,bare,q,C',x',e1,e2,hsub,r⟩:=z
  cases e1;cases e2
  have I1:=I1.untried I.ok;refine wpAny_looks_onW (by rw[I.ok.frames,T.stk]) T.fr (by rw[<-T.stk];exact q.fl) λh4 held4 up4=>?_;refine wpAny_landsW held4 λh5 fl5 up5=>?_;have q5:=q.on (up4.trans up5) (by rw[T.stk];exact fl5) I1.stkFree;have I5:Inv X pins σ1 H' {s1 with heap:=h5}:=I1.call' (ch:=[]) os q5.un (q5.ok.kept q5.fl.1) bare (λb z=>absurd z (by simp));have X5:ExcAt x C h5:=by
   obtain⟨oe,vs,g1,g2,g3,_⟩:=q5.fl.first;exact⟨oe,vs,g1,g2,g3⟩
  refine wpAny_handleBy_cons (codeAny_handlers_test (Dl (X:=X.held (.ref x)) (I5.held _) hg hm ?_ hd)) (by intro z;cases z);refine Pq ZR I5.kIn hsub X5 ?_;refine codeAny_handlers_suite_as ?_;refine lands_againW (base:=B) (l:=X.env::X.outer) (by rw[<-T.stk];exact q5.fl) λh6 fl6 up6=>?_;have q6:=q5.on up6 (by rw[T.stk];exact fl6) I1.stkFree;obtain⟨ob,c6⟩:=q6.caught;have I6:Inv X pins σ1 (upd H' x (C7 ob x C)) {s1 with heap:=h6}:=I1.call' (ch:=[]) os c6.1 c6.2 bare (λb z=>absurd z (by simp));refine Df (X:=X.held (.ref x)) (I6.held _) hN hi (.inl hl) (v:= .ref x) rfl (λs7 I7=>?_) (.inr hl);refine wpAny_mono (hs (.ref x) pins s7 _ _ (Ec i D) I7 (r ob)) (λf s8 q8=>?_) λ_ _ z=>z.elim;have go:∀ {σ8:W2} {H8:Hp},Inv (X.held (.ref x)) pins σ8 H8 s8->(∀s9,Inv X pins (σ8.set i none) H8 s9->SP X pins D f s9)->wpAny (model X.prog X.w) X.A (do bindName X.env en .none;unbindBehindTheSuite X.env en hpos) (λ_ s9=>SP X pins D f s9) X.xe s8:=fun{σ8 H8} I8 k=>by
   have I8:=I8.unheld I.ok;obtain⟨m,hn,hlk⟩:=id I8.loc;refine wpAny_nameGoes_keeps hl hn ?_ λh9 v hn9 hs9=>k _ (I8.gone hN hi hlk hn9 hs9);rw[I.ok.kind];rfl
  cases f with
  |next=>obtain⟨σ8,H8,I8,q9⟩:=q8;exact go I8 λs9 I9=>⟨_,_,I9,q9⟩
  |brk=>obtain⟨σ8,H8,I8,q9⟩:=q8;exact go I8 λs9 I9=>⟨_,_,I9,q9⟩
  |cont=>obtain⟨σ8,H8,I8,q9⟩:=q8;exact go I8 λs9 I9=>⟨_,_,I9,q9⟩
  |ret u=>obtain⟨v,σ8,H8,I8,rv,q9⟩:=q8;exact go I8 λs9 I9=>⟨_,_,_,I9,rv,q9⟩
 ·have q:=q.untried I.ok
  cases f with
  |next=>exact wpAny_execs_nil q
  |brk=>exact q
  |cont=>exact q
  |ret u=>exact q
end
mutual
inductive Sd (p:Addr) (H:Hp):V->PyData->Prop
 |sc {x:V} {d:PyData} (h:Sc x d):Sd p H x d
 |lst {a:Addr} {xs:List V} {ds:List PyData} (h:H a=some (.lst xs)) (n:a≠p) (r:Sds p H xs ds):Sd p H (.ref a) (.list ds)
 |tup {a:Addr} {xs:List V} {ds:List PyData} (h:H a=some (.tup xs)) (n:a≠p) (r:Sds p H xs ds):Sd p H (.ref a) (.tuple ds)
 |dct {a:Addr} {kvs:List (Key×V)} {ds:List (PyData×PyData)} (h:H a=some (.dK kvs)) (n:a≠p) (r:Paired Sck kvs ds):Sd p H (.ref a) (.dict ds)
inductive Sds (p:Addr) (H:Hp):List V->List PyData->Prop
 |nil:Sds p H [] []
 |cons {x:V} {d:PyData} {xs:List V} {ds:List PyData} (h:Sd p H x d) (t:Sds p H xs ds):Sds p H (x::xs) (d::ds)
end
theorem V3(I:Inv X pins σ H s)(h:H a=some o)(hf:∀ob u,o≠ .frz ob u):a≠sysModules:=λz=>by
 subst z;obtain⟨ob,u,e⟩:=I.hok.sm o h;exact hf ob u e
mutual
theorem Sd.reads(I:Inv X pins σ H s):∀ {x:V} {d:PyData} {u:Value},Sd p H x d->RelV x u->∃as,Reads s.heap u d as/\sysModules∉as
 |_,_,_, .sc c,r=>⟨[],c.reads r,λz=>nomatch z⟩
 |_,_,u, .lst (a:=a) (xs:=xs) h n c,r=>by
  obtain rfl:u=Value.ref a:=r;obtain⟨_,its,n,rv,e⟩:=(show ObjOk X.prog X.w H s.heap a (.lst xs)from I.hok a _ h);obtain⟨as,rd,hs⟩:=Sds.reads I c rv;refine⟨_, .list e rfl rfl (by simpa using rd),λz=>?_⟩;rcases List.mem_cons.mp z with z|z
  ·exact V3 I h (λ_ _ q=>nomatch q) z.symm
  ·exact hs z
 |_,_,u, .tup (a:=a) (xs:=xs) h n c,r=>by
  obtain rfl:u=Value.ref a:=r;obtain⟨_,its,rv,o,e1,e2,n,e3⟩:=(show ObjOk X.prog X.w H s.heap a (.tup xs)from I.hok a _ h);obtain⟨as,rd,hs⟩:=Sds.reads I c rv;exact⟨as, .tuple e1 e2 e3 (by simpa using rd),hs⟩
 |_,_,u, .dct (a:=a) (kvs:=kvs) h n c,r=>by
  obtain rfl:u=Value.ref a:=r;obtain⟨_,ns,vs,rv,o,es,ep,e1,e2,e3,_,pr,_⟩:=(show ObjOk X.prog X.w H s.heap a (.dK kvs)from I.hok a _ h);obtain⟨k1,k2⟩:=J0 (h:=s.heap) pr rv c;refine⟨_, .dict e1 e2.1 e3 k1 k2,λz=>?_⟩;have z':sysModules∈[a]:=by simpa using z
  rw[List.mem_singleton.mp z']at ns;simp at ns
theorem Sds.reads(I:Inv X pins σ H s):∀ {xs:List V} {ds:List PyData} {us:List Value},Sds p H xs ds->Vals xs us->∃as,ReadsAll s.heap us ds as/\sysModules∉as
 |_,_,_, .nil, .nil=>⟨[], .nil,λz=>nomatch z⟩
 |_,_,_, .cons h t, .cons r rs=>by
  obtain⟨as,r1,h1⟩:=Sd.reads I h r;obtain⟨bs,r2,h2⟩:=Sds.reads I t rs;exact⟨as++bs, .cons r1 r2,λz=>(List.mem_append.mp z).elim h1 h2⟩
end
structure Cs where
 RowError:Addr
 NoKinds:Addr
 NoLine:Addr
 NotRight:Addr
 NoTree:Addr
 NoNumber:Addr
 NoWeights:Addr
 NoPlace:Addr
 NoFilling:Addr
 TooMany:Addr
 NoName:Addr
 NoRow:Addr
def Cj(K:W.Frag)(C:Addr):Bool:=W.excIn K C F1 "ValueError.__new__"&&(W.typeIn K (.ref C)==some (.type "type"))&&(W.clsIn K C).isSome&&(W.mroIn K C (.type "BaseException")==some true)&&
 (W.mroIn K C (.type "object")==some true)&&(W.findIn K (.ref C) "__getattribute__"==some (some (.builtin "BaseException.__getattribute__")))&&(W.findIn K (.ref C) "__getattr__"==some none)&&
 (W.findIn K (.ref C) "__class__"==some (some (.builtin "object.__class__")))&&(W.specialIn K (.builtin "object.__class__") "__get__"==some (some (.builtin "getset_descriptor.__get__")))&&(W.takesIn K (.builtin "object.__class__")==some true)
theorem DJ(h:Cj K C=true):ECls K C:=by
 unfold Cj at h;simp only[Bool.and_eq_true,beq_iff_eq]at h;obtain⟨⟨⟨⟨⟨⟨⟨⟨⟨h1,h2⟩,h3⟩,h4⟩,h5⟩,h6⟩,h7⟩,h8⟩,h9⟩,h10⟩:=h;exact⟨h1,h2,Option.isSome_iff_exists.mp h3,h4,h5,h6,h7,h8,h9,h10⟩
def rNo:XR:=λ_ _ _ _=>False
theorem Ao(e:Value)(s':Shared)(h:XF X rNo e s'):X.xe e s':=by
 obtain⟨_,_,_,_,_,_,_,_,_,_,_,_,_,_,_,_,_,_,r⟩:=h;exact r.elim
theorem Du{b:List Stmt}(h:∃t,PSs X.nox b t/\R t):∃t,PSs X b t/\R t:=let⟨t,p,r⟩:=h;⟨t,p.nox,r⟩
theorem PS.nox{t:TS}(h:PS X.nox st t):PS X st t:=λpins s σ H D I hw=>
 wpAny_mono (h pins s σ H D (I.wish _) hw) (λ_ _ q=>q.unwish) λ_ _ z=>False.elim z
section
variable{Q:VK}
theorem TK{R:XR}{t:TA}(h:t σ H λvs H1=>sp vs H1 Q (xk R σ)):Mh sp R t σ H Q:=h
theorem S0{R:XR}{t:TA}(h:t σ H λvs H1=>vs.length<=sizeLine/\∀y,H1 y=none->R C y σ H1):Mf C R t D σ H:=h
theorem V7{CR:Addr}{tb:XR->TS}
 (h:tb (λC x σ' H'=>W.mroIn K C (.ref CR)=some true/\∀ob,ts (Ec i D) (σ'.set i (some (.ref x))) (upd H' x (C7 ob x C))) D σ H):Nh K i CR tb ts D σ H:=h
end
def Ref(E:XK)(C:Addr)(H:Hp):Prop:=∀y H',Same H H'->H y=none->E (.ref C) (some y) H'
theorem Ref.pass(r:Ref E C H)(s:Same H H1):Ref (xk (rOf E) σ) C H1:=λy H' s' h=>⟨C,y,rfl,rfl,r y H' (s.trans s') (s.free h)⟩
theorem LE{y:Addr}(s:Same H H')(n:H y=none):Same H (upd H' y o):=λb u z=>by rw[AE (AT z n)];exact s b u z
theorem Mo{R:XR}(h:∀y H',Same H H'->H y=none->R C y σ H'):Ref (xk R σ) C H:=λy H' s n=>⟨C,y,rfl,rfl,h y H' s n⟩
def NoN(K:W.Frag)(lo hi:Int)(H:Hp)(v:V):Prop:=∃ty,TyOf K H v (.type ty)/\ty∈B6/\∀i,v= .int i->i<lo\/hi<i
abbrev NoK(K:W.Frag):Hp->V->Prop:=NoN K 1 4
def NoL(K:W.Frag)(k:Int)(H:Hp)(v:V):Prop:=(∃a,v=tx a/\a.length<=1000/\Ab k a=false)\/∃ty,TyOf K H v (.type ty)/\ty∈B6/\ty≠"str"
theorem TyOf.same(h:TyOf K H v t)(s:Same H H'):TyOf K H' v t:=by
 cases h with
 |non=>exact .non
 |bl x=>exact .bl x
 |int i=>exact .int i
 |str x=>exact .str x
 |flt x=>exact .flt x
 |lst e=>exact .lst (s _ _ e)
 |frz e=>exact .frz (s _ _ e)
 |tup e=>exact .tup (s _ _ e)
 |dK e=>exact .dK (s _ _ e)
 |dT e=>exact .dT (s _ _ e)
 |ins e cl ha hn htk hm=>exact .ins (s _ _ e) cl ha hn htk hm
theorem TyOf.keep(h:TyOf K H v t)(n:∀a,v= .ref a->a≠p)(s:SameBut1 p H H'):TyOf K H' v t:=by
 cases h with
 |non=>exact .non
 |bl x=>exact .bl x
 |int i=>exact .int i
 |str x=>exact .str x
 |flt x=>exact .flt x
 |lst e=>exact .lst (s _ _ e (n _ rfl))
 |frz e=>exact .frz (s _ _ e (n _ rfl))
 |tup e=>exact .tup (s _ _ e (n _ rfl))
 |dK e=>exact .dK (s _ _ e (n _ rfl))
 |dT e=>exact .dT (s _ _ e (n _ rfl))
 |ins e cl ha hn htk hm=>exact .ins (s _ _ e (n _ rfl)) cl ha hn htk hm
theorem TyOf.int_of(h:TyOf K H v t)(e:t= .type "int"):∃i,v= .int i:=by
 cases h<;>first|exact⟨_,rfl⟩|(injection e with e;exact absurd e (by decide))|cases e
theorem NoN.same(h:NoN K lo hi H v)(s:Same H H'):NoN K lo hi H' v:=let⟨ty,a,b⟩:=h;⟨ty,a.same s,b⟩
theorem NoL.same{k:Int}(h:NoL K k H v)(s:Same H H'):NoL K k H' v:=h.elim .inl λ⟨ty,a,b⟩=> .inr ⟨ty,a.same s,b⟩
def Gate(K:W.Frag)(cs:Cs)(H:Hp)(E:XK)(kv v:V):Prop:=(NoK K H kv/\Ref E cs.NoKinds H)\/∃k:Int,kv= .int k/\1<=k/\k<=4/\NoL K k H v/\Ref E cs.NoLine H
theorem Gate.pass{cs:Cs}{kv:V}(g:Gate K cs H E kv v)(s:Same H H1):Gate K cs H1 (xk (rOf E) σ) kv v:=
 g.elim (λ⟨a,r⟩=> .inl ⟨a.same s,r.pass s⟩) λ⟨k,e,h1,h2,a,r⟩=> .inr ⟨k,e,h1,h2,a.same s,r.pass s⟩
def K5(K:W.Frag)(cs:Cs):Sp:=λvs H Q E=>Ls vs H Q E\/∃v,vs=[v]/\NoK K H v/\Ref E cs.NoKinds H
def II(K:W.Frag)(cs:Cs):Sp:=λvs H Q E=>Mi K vs H Q E\/∃kv v,vs=[kv,v]/\NoK K H kv/\Ref E cs.NoKinds H
def BP(K:W.Frag)(cs:Cs)(sp:Sp):Sp:=λvs H Q E=>sp vs H Q E\/∃kv v,vs=[kv,v]/\Gate K cs H E kv v
theorem QH{cs:Cs}{Q:VK}{k:Int}(h1:1<=k)(h2:k<=4)(n:NoL K k H v)(q:∀H',Same H H'->Q (.bl false) H'):II K cs [.int k,v] H Q E:=by
 refine .inl ⟨k,v,rfl,h1,h2,?_⟩;rcases n with⟨a,rfl,ha,hr⟩|⟨ty,a,b,c⟩
 ·exact .inl ⟨a,rfl,ha,λH' s=>by rw[hr];exact q H' s⟩
 ·exact .inr ⟨ty,a,b,c,q H (Same.refl H)⟩
def Wf(i j:Int):Prop:=0<j/\j<2^200
theorem R1:OpR X (binaryOp .FloorDiv) (rI Wf λi j=> .int (i/j)):=opI λi j _ _ _ _ _ hc q=>by
 have h1:(0:Int)<j:=hc.1;have h2:j<2^200:=hc.2;refine floordiv_int (by lia) (by rw[Int.fdiv_eq_ediv_of_nonneg i (by lia)];exact q) (.inl (PyProof.noPylong_of_log2 ?_));have h3:j.natAbs≠0:=by lia
 have h4:j.natAbs<2^200:=by lia
 exact Nat.lt_trans ((Nat.log2_lt h3).mpr h4) (by decide)
theorem SqL.ty{xs:List V}(h:SqL K H p xs):tyV K "list" (.ref p) H:= .inl ⟨rfl,_,h⟩
end L2
namespace BrS
variable{a q:Addr}{ws:List Int}{v:V}{Q:VK}{E:XK}
def Po(H:Hp)(p:Addr):Prop:=∃a b c:Int,H p=some (.lst [.int a, .int b, .int c])
theorem Po.same(h:Po H p)(s:Same H H'):Po H' p:=let⟨a,b,c,e⟩:=h;⟨a,b,c,s _ _ e⟩
theorem Po.keep(h:Po H p)(s:SameBut1 q H H')(n:p≠q):Po H' p:=let⟨a,b,c,e⟩:=h;⟨a,b,c,s _ _ e n⟩
theorem Po.ne(h:Po H p)(hq:H q=none):q≠p:=let⟨_,_,_,e⟩:=h;(AT e hq).symm
theorem Po.new{a b c:Int}:Po (upd H p (.lst [.int a, .int b, .int c])) p:=⟨a,b,c,AJ⟩
def IH(K:W.Frag):Sp:=λvs H Q _=>∃ (a:Addr) (ns:List Int) (k:Int),vs=[.ref a, .int k]/\SqL K H a (ns.map V.int)/\0<=k/\k<=63/\∀p H',H p=none->Same H H'->Po H' p->Q (.ref p) H'
theorem KW{k:Int}(hS:SqL K H a (ns.map V.int))(h0:0<=k)(h1:k<=63)(q:∀p H',H p=none->Same H H'->Po H' p->Q (.ref p) H'):IH K ([.ref a, .int k]++[]) H Q E:=
 ⟨a,ns,k,rfl,hS,h0,h1,q⟩
def B8:Sp:=λvs H Q _=>∃p m,vs=[.ref p, .int m]/\Po H p/\0<m/\m<2^200/\∀r H',0<=r->r<m->Po H' p->SameBut1 p H H'->Q (.int r) H'
theorem Bj{m:Int}(hp:Po H p)(h0:0<m)(h1:m<2^200)(q:∀r H',0<=r->r<m->Po H' p->SameBut1 p H H'->Q (.int r) H'):B8 ([.ref p, .int m]++[]) H Q E:=⟨p,m,rfl,hp,h0,h1,q⟩
theorem EC{o:HO}(s:SameBut1 p H H')(h:H a=none):SameBut1 p H (upd H' a o):=λb u z n=>by rw[AE (AT z h)];exact s b u z n
theorem EX(a:List Nat):(a.map λc=>[c]).flatten=a:=by
 induction a with
 |nil=>rfl
 |cons c r ih=>rw[List.map_cons,List.flatten_cons,ih];rfl
theorem SQ(l:List (List Nat)):(l.map tx).all As=true:=by
 induction l with
 |nil=>rfl
 |cons a r ih=>rw[List.map_cons,List.all_cons,ih];rfl
theorem MJ(h:j<n):ixN n (j:Int)=some j:=by
 unfold ixN;simp[h]
def ckd(x:Int):Nat:=(atI [41,93,125,62] x).getD 0
def Ha:Sp:=λvs H Q _=>∃ (p:Addr) (k h:Int),vs=[.ref p, .int k, .int h]/\Po H p/\1<=k/\k<=4/\0<=h/\h<=20/\
 ∀row H',Rt row->(row.length:Int)=2*h->(∀c∈row,kin k c)->Po H' p->SameBut1 p H H'->Q (tx row) H'
theorem P8{k h:Int}(hd:Po H p)(h1:1<=k)(h2:k<=4)(h3:0<=h)(h4:h<=20)
 (q:∀row H',Rt row->(row.length:Int)=2*h->(∀c∈row,kin k c)->Po H' p->SameBut1 p H H'->Q (tx row) H'):Ha ([.ref p, .int k, .int h]++[]) H Q E:=⟨p,k,h,rfl,hd,h1,h2,h3,h4,q⟩
def Il:Sp:=λvs H Q _=>∃ (p:Addr) (k h:Int),vs=[.ref p, .int k, .int h]/\Po H p/\1<=k/\k<=4/\0<=h/\h<=20/\
 ∀row H',(row.length:Int)<=2*h+1->(∀c∈row,c∈sgn k)->Po H' p->SameBut1 p H H'->Q (tx row) H'
theorem Ri{k h:Int}(hd:Po H p)(h1:1<=k)(h2:k<=4)(h3:0<=h)(h4:h<=20)
 (q:∀row H',(row.length:Int)<=2*h+1->(∀c∈row,c∈sgn k)->Po H' p->SameBut1 p H H'->Q (tx row) H'):Il ([.ref p, .int k, .int h]++[]) H Q E:=⟨p,k,h,rfl,hd,h1,h2,h3,h4,q⟩
def Hc(K:W.Frag)(cs:Cs):Sp:=λvs H Q E=>∃a v,vs=[tx a,v]/\a.length<=40/\((∃i:Int,v= .int i/\0<=i/\i<a.length/\Q .non H)\/(NoN K 0 ((a.length:Int)-1) H v/\Ref E cs.NoPlace H))
def Gk(cs:Cs):Sp:=λvs H Q E=>∃H0 s ad n T,vs=[.ref s]/\Tb H0 H s ad n T/\((T 0 n≠0/\Q .non H)\/(T 0 n=0/\Ref E cs.NoFilling H))
abbrev En:=List Nat×List Nat
def exB(n at' c:Nat)(e:En)(b:Nat):List En:=
 if c=63\/c=brs.getD b 0 then
  (if b%2=0 then(if e.2.length+at'+1<n then [(e.1++[brs.getD b 0],b/2::e.2)]else [])
   else match e.2 with
    |[]=>[]
    |p::r=>if p=b/2 then [(e.1++[brs.getD b 0],r)]else [])
 else []
def exs(k n at' c:Nat)(e:En):List En:=(List.range (2*k)).flatMap (exB n at' c e)
def fls(k:Nat)(a:List Nat):Nat->List En
 |0=>[([],[])]
 |i+1=>(fls k a i).flatMap (exs k a.length i (a.getD i 0))
def res(k:Nat)(a:List Nat):List (List Nat):=((fls k a a.length).filter λe=>decide (e.2=[])).map (·.1)
def gd:V->Bool
 | .int i=>decide (0<=i)
 |_=>false
def Pln(K:W.Frag)(H:Hp)(v:V):Prop:=∃ty,TyOf K H v (.type ty)/\ty∈B6
theorem Pln.same(h:Pln K H v)(s:Same H H'):Pln K H' v:=let⟨ty,a,b⟩:=h;⟨ty,a.same s,b⟩
def NoW(K:W.Frag)(k:Int)(H:Hp)(v:V):Prop:=(∃ty,TyOf K H v (.type ty)/\ty∈B6/\ty≠"list")\/
 ∃q xs,v= .ref q/\H q=some (.lst xs)/\xs.length<=1000/\((xs.length:Int)≠2*k\/((∀x∈xs,Pln K H x)/\∃x∈xs,gd x=false))
theorem NoW.same{k:Int}(h:NoW K k H v)(s:Same H H'):NoW K k H' v:=by
 rcases h with⟨ty,a,b⟩|⟨q,xs,e,h,l,c⟩
 ·exact .inl ⟨ty,a.same s,b⟩
 ·exact .inr ⟨q,xs,e,s _ _ h,l,c.elim .inl λ⟨a,b⟩=> .inr ⟨λx hx=>(a x hx).same s,b⟩⟩
def We(K:W.Frag)(cs:Cs)(H:Hp)(E:XK)(kv v wv:V):Prop:=Gate K cs H E kv v\/∃ (k:Int) (a:List Nat),kv= .int k/\v=tx a/\1<=k/\k<=4/\Ab k a=true/\NoW K k H wv/\Ref E cs.NoWeights H
def WOk(H:Hp)(k:Int)(v:V)(ws:List Int):Prop:=∃q,v= .ref q/\H q=some (iL ws)/\(ws.length:Int)=2*k/\Sm ws
theorem WOk.same{k:Int}(h:WOk H k v ws)(s:Same H H'):WOk H' k v ws:=let⟨q,a,b,c⟩:=h;⟨q,a,s _ _ b,c⟩
def K7(K:W.Frag)(cs:Cs):Sp:=λvs H Q E=>∃ (k:Int) (v:V),vs=[.int k,v]/\1<=k/\k<=4/\((∃ws,WOk H k v ws/\∀H',Same H H'->Q .non H')\/(NoW K k H v/\Ref E cs.NoWeights H))
def F9(K:W.Frag)(cs:Cs):Sp:=λvs H Q E=>∃kv v wv,vs=[kv,v,wv]/\(We K cs H E kv v wv\/∃ (k:Int) (a:List Nat) (ws:List Int),kv= .int k/\v=tx a/\1<=k/\k<=4/\Ab k a=true/\WOk H k wv ws/\
 ∀r H',H r=none->Same H H'->Pls H' r (a.map (plw ws))->Q (.ref r) H')
def wsm(k:Nat)(ws:List Int)(a:List Nat):Int:=cv (PP (a.map (plw ws))) k a.length 0 []
def NoB(K:W.Frag)(k:Int)(H:Hp)(v:V):Prop:=(∃a,v=tx a/\a.length<=1000/\∀c,a=[c]->c∉brs.take (2*k).toNat)\/∃ty,TyOf K H v (.type ty)/\ty∈B6/\ty≠"str"
def K8(K:W.Frag)(cs:Cs):Sp:=λvs H Q E=>∃ (k:Int) (v:V),vs=[.int k,v]/\1<=k/\k<=4/\((∃c,v=tx [c]/\c∈brs.take (2*k).toNat/\Q .non H)\/(NoB K k H v/\Ref E cs.NoPlace H))
theorem FO{k:Int}{a:List Nat}(h1:1<=k)(hk:k<=4)(hl:(ws.length:Int)=2*k)(hs:Sm ws):∀l∈a.map (plw ws),l.length=2*k.toNat/\Sm l:=λl hl'=>by
 obtain⟨c,_,rfl⟩:=List.mem_map.mp hl';exact⟨by rw[L8 (by lia)];lia,Mv hs c⟩
def Jy(K:W.Frag)(cs:Cs):Sp:=λvs H Q E=>∃kv v,vs=[kv,v]/\(Gate K cs H E kv v\/∃ (k:Int) (a:List Nat),kv= .int k/\v=tx a/\1<=k/\k<=4/\Ab k a=true/\
 ((Rt a/\∀r xs H',H r=none->Same H H'->H' r=some (.lst xs)->IsPart a xs->Q (.ref r) H')\/(¬Rt a/\Ref E cs.NotRight H)))
end BrS
namespace L2
section
variable{σ:W2}{Q:VK}{D:Ends}
theorem Mm{ty:TE}(h:tv σ H λv H1=>td σ H1 λx H2=>ty σ H2 λy H3=>∃a H4,x= .ref a/\DPut H3 a y v H4/\D.nx σ H4):JV td ty tv D σ H:=h
end
end L2
namespace BrS
theorem Mc{k:Nat}(r:Room k A):A.units+1<cLine:=by have:=r.un;lia
end BrS
namespace BrT
variable{a:Addr}{o:Array Nat}{e:Int×Value}{es:List (Int×Value)}{d:Nat}{f:Nat->Value}{P:Nat->Value->Prop}{Q:Option Value->Shared->Prop}{t':SetTable}
def Rise(a:Array Nat):Prop:=a.toList.Pairwise (· < ·)
theorem Rise.lt{a:Array Nat}(r:Rise a){x y:Nat}(hij:i<j)(hx:a[i]? =some x)(hy:a[j]? =some y):x<y:=by
 have hx':a.toList[i]? =some x:=by simpa using hx
 have hy':a.toList[j]? =some y:=by simpa using hy
 obtain⟨hi,rfl⟩:=List.getElem?_eq_some_iff.mp hx';obtain⟨hj,rfl⟩:=List.getElem?_eq_some_iff.mp hy';exact(List.pairwise_iff_getElem.mp r) i j hi hj hij
theorem IC(xs:Array Nat)(r:Rise xs)(j:Nat):∀ (f lo hi:Nat),hi-lo<=f->lo<=hi->hi<=xs.size->(∀i x,i<lo->xs[i]? =some x->x<j)->(∀i x,hi<=i->xs[i]? =some x->j<=x)->
 SetTable.below.go xs j f lo hi<=xs.size/\(∀i x,i<SetTable.below.go xs j f lo hi->xs[i]? =some x->x<j)/\(∀i x,SetTable.below.go xs j f lo hi<=i->xs[i]? =some x->j<=x)
 |0,lo,hi,hf,h1,h2,ha,hb=>by
  have:lo=hi:=by lia
  subst this;unfold SetTable.below.go;exact⟨h2,ha,hb⟩
 |f+1,lo,hi,hf,h1,h2,ha,hb=>by
  unfold SetTable.below.go
  by_cases hlt:lo<hi
  ·rw[if_pos hlt]
   dsimp only
   have hm1:(lo+hi)/2<hi:=by lia
   have hm2:lo<=(lo+hi)/2:=by lia
   have hm:(lo+hi)/2<xs.size:=by lia
   have hget:xs[(lo+hi)/2]? =some xs[(lo+hi)/2]:=Array.getElem?_eq_getElem hm;have hD:xs.getD ((lo+hi)/2) j=xs[(lo+hi)/2]:=by simp[Array.getD,hm]
   rw[hD]
   by_cases hc:xs[(lo+hi)/2]<j
   ·rw[if_pos hc];refine IC xs r j f _ _ (by lia) (by lia) h2 (λi x hi' hx=>?_) hb
    by_cases he:i=(lo+hi)/2
    ·subst he;rw[hget]at hx;cases hx;exact hc
    ·exact Nat.lt_trans (r.lt (by lia) hx hget) hc
   ·rw[if_neg hc];refine IC xs r j f _ _ (by lia) (by lia) (by lia) ha (λi x hi' hx=>?_)
    by_cases he:i=(lo+hi)/2
    ·subst he;rw[hget]at hx;cases hx;lia
    ·have:=r.lt (show(lo+hi)/2<i by lia) hget hx;lia
  ·rw[if_neg hlt];have:lo=hi:=by lia
   subst this;exact⟨h2,ha,hb⟩
theorem Fb(r:Rise xs)(j:Nat):SetTable.below xs j<=xs.size/\(∀i x,i<SetTable.below xs j->xs[i]? =some x->x<j)/\(∀i x,SetTable.below xs j<=i->xs[i]? =some x->j<=x):=
 IC xs r j xs.size 0 xs.size (by lia) (Nat.zero_le _) (Nat.le_refl _) (λi x h=>absurd h (Nat.not_lt_zero _)) λi x h hx=>by
  have:=Array.getElem?_eq_none (xs:=xs) h;rw[this]at hx;cases hx
theorem QW(r:Rise xs){x:Nat}(hx:xs[i]? =some x):SetTable.below xs (x+1)=i+1:=by
 obtain⟨h1,h2,h3⟩:=Fb r (x+1);have hi:i<xs.size:=(Array.getElem?_eq_some_iff.mp hx).1;rcases Nat.lt_trichotomy (SetTable.below xs (x+1)) (i+1)with h|h|h
 ·have:=h3 i x (by lia) hx;lia
 ·exact h
 ·have hi1:i+1<xs.size:=by lia
  have hg:xs[i+1]? =some xs[i+1]:=Array.getElem?_eq_getElem hi1;have a:=h2 (i+1) _ h hg;have b:=r.lt (Nat.lt_succ_self i) hx hg;lia
theorem QV(r:Rise xs):SetTable.below xs 0=0:=by
 obtain⟨h1,h2,h3⟩:=Fb r 0;rcases Nat.eq_zero_or_pos (SetTable.below xs 0)with h|h
 ·exact h
 ·have hg:xs[0]? =some (xs[0]'(by lia)):=Array.getElem?_eq_getElem _;have:=h2 0 _ h hg;lia
theorem O9(xs:Array α)(p:Nat)(x:α):(SetTable.insertAt xs p x).toList=xs.toList.take p++x::xs.toList.drop p:=by
 unfold SetTable.insertAt;simp;rw[List.take_of_length_le (by simp)]
theorem Rise.insert(r:Rise xs)(hj:∀i:Nat,xs[i]? ≠some j):Rise (SetTable.insertAt xs (SetTable.below xs j) j):=by
 obtain⟨h1,h2,h3⟩:=Fb r j;generalize SetTable.below xs j=p at*
 unfold Rise;rw[O9];refine List.pairwise_append.mpr ⟨List.Pairwise.sublist (List.take_sublist _ _) r,List.pairwise_cons.mpr ⟨λy hy=>?_,List.Pairwise.sublist (List.drop_sublist _ _) r⟩,λy hy z hz=>?_⟩
 ·obtain⟨i,hi,e⟩:=List.mem_iff_getElem.mp hy;rw[List.getElem_drop]at e;have hg:xs[p+i]? =some y:=by rw[<-Array.getElem?_toList,<-e];exact List.getElem?_eq_getElem _
  have a:=h3 (p+i) y (by lia) hg;have b:=hj (p+i);have c:y≠j:=λe2=>b (e2▸hg);lia
 ·obtain⟨i,hi,e⟩:=List.mem_iff_getElem.mp hy;have hip:i<p:=by have:=hi;rw[List.length_take]at this;lia
  rw[List.getElem_take]at e;have hg:xs[i]? =some y:=by rw[<-Array.getElem?_toList,<-e];exact List.getElem?_eq_getElem _
  have hyj:=h2 i y hip hg;rcases List.mem_cons.mp hz with rfl|hz
  ·exact hyj
  ·obtain⟨k,hk,e2⟩:=List.mem_iff_getElem.mp hz;rw[List.getElem_drop]at e2;have hg2:xs[p+k]? =some z:=by rw[<-Array.getElem?_toList,<-e2];exact List.getElem?_eq_getElem _
   have:=h3 (p+k) z (by lia) hg2;lia
theorem Kd(r:Rise t.place)(h:t.place[SetTable.below t.place d]? ≠some d):∀i:Nat,t.place[i]? ≠some d:=by
 obtain⟨h1,h2,h3⟩:=Fb r d;intro i hi;rcases Nat.lt_or_ge i (SetTable.below t.place d)with hl|hl
 ·have:=h2 i d hl hi;lia
 ·have hlt:SetTable.below t.place d<t.place.size:=Nat.lt_of_le_of_lt hl (Array.getElem?_eq_some_iff.mp hi).1;have hg:t.place[SetTable.below t.place d]? =some _:=Array.getElem?_eq_getElem hlt;have a:=h3 _ _ (Nat.le_refl _) hg;rcases Nat.eq_or_lt_of_le hl with e|e
  ·rw[<-e]at hi;exact h hi
  ·have:=r.lt e hg hi;lia
theorem LC(h:t.slot d= .empty\/t.slot d= .dummy):t.place[SetTable.below t.place d]? ≠some d:=by
 intro e;unfold SetTable.slot at h;simp[e]at h
theorem Hk(t:SetTable)(f:Nat->Int)(h:Int):∀ (n:Nat) (p:SetTable.Probe) (j:Nat) (d:Option Nat),(∀x,p.dummy=some x->t.slot x= .dummy)->SetTable.probe.go t f h n p=some (.empty j d)->(t.slot j= .empty)/\∀x,d=some x->t.slot x= .dummy
 |0,p,j,d,hp,e=>by unfold SetTable.probe.go at e;cases e
 |n+1,p,j,d,hp,e=>by
  unfold SetTable.probe.go at e
  cases hs:t.slot p.j with
  |empty=>rw[hs]at e;simp at e;obtain⟨rfl,rfl⟩:=e;exact⟨hs,hp⟩
  |dummy=>
   rw[hs]at e;refine Hk t f h n _ j d (λx hx=>?_) e;have:(t.advance {p with dummy:=some p.j}).dummy=some p.j:=by unfold SetTable.advance;dsimp only;split<;>rfl
   rw[this]at hx;cases hx;exact hs
  |live i=>
   rw[hs]at e
   dsimp only at e
   split at e
   ·cases e
   ·refine Hk t f h n _ j d (λx hx=>?_) e;have:(t.advance p).dummy=p.dummy:=by unfold SetTable.advance;dsimp only;split<;>rfl
    rw[this]at hx;exact hp x hx
theorem SM(r:Rise t.place){h:Int}{b:Bool}(e:t.freeSlot h=some (j,b)):∀i:Nat,t.place[i]? ≠some j:=by
 unfold SetTable.freeSlot at e
 split at e
 ·rename_i j0 d hq
  obtain⟨h1,h2⟩:=Hk t _ _ _ _ j0 d (λx hx=>by unfold SetTable.probeStart at hx;cases hx) hq;simp at e;obtain⟨e1,e2⟩:=e
  cases d with
  |none=>simp at e1;subst e1;exact Kd r (LC (.inl h1))
  |some x=>simp at e1;subst e1;exact Kd r (LC (.inr (h2 x rfl)))
 ·cases e
theorem P7(n:Nat):Rise (Array.range n):=by
 unfold Rise;rw[Array.toList_range];exact List.pairwise_lt_range
def Tb(l:Bool)(t:SetTable):Prop:=Rise t.place/\t.led=l
theorem Tb.standIn{l:Bool}(h:Tb l t)(n:Nat):Tb l (t.standIn n):=⟨P7 n,h.2⟩
theorem Q2{l:Bool}(h:Tb l t)(es:Array (Int×Value))(hs:Int)(x:Value):Tb l (layNew t es hs x).2.1:=by
 unfold layNew
 cases e:t.freeSlot hs with
 |none=>exact h.standIn _
 |some sb=>
  obtain⟨sl,b⟩:=sb;have r:=h.1.insert (SM h.1 e);have h':Tb l (t.put sl).1:=⟨r,h.2⟩;show Tb l (SetTable.orStandIn (t.put sl).1 _);unfold SetTable.orStandIn
  split
  ·exact h'
  ·exact h'.standIn _
theorem UG{f mv:Nat}{l p:Bool}(e:SetTable.laid m f mv l p hs=some (t,o)):Tb l t:=by
 unfold SetTable.laid at e
 cases hl:SetTable.layClean m hs with
 |none=>rw[hl]at e;cases e
 |some ow=>
  rw[hl]at e;simp at e;obtain⟨e1,e2⟩:=e;subst e1;refine⟨?_,rfl⟩;unfold Rise;simp only[];refine List.Pairwise.map _ (λa b h=>h) (R:=fun(a b:Nat×Nat)=>a.1<b.1) ?_;refine List.Pairwise.filterMap _ (R:=fun(a b:Nat)=>a<b) (λa b hab c hc d hd=>?_) List.pairwise_lt_range;simp at hc hd;obtain⟨_,_,rfl⟩:=hc;obtain⟨_,_,rfl⟩:=hd;exact hab
theorem Pa{l:Bool}(h:Tb l t)(es:Array (Int×Value))(wn:Nat):Tb l (relayAll t es wn).2.1:=by
 unfold relayAll
 cases e:t.relaid (es.map (·.1)) wn with
 |none=>exact h.standIn _
 |some p=>
  obtain⟨t',o⟩:=p
  dsimp only
  unfold SetTable.relaid at e;have:=UG e
  split
  ·exact⟨this.1,this.2.trans h.2⟩
  ·exact h.standIn _
def keyOf(e:Int×Value):Int:=match e.2 with| .int k _=>k|_=>0
theorem int_of{k:Int}(h:(intKind prog w).is k v=true):∃t,v= .int k t:=Value.isInt_shape h
theorem key_of{k:Int}(h:(intKind prog w).is k e.2=true):keyOf e=k:=by
 obtain⟨t,ht⟩:=int_of h;unfold keyOf;rw[ht]
theorem LU(h:ElemsOf (intKind prog w) es)(he:e∈es):(intKind prog w).is (keyOf e) e.2=true:=by
 obtain⟨⟨k,hk,_⟩,_⟩:=h e he;rw[key_of hk];exact hk
theorem MK:∀ {es:List (Int×Value)},ElemsOf (intKind prog w) es->IntsAre (es.map (·.2)) (es.map keyOf)
 |[],_=> .nil
 |e::r,h=>by
  obtain⟨t,ht⟩:=int_of (LU h (.head _));rw[List.map_cons,List.map_cons,ht];exact .cons _ _ (MK h.tail)
def SO(prog:Program)(w:World)(l:Bool)(es:Array (Int×Value))(t:SetTable)(ms:List Int):Prop:=
 ElemsOf (intKind prog w) es.toList/\(es.toList.map keyOf).Nodup/\(∀k,k∈es.toList.map keyOf↔k∈ms)/\es.size<=ms.length/\t.fits es.size=true/\Tb l t
def SI(prog:Program)(w:World)(l:Bool)(h:Heap)(a:Addr)(ms:List Int):Prop:=
 ∃o es ep t,h.get? a=some o/\o.ExactSet/\o.data= .set es ep t/\SO prog w l es t ms
theorem SI.at{l:Bool}(i:SI prog w l h a ms)(k:∀o,h.get? a=some o->h'.get? a=some o):SI prog w l h' a ms:=
 let⟨o,es,ep,t,ho,r⟩:=i;⟨o,es,ep,t,k o ho,r⟩
theorem SO.perm{l:Bool}{es:Array (Int×Value)}(i:SO prog w l es t ms)(p:List.Perm es'.toList es.toList)(f:t'.fits es'.size=true)(b:Tb l t'):SO prog w l es' t' ms:=by
 obtain⟨a1,a2,a3,a4,a5,a6⟩:=i;have hs:es'.size=es.size:=by rw[<-Array.length_toList,p.length_eq,Array.length_toList]
 exact⟨a1.perm p,(p.map keyOf).nodup_iff.mpr a2,λk=>((p.map keyOf).mem_iff).trans (a3 k),by lia,f,b⟩
theorem stored{l:Bool}{o:Obj}{es:Array (Int×Value)}(ho:h.get? a=some o)(hex:o.ExactSet)(hd:o.data= .set es ep t)(i:SO prog w l es' t' ms):
 (h.update a (Obj.putSet es' t')).get? a=some {o with data:= .set es' (ep+1) t'}/\SI prog w l (h.update a (Obj.putSet es' t')) a ms:=by
 have g:=Heap.get?_update_self (Obj.putSet es' t') ho (by rw[putSet_of es' t' hd];rfl);rw[putSet_of es' t' hd]at g;exact⟨g,_,es',ep+1,t',g,hex,rfl,i⟩
theorem Lg(hg:∀ (b:Bool) (s₁:Shared) (Q':Unit->Shared->Prop),Q' () s₁->wpAny (model prog w) A (gw b) Q' E s₁){l:Bool}{o:Obj}{es es1:Array (Int×Value)}{t2:SetTable}(ho:s.heap.get? a=some o)(hex:o.ExactSet)(hd:o.data= .set es ep t)
 (i:SO prog w l es1 t2 ms) (hb:ms.length<scanBound) {dm:Bool} {R:Option Bool->Shared->Prop} (q:∀h',Heap.SameBut a s.heap h'->SI prog w l h' a ms->R (some true) {s with heap:=h'}):
 wpAny (model prog w) A (do
  storeSet a es1 t2
  if(!dm&&t2.tooFull)=true then do
   gw (relayAll t2 es1 (SetTable.grown es1.size)).2.2
   storeSet a (relayAll t2 es1 (SetTable.grown es1.size)).1 (relayAll t2 es1 (SetTable.grown es1.size)).2.1
   pure (some true)
  else pure (some true)) R E s:=by
 have hz1:es1.size<=sizeLine:=fits_of_scanBound (Nat.lt_of_le_of_lt i.2.2.2.1 hb);refine wpAny_bind (wpAny_storeSet_of ho hd ?_ hz1);obtain⟨g1,i1⟩:=stored ho hex hd i;have sb:=Heap.SameBut.update s.heap a (Obj.putSet es1 t2)
 split
 ·have p:=relayAll_perm t2 es1 (SetTable.grown es1.size);have f:=relayAll_fits t2 es1 (SetTable.grown es1.size);have b:=Pa i.2.2.2.2.2 es1 (SetTable.grown es1.size);generalize relayAll t2 es1 (SetTable.grown es1.size)=Rl at p f b⊢;obtain⟨es2,t3,gv⟩:=Rl
  dsimp only at p f b⊢
  have i2:=i.perm p f b;refine wpAny_bind (hg _ _ _ (wpAny_bind (wpAny_storeSet_of g1 rfl ?_ (fits_of_scanBound (Nat.lt_of_le_of_lt i2.2.2.2.1 hb)))));exact wpAny_pure (q _ (sb.trans (Heap.SameBut.update _ a _)) (stored g1 hex rfl i2).2)
 ·exact wpAny_pure (q _ sb i1)
theorem P5{l:Bool}{k:Int}{tk:Tok}{Q:Bool->Shared->Prop}(i:SI prog w l s.heap a ms)(hb:ms.length+1<scanBound)
 (q:∀b h',Heap.SameBut a s.heap h'->SI prog w l h' a (ms++[k])->Q b {s with heap:=h'}):wpAny (model prog w) A (setAddHashed a (.int k tk) (hashInt k)) Q E s:=by
 obtain⟨o,es,ep,t,ho,hex,hd,hel,hnd,hmem,hsz,hf,htb⟩:=i;have hkey:(intKind prog w).is k (.int k tk)=true:=intKind_is _ _ _ _;have hes:es.size<scanBound:=by lia
 unfold setAddHashed setAddHashedIn;refine wpAny_holding (wpAny_bind (wpAny_setState_of ho hd hf ?_))
 dsimp only
 rw[byScan_of (knd:=intKind prog w) rfl hes hel];simp only[↓reduceIte];unfold setAddByScan;refine wpAny_bind (wpAny_bind (wpAny_rule (wpAny_bind (wpAny_setScan_of (knd:=intKind prog w) hkey ho hd hf hel ?_))))
 cases hr:List.findIdx? (λe=>(intKind prog w).is k e.2) es.toList with
 |some j=>
  dsimp only
  obtain⟨hj,hpj,_⟩:=List.findIdx?_eq_some_iff_getElem.mp hr;have hk:k∈ms:=(hmem k).mp (by rw[<-key_of hpj];exact List.mem_map_of_mem (List.getElem_mem hj));refine wpAny_pure (wpAny_pure ?_);have es0:s={s with heap:=s.heap}:=by cases s;rfl
  rw[es0];refine q _ s.heap (Heap.SameBut.refl a s.heap) ⟨o,es,ep,t,ho,hex,hd,hel,hnd,λk'=>(hmem k').trans ⟨λz=>List.mem_append_left _ z,λz=>?_⟩,by rw[List.length_append];lia,hf,htb⟩;rcases List.mem_append.mp z with z|z
  ·exact z
  ·rw[List.mem_singleton.mp z];exact hk
 |none=>
  dsimp only
  have hk:k∉es.toList.map keyOf:=λz=>by
   obtain⟨e,he,hek⟩:=List.mem_map.mp z;have z1:=List.findIdx?_eq_none_iff.mp hr e he;rw[<-hek,LU hel he]at z1
   cases z1
  have p:=layNew_perm t es (hashInt k) (.int k tk);have f:=layNew_fits t es (hashInt k) (.int k tk);have b:=Q2 htb es (hashInt k) (.int k tk);show wpAny _ _ (match layNew t es (hashInt k) (.int k tk)with|(es,t,wasDummy,gave)=>_) _ _ _;generalize layNew t es (hashInt k) (.int k tk)=Ln at p f b⊢;obtain⟨es1,t1,dm,gv⟩:=Ln
  dsimp only at p f b⊢
  rw[Array.toList_push]at p;have hz:es1.size=es.size+1:=by rw[<-Array.length_toList,p.length_eq,List.length_append,Array.length_toList];rfl
  have kk:keyOf (hashInt k, .int k tk)=k:=rfl;have i1:SO prog w l es1 t1 (ms++[k]):=by
   refine⟨(hel.push hkey rfl).perm p,(p.map keyOf).nodup_iff.mpr ?_,λk'=>((p.map keyOf).mem_iff).trans ?_,by rw[hz,List.length_append];simp;lia,f,b⟩
   ·rw[List.map_append,List.map_cons,List.map_nil,kk];exact List.nodup_append.mpr ⟨hnd,by simp,λx hx y hy=>by rw[List.mem_singleton.mp hy];exact λe=>hk (e▸hx)⟩
   ·rw[List.map_append,List.map_cons,List.map_nil,kk,List.mem_append,List.mem_append,hmem k']
  have gwh:∀ (b:Bool) {s₁:Shared} {Q':Unit->Shared->Prop},Q' () s₁->wpAny (model prog w) A (match b with|true=>rule "set.scan.the-table-gave-way"|false=>pure ()) Q' E s₁:=
   λb s₁ Q' hq=>by cases b<;>first|exact wpAny_pure hq|exact wpAny_rule hq
  refine wpAny_bind (gwh _ ?_);have hb':(ms++[k]).length<scanBound:=by rw[List.length_append];simpa using hb
  split
  ·refine wpAny_bind ?_;rw[hashByValue_scannable 8 (x:= .int k tk) rfl];refine wpAny_pure ?_;refine Lg ?_ ho hex hd (t2:=if plainKind (.int k tk)=true then t1 else{t1 with plain:=false}) (show SO prog w l es1 _ (ms++[k])from i1) hb' ?_
   ·intro b s₁ Q' hq;cases b<;>first|exact wpAny_pure hq|exact wpAny_rule hq
   ·intro h' sb z;dsimp only;exact wpAny_pure (q _ h' sb z)
  ·refine wpAny_bind (wpAny_pure ?_);simp only[↓reduceIte];refine Lg ?_ ho hex hd i1 hb' ?_
   ·intro b s₁ Q' hq;cases b<;>first|exact wpAny_pure hq|exact wpAny_rule hq
   ·intro h' sb z;dsimp only;exact wpAny_pure (q _ h' sb z)
theorem TV{wr:List Addr}{W2:Nat->Shared->Prop}{l:Bool}(ns:List Int)(W:WalksS prog w A.in1 I fp wr G ns.length P W2)(S:Addr)(hS:S∉fp)
 (hv:∀i v,i<ns.length->P i v->∃t,v= .int (ns.getD i 0) t) (hb:ns.length+1<scanBound):∀ (k i:Nat) (s:Shared),ns.length-i=k->i<=ns.length->W2 i s->SI prog w l s.heap S (ns.take i)->
   (∀s',Moved (S::wr) G s s'->SI prog w l s'.heap S ns->R (.ok (.ret .none)) s')->codeAny (model prog w) A (.builtin "set.update.loop" ⟨[.ref S, .ref I],[]⟩) R s:=by
 have hSw:S∉wr:=λz=>hS (W.sub _ z);have up:∀b∈wr,b∈S::wr:=λb z=> .tail _ z;intro k
 induction k with
 |zero=>
  intro i s hk hi st hI q;have e:i=ns.length:=by lia
  subst e;refine codeAny_builtin F.entry_set_update_loop ?_;rw[Around.under_plainId F.plain_set_update_loop _];show wpAny _ A.in1 (pyNext (.ref I)>>=_) _ _ s;refine wpAny_bind (W.done s _ _ st λs' mv=>?_);show wpAny _ A.in1 (ret Value.none) _ _ s';refine wpAny_pure (q s' (mv.mono up) ?_);rw[List.take_length]at hI;exact hI.at λo ho=>mv.heap S o hSw ho
 |succ k ih=>
  intro i s hk hi st hI q;have lt:i<ns.length:=by lia
  refine codeAny_builtin F.entry_set_update_loop ?_;rw[Around.under_plainId F.plain_set_update_loop _];show wpAny _ A.in1 (pyNext (.ref I)>>=_) _ _ s;refine wpAny_bind (W.item i s _ _ lt st λv s' hP st' mv=>?_);obtain⟨t,rfl⟩:=hv i v lt hP;have hI':=hI.at (h':=s'.heap) λo ho=>mv.heap S o hSw ho;have lt':(ns.take i).length+1<scanBound:=by rw[List.length_take];lia
  have en:ns.take i++[ns.getD i 0]=ns.take (i+1):=by
   rw[List.take_add_one,List.getElem?_eq_getElem lt,List.getD_eq_getElem?_getD,List.getElem?_eq_getElem lt];rfl
  show wpAny _ A.in1 (holding [Value.int (ns.getD i 0) t] (setAdd S (.int (ns.getD i 0) t))>>=_) _ _ s';refine wpAny_bind (wpAny_holding ?_);unfold setAdd;refine wpAny_holding (wpAny_bind ((intKind prog w).pyHash (k:=ns.getD i 0) (intKind_is _ _ _ _) ?_));refine P5 (s:={s' with toks:=s'.toks+1}) hI' lt' λb h' sb hI2=>?_;rw[en]at hI2;refine wpAny_pure ⟨plainId_quiet F.plain_set_update_loop _,ih (i+1) _ (by lia) lt (W.frame _ s' _ _ st' (Nat.le_succ _) λc hc o e=>?_) hI2 λs2 mv2 hI3=>?_⟩
  ·rw[sb.2 c (λz:c=S=>hS (z▸hc))];exact e
  ·refine q s2 (Moved.trans W.gtrans ((mv.mono up).then_heap (Nat.le_succ _) λc o hc e=>?_) mv2) hI3;rw[sb.2 c (λz:c=S=>hc (z▸List.mem_cons_self))];exact e
def byT(w:World):Bool:=w.params.followText "set-order"
theorem UD(a:Value){Q:Value->Shared->Prop}(q:Q (.ref s.heap.objs.size) {s with heap:=s.heap.push {cls:= .type "set",dict:=none,data:= .set #[] 0 (.fresh 0 0 (!byT w))}}):
 codeAny (model prog w) A (.call (.builtin "set.__new__") ⟨[.type "set",a],[]⟩) (wants Q E) s:=by
 refine codeAny_of_tree ?_;show wpAny _ A.in1 (do checkBuiltinCall "set.__new__" ⟨[.type "set",a],[]⟩;again (.builtin "set.__new__" ⟨[.type "set",a],[]⟩)) _ _ s;refine wpAny_bind (wpAny_of_eq (F.newCall_set_1 a) (wpAny_pure ⟨plainId_quiet F.plain_set_new _,codeAny_builtin F.entry_set_new ?_⟩));rw[Around.under_plainId F.plain_set_new _];unfold Builtin.«set.__new__» Builtin.Frozenset.newClass;have hsub:=sub_set_self;obtain⟨hp,g,d,tk,os⟩:=s
 dsimp only
 wp_walk
 refine wpAny_askSetting (wpAny_pure ?_)
 dsimp only
 simp only[newObj];refine wpAny_bind (wpAny_alloc (wpAny_pure ?_));exact wpAny_pure q
theorem Vz{l:Bool}{o:Obj}(e:h.get? a=some o)(eo:o={cls:= .type "set",dict:=none,data:= .set #[] 0 (.fresh 0 0 l)}):SI prog w l h a []:=by
 subst eo;exact⟨_,#[],0, .fresh 0 0 l,e,⟨rfl,rfl,rfl⟩,rfl,λe he=>by simp at he,by simp,by simp,Nat.le_refl _,rfl,List.Pairwise.nil,rfl⟩
theorem call_set{l:Addr}{Q:Value->Shared->Prop}(hh:A.handled=none)(hl:s.heap.IsList l items)(hi:IntsAre items.toList ns)(hb:ns.length+1<scanBound)
 (q:∀ (h':Heap) (tk:Nat),SI prog w (!byT w) h' s.heap.objs.size ns->(∀b o,b<s.heap.objs.size->s.heap.get? b=some o->h'.get? b=some o)->s.heap.objs.size<h'.objs.size->Q (.ref s.heap.objs.size) {s with heap:=h',toks:=tk}):
 wpAny (model prog w) A (call (.type "set") [.ref l]) Q E s:=by
 obtain⟨c,tl,hmro⟩:=F.called_set.mro;have hmade:=F.called_set.made;have hsub:=F.called_set.sub;have hlen:items.size=ns.length:=by rw[<-Array.length_toList,IntsAre.length hi]
 refine wpAny_call (codeAny_of_tree ?_);show wpAny _ _ (callAny (.type "set") _) _ _ _;refine wpAny_pure ⟨Code.quiet_builtin _ (by decide +kernel),codeAny_builtin F.entry_type_call ?_⟩;rw[Around.under_plain (weight_type_call_type "set" [.ref l] []) rfl];have h1:=F.called_set.notType;have h2:=F.called_set.canCreate;have hct:=F.typeCall_set_1 (.ref l)
 repeat(any_goals(first|assumption|wp_step))
 refine codeAny_mono (UD (.ref l) (E:=E) (Q:=λobj s₁=>obj= .ref s.heap.objs.size/\s₁={s with heap:=s.heap.push {cls:= .type "set",dict:=none,data:= .set #[] 0 (.fresh 0 0 (!byT w))}}) ⟨rfl,rfl⟩) λr s₁ hr=>?_
 cases r with
 |error e=>exact hr
 |ok fl=>
  cases fl with
  |ret obj=>
   obtain⟨rfl,rfl⟩:=hr;have hS:(s.heap.push ({cls:= .type "set",dict:=none,data:= .set #[] 0 (.fresh 0 0 (!byT w))}:Obj)).get? s.heap.objs.size=some ({cls:= .type "set",dict:=none,data:= .set #[] 0 (.fresh 0 0 (!byT w))}:Obj):=Heap.get?_push_size _ rfl;have hT:Shared.TypeIs {s with heap:=s.heap.push ({cls:= .type "set",dict:=none,data:= .set #[] 0 (.fresh 0 0 (!byT w))}:Obj)} (.ref s.heap.objs.size) "set":=⟨_,hS,rfl⟩;have hli:=F.called_set.init.lookup;have hbi:=F.called_set.init.bind (.ref s.heap.objs.size)
   repeat(any_goals(first|assumption|wp_step))
   refine codeAny_mono (codeAny_call_builtin (R:=wants (λr s₂=>r= .none/\∃h' tk,s₂={s with heap:=h',toks:=tk}/\SI prog w (!byT w) h' s.heap.objs.size ns/\(∀b o,b<s.heap.objs.size->s.heap.get? b=some o->h'.get? b=some o)) E) F.called_set.init.plain F.entry_set_init (check_set_init_1 hT ?_)) λr₂ s₂ hr₂=>?_
   ·obtain⟨ol,hol,hcl,nl,hdl⟩:=hl;obtain⟨ocls,odict,odata,oslots⟩:=ol;simp only at hcl hdl;subst hcl;subst hdl;have hol':(s.heap.push ({cls:= .type "set",dict:=none,data:= .set #[] 0 (.fresh 0 0 (!byT w))}:Obj)).get? l=some {cls:= .type "list",dict:=odict,data:= .seq items nl,slots:=oslots}:=Heap.get?_push_of_some _ hol;have hsls:=F.sub_list_set;have hslf:=F.sub_list_frozenset;have hne:(Value.type "list"==Value.type "dict")=false:=by decide
    have hl1:(s.heap.push ({cls:= .type "set",dict:=none,data:= .set #[] 0 (.fresh 0 0 (!byT w))}:Obj)).IsList l items:=⟨_,hol',rfl,nl,rfl⟩;unfold Builtin.«set.__init__» noKeywords Builtin.Frozenset.updateFrom;generalize hPI:pyIter=PI
    wp_walk
    subst hPI;refine wpAny_pyIter_list hl1 ?_;refine wpAny_bind (wpAny_runValue ?_);have hlS:l<s.heap.objs.size:=Heap.lt_size hol;have hsz:(s.heap.push ({cls:= .type "set",dict:=none,data:= .set #[] 0 (.fresh 0 0 (!byT w))}:Obj)).objs.size=s.heap.objs.size+1:=Heap.size_push ..;have hh3:A.in1.in1.in1.handled=none:=by simp[hh]
    have hneI:l≠(s.heap.push ({cls:= .type "set",dict:=none,data:= .set #[] 0 (.fresh 0 0 (!byT w))}:Obj)).objs.size:=by rw[hsz];exact Nat.ne_of_lt (Nat.lt_succ_of_lt hlS)
    have hSf:s.heap.objs.size∉[(s.heap.push ({cls:= .type "set",dict:=none,data:= .set #[] 0 (.fresh 0 0 (!byT w))}:Obj)).objs.size,l]:=by
     rw[hsz];simp only[List.mem_cons,List.not_mem_nil,or_false,not_or];exact⟨Nat.ne_of_lt (Nat.lt_succ_self _),Nat.ne_of_gt hlS⟩
    have W:=(Walks.list (prog:=prog) (w:=w) hh3 _ l hneI items).toS;rw[hlen]at W;refine TV (l:= !byT w) ns W s.heap.objs.size hSf (λi v _ z=>IntsAre.int_at hi i v (by rw[Array.getElem?_toList];exact z)) hb (ns.length-0) 0 _ rfl (Nat.zero_le _) ⟨⟨_,Heap.get?_push_size _ rfl,rfl,rfl⟩,(hl1.push _)⟩ (Vz (o:=({cls:= .type "set",dict:=none,data:= .set #[] 0 (.fresh 0 0 (!byT w))}:Obj)) (Heap.get?_push_of_some _ hS) rfl) ?_;intro s' mv hI';obtain⟨h',g',d',tk',os'⟩:=s';have eg:g'=s.gens:=mv.gens;have ed:d'=s.drawn:=mv.drawn;have eo:os'=s.os:=mv.os;subst eg;subst ed;subst eo;show wpAny _ _ _ _ _ _;refine wpAny_pure ?_;show wpAny _ _ (ret Value.none) _ _ _;refine wpAny_pure ⟨rfl,h',tk',rfl,hI',λb o hlt e=>?_⟩;refine mv.heap b o ?_ (Heap.get?_push_of_some _ (Heap.get?_push_of_some _ e));rw[hsz];simp only[List.mem_cons,List.not_mem_nil,or_false,not_or];exact⟨Nat.ne_of_lt hlt,Nat.ne_of_lt (Nat.lt_succ_of_lt hlt)⟩
   ·cases r₂ with
    |error e=>exact hr₂
    |ok fl₂=>
     cases fl₂ with
     |ret r=>
      obtain⟨rfl,h',tk,rfl,hI',hk'⟩:=hr₂
      repeat(any_goals(first|assumption|wp_step))
      refine q _ _ hI' hk' ?_;obtain⟨o,es,ep,t,ho,_⟩:=hI';exact Heap.lt_size ho
     |_=>exact hr₂.elim
  |_=>exact hr.elim
theorem VS:Manifest.owners.lookup (String.ofList ['r','o','t','a','r','e','t','i','_','t','e','s'].reverse)=some Manifest.sig_set_iterator:=by kernel_rfl
theorem si_next:Slot "set_iterator" "__next__" "set_iterator.__next__":= .of (owner:="set_iterator") (n:="__next__") (by rw[typeLookup_type,builtinLookup_eq_fast];kernel_rfl) (by decide +kernel) (by decide +kernel) (by decide +kernel) (by first|exact .inl (by decide +kernel)|exact .inr (by decide +kernel)) (by rw[isSubtype_type];kernel_rfl)
theorem LD:entryFor table "set_iterator.__next__"=some Builtin.«set_iterator.__next__»:=entryFor_of_tree (by kernel_rfl)
theorem Lv(a:Value):argsOk "set_iterator.__next__" ⟨[a],[]⟩:=by unfold argsOk;rw[signature?_of (id:="set_iterator.__next__") (n:=['_','_','t','x','e','n','_','_']) (o:=['r','o','t','a','r','e','t','i','_','t','e','s']) (by kernel_rfl) VS];kernel_rfl
theorem On:entryFor table "set.__iter__"=some Builtin.«frozenset.__iter__»:=entryFor_alias (id':="frozenset.__iter__") (by kernel_rfl) rfl (by decide +kernel) (by kernel_rfl)
structure W3 (h:Heap) (I:Addr) (f:Value) (i:Nat) (S:Addr) (n ep:Nat):Prop where
 at_:∃o,h.get? I=some o/\o.cls= .type "set_iterator"/\o.data= .fields #[f, .int i 0, .ref S, .int n 0, .int ep 0]
theorem W3.ty{f:Value}(x:W3 s.heap I f i S n ep):s.TypeIs (.ref I) "set_iterator":=let⟨o,ho,hc,_⟩:=x.at_;⟨o,ho,hc⟩
theorem W3.keep{f:Value}(x:W3 h I f i S n ep)(k:∀o,h.get? I=some o->h'.get? I=some o):W3 h' I f i S n ep:=let⟨o,ho,r⟩:=x.at_;⟨o,k o ho,r⟩
def Seto(h:Heap)(S:Addr)(es:Array (Int×Value))(ep:Nat)(t:SetTable):Prop:=∃o,h.get? S=some o/\o.ExactSet/\o.data= .set es ep t/\t.fits es.size=true
theorem Seto.keep{es:Array (Int×Value)}(x:Seto h S es ep t)(k:∀o,h.get? S=some o->h'.get? S=some o):Seto h' S es ep t:=let⟨o,ho,r⟩:=x;⟨o,k o ho,r⟩
theorem Vv{Q:Nat->Shared->Prop}(hn:n≠0)(q:∀i d,i<n->Q i {s with drawn:=d}):wpAny M A (choose src n) Q E s:=λΓ p hΓ=>by
 show Sem.wp M Γ (.choose src n .pure) _ _ p s;rw[Sem.wp_choose];exact⟨hn,q _ _ (Nat.mod_lt _ (Nat.pos_of_ne_zero hn))⟩
theorem Gx:∀ (l:List α) (i:Nat) (hi:i<l.length),(l[i]::l.eraseIdx i).Perm l
 |x::l,0,_=> .refl _
 |x::l,i+1,hi=>by
  have hi':i<l.length:=by simpa using hi
  have ih:=Gx l i hi';show List.Perm (l[i]::x::l.eraseIdx i) (x::l);exact(List.Perm.swap _ _ _).trans (List.Perm.cons x ih)
theorem J6:∀ (n:Nat) (xs:List α) (s:Shared) (Q:List α->Shared->Prop),xs.length=n->(∀ys d,ys.Perm xs->Q ys {s with drawn:=d})->wpAny M A (drawOrder n xs) Q E s
 |0,xs,s,Q,hn,q=>by
  have e:xs=[]:=List.eq_nil_of_length_eq_zero hn;subst e;unfold drawOrder;exact wpAny_pure (q [] s.drawn .nil)
 |n+1,[],s,Q,hn,q=>by cases hn
 |n+1,x::xs,s,Q,hn,q=>by
  unfold drawOrder;refine wpAny_bind (Vv (by simp) λi d hi=>?_);rw[List.getElem?_eq_getElem hi]
  dsimp only
  refine wpAny_bind (J6 n _ _ _ (by rw[List.length_eraseIdx_of_lt hi];simp only[List.length_cons]at hn⊢;lia) λys d' hp=>wpAny_pure (q _ d' ?_));exact(List.Perm.cons _ hp).trans (Gx _ _ hi)
theorem MA(next:Nat->Nat):∀ (n k:Nat) (l:List α) (out:Array α),l.length=n->(pickOrder.go next n k l out).toList.Perm (out.toList++l)
 |0,k,l,out,hn=>by
  have e:l=[]:=List.eq_nil_of_length_eq_zero hn;subst e;unfold pickOrder.go;simp
 |n+1,k,l,out,hn=>by
  unfold pickOrder.go;have hi:next k%l.length<l.length:=Nat.mod_lt _ (by lia);rw[List.getElem?_eq_getElem hi]
  dsimp only
  refine(MA next n (k+1) _ _ (by rw[List.length_eraseIdx_of_lt hi];lia)).trans ?_;rw[Array.toList_push,List.append_assoc];exact List.Perm.append_left _ (Gx _ _ hi)
theorem Qi(next:Nat->Nat)(xs:Array α):(pickOrder next xs).toList.Perm xs.toList:=by
 have:=MA next xs.size 0 xs.toList #[] (by simp);simpa[pickOrder]using this
def Cf(t:SetTable)(i:Nat):Nat:=if i=0 then 0 else t.place.getD (i-1) 0+1
theorem Px(r:Rise t.place)(hi:i<=t.place.size):SetTable.below t.place (Cf t i)=i:=by
 unfold Cf
 cases i with
 |zero=>exact QV r
 |succ j=>
  rw[if_neg (by lia)];have e:t.place[j]? =some (t.place.getD j 0):=by simp[Array.getD,show j<t.place.size by lia]
  exact QW r e
theorem RD(hf:t.fits n=true):t.place.size=n:=by
 simp only[SetTable.fits,Bool.and_eq_true,beq_iff_eq]at hf;exact hf.1
theorem J1{es:Array (Int×Value)}{Q:Option (Value×Nat)->Shared->Prop}(hb:byT w=false)(hp:t.plain=true\/es.size<=1)(hl:t.led=true)(r:Rise t.place)(so:Seto s.heap S es ep t)(hi:i<=es.size)
 (q:Q ((es[i]?).map λe=>(e.2,Cf t (i+1))) s):wpAny (model prog w) A (setNext S (Cf t i) i ep) Q E s:=by
 obtain⟨os,hos,hex,hds,hfs⟩:=so;have hsz:=RD hfs;unfold setNext;refine wpAny_bind (wpAny_setState_of hos hds hfs ?_)
 dsimp only
 unfold setsByText;refine wpAny_bind (wpAny_bind (wpAny_askSetting (wpAny_pure ?_)));rw[if_neg (by show¬ (byT w=true);rw[hb];decide)]
 split
 ·rename_i z
  have z':(!t.plain&&decide (es.size>1))=true:=z;rcases hp with h|h
  ·rw[h]at z';cases z'
  ·simp at z';lia
 ·refine wpAny_bind ?_;show wpAny _ _ (if(!t.led&& !es.isEmpty)=true then _ else pure ()) _ _ _;rw[if_neg (by rw[hl];simp)];refine wpAny_pure ?_;rw[Px r (by lia)]
  by_cases h:i<es.size
  ·rw[Array.getElem?_eq_getElem h,Array.getElem?_eq_getElem (show i<t.place.size by lia)]at*
   refine wpAny_pure ?_;have e:Cf t (i+1)=t.place[i]'(by lia)+1:=by unfold Cf;simp[Array.getD,show i<t.place.size by lia]
   rw[e]at q;exact q
  ·rw[Array.getElem?_eq_none (by lia)]at*
   exact wpAny_pure q
theorem Kf{es:Array (Int×Value)}{k:Nat}{Q:Option (Value×Nat)->Shared->Prop}(hb:byT w=true)(so:Seto s.heap S es ep t)
 (q:Q (((pickOrder (w.params.setOrder S ep) es)[i]?).map λe=>(e.2,k)) s):wpAny (model prog w) A (setNext S k i ep) Q E s:=by
 obtain⟨os,hos,hex,hds,hfs⟩:=so;unfold setNext setWalk;refine wpAny_bind (wpAny_setState_of hos hds hfs ?_)
 dsimp only
 unfold setsByText;refine wpAny_bind (wpAny_bind (wpAny_askSetting (wpAny_pure ?_)));rw[if_pos (by show byT w=true;exact hb),if_neg (by simp)];refine wpAny_bind (wpAny_bind (wpAny_setState_of hos hds hfs ?_))
 dsimp only
 refine wpAny_bind (wpAny_bind (wpAny_askSetting (wpAny_pure ?_)));rw[if_pos (by show byT w=true;exact hb)];exact wpAny_bind (wpAny_askSetting (wpAny_pure (wpAny_pure q)))
inductive Way (w:World) (S:Addr) (h:Heap) (es:Array (Int×Value)) (ep:Nat) (t:SetTable):(Nat->Value)->List Value->Prop
 |places (hb:byT w=false) (hp:t.plain=true\/es.size<=1) (hl:t.led=true) (r:Rise t.place):Way w S h es ep t (λi=>rawInt (Cf t i:Nat)) (es.toList.map (·.2))
 |text (hb:byT w=true):Way w S h es ep t (λ_=>rawInt (0:Nat)) ((pickOrder (w.params.setOrder S ep) es).toList.map (·.2))
 |draws (T:Addr) (ps:List Nat) (o:Obj) (hT:h.get? T=some o) (hd:∃n,o.data= .seq (ps.map fun(i:Nat)=>rawInt i).toArray n) (hp:ps.Perm (List.range es.size)):Way w S h es ep t (λ_=> .ref T) (ps.map λi=>(es.getD i (0, .none)).2)
theorem Way.perm{es:Array (Int×Value)}(x:Way w S h es ep t f ys):ys.Perm (es.toList.map (·.2)):=by
 cases x with
 |places=>exact .refl _
 |text=>exact(Qi _ _).map _
 |draws T ps o hT hd hp=>
  refine(hp.map _).trans (List.Perm.of_eq ?_);refine List.ext_getElem? λi=>?_;have e0:es.toList[i]? =es[i]? :=by simp
  rw[List.getElem?_map,List.getElem?_map,e0]
  by_cases hi:i<es.size
  ·rw[List.getElem?_range hi,Array.getElem?_eq_getElem hi];simp[Array.getD,hi]
  ·rw[Array.getElem?_eq_none (by lia),List.getElem?_eq_none (by simp;lia)];rfl
theorem Qu{es:Array (Int×Value)}{y:Value}(x:Way w S s.heap es ep t f ys)(so:Seto s.heap S es ep t)(it:W3 s.heap I (f i) i S es.size ep)(hy:ys[i]? =some y)(hf:t.fits es.size=true)
 (q:∀h',W3 h' I (f (i+1)) (i+1) S es.size ep->Heap.SameBut I s.heap h'->Q (some y) {s with heap:=h'}):wpAny (model prog w) A (pyNext (.ref I)) Q E s:=by
 obtain⟨o,ho,hc,hd⟩:=id it.at_;obtain⟨os,hos,hex,hds,hfs⟩:=so;unfold pyNext;refine wpAny_bind (wpAny_attempt (wpAny_callSpecial?_slot (name:=Str.ofString "__next__") it.ty si_next (wpAny_call_entry si_next it.ty LD ?_ (Lv _))));unfold Builtin.«set_iterator.__next__»;refine wpAny_bind (wpAny_pure ?_);refine wpAny_bind (wpAny_fieldsOf ho hd ?_)
 dsimp only
 refine wpAny_bind (wpAny_setEntries_of hos hds hfs ?_);rw[if_neg (by simp)];have two:∀ (k:Nat),f (i+1)=rawInt k->wpAny (model prog w) A.in1 (do setField (Value.ref I) 0 (rawInt k);setField (Value.ref I) 1 (rawInt (i+1));ret y)
  (λfin s'=>∃v,fin=Fin.done (Flow.ret v)/\wpAny (model prog w) A (pure (some v)) Q E s') (λe s'=>wpAny (model prog w) A (do let c<-isInstance e (Value.type "StopIteration");if c=true then pure none else throw e) Q E s') s:=by
  intro k hk;refine wpAny_bind (wpAny_setField ho hd (by simp) ?_);have hd1:(Obj.mapFields (·.setIfInBounds 0 (rawInt k)) o).data= .fields #[rawInt k, .int i 0, .ref S, .int es.size 0, .int ep 0]:=by rw[Obj.data_mapFields hd];simp
  have ho1:=Heap.get?_update_self (Obj.mapFields (·.setIfInBounds 0 (rawInt k))) ho (Obj.isFreed_of_fields hd1);refine wpAny_bind (wpAny_setField ho1 hd1 (by simp) (wpAny_pure ⟨y,rfl,wpAny_pure (q _ ⟨_,Heap.get?_update_self _ ho1 (Obj.isFreed_of_fields (Obj.data_mapFields hd1 _)),?_,?_⟩ ((Heap.SameBut.update ..).trans (Heap.SameBut.update ..)))⟩))
  ·rw[Obj.cls_mapFields,Obj.cls_mapFields];exact hc
  ·rw[Obj.data_mapFields hd1,hk];simp[rawInt]
 cases x with
 |places hb hp hl r=>
  have hi:i<es.size:=by
   rcases Nat.lt_or_ge i es.size with h|h
   ·exact h
   ·rw[List.getElem?_eq_none (by simpa using h)]at hy;cases hy
  show wpAny _ _ (setNext S (Cf t i:Int).toNat (i:Int).toNat (ep:Int).toNat>>=_) _ _ _;refine wpAny_bind (J1 hb hp hl r ⟨os,hos,hex,hds,hfs⟩ (Nat.le_of_lt hi) ?_);rw[List.getElem?_map,Array.getElem?_toList,Array.getElem?_eq_getElem hi]at hy;rw[Array.getElem?_eq_getElem hi];injection hy with hy
  subst hy;exact two _ rfl
 |text hb=>
  show wpAny _ _ (setNext S 0 i ep>>=_) _ _ _;refine wpAny_bind (Kf hb ⟨os,hos,hex,hds,hfs⟩ ?_);rw[List.getElem?_map,Array.getElem?_toList]at hy
  cases hz:(pickOrder (w.params.setOrder S ep) es)[i]? with
  |none=>rw[hz]at hy;cases hy
  |some e=>
   rw[hz]at hy;injection hy with hy
   subst hy;exact two _ rfl
 |draws T ps oT hT hdT hp=>
  obtain⟨nT,hdT⟩:=hdT;show wpAny _ _ (seqItems? (.ref T)>>=_) _ _ _;refine wpAny_bind (wpAny_seqItems hT hdT ?_);rw[List.getElem?_map]at hy
  cases hz:ps[i]? with
  |none=>rw[hz]at hy;cases hy
  |some j=>
   rw[hz]at hy;injection hy with hy
   have hj:j<es.size:=by
    have:j∈List.range es.size:=hp.mem_iff.mp (List.mem_of_getElem? hz);simpa using this
   have e1:((ps.map fun(i:Nat)=>rawInt i).toArray)[(i:Int).toNat]? =some (.int (j:Int) 0):=by
    simp[hz,rawInt]
   dsimp only
   rw[e1]
   dsimp only
   refine wpAny_bind ?_;unfold setNextDrawn;refine wpAny_bind (wpAny_setState_of hos hds hfs ?_)
   dsimp only
   rw[if_neg (by simp)];have e2:es[(j:Int).toNat]? =some es[j]:=by rw[Int.toNat_natCast];exact Array.getElem?_eq_getElem hj
   rw[e2];refine wpAny_pure (wpAny_bind (wpAny_setField ho hd (by simp) (wpAny_pure ⟨_,rfl,wpAny_pure ?_⟩)));have e3:es[j].2=y:=by rw[<-hy];simp[Array.getD,hj]
   rw[<-e3]at q;exact q _ ⟨_,Heap.get?_update_self _ ho (Obj.isFreed_of_fields (Obj.data_mapFields hd _)),(Obj.cls_mapFields ..).trans hc,by rw[Obj.data_mapFields hd];simp[rawInt]⟩ (Heap.SameBut.update ..)
theorem JP{P:α->Shared->Prop}(hh:A.handled=none)(k0:∀b o,b≠I->h0.get? b=some o->s.heap.get? b=some o)(q:∀h',(∀b o,b≠I->h0.get? b=some o->h'.get? b=some o)->Q none {s with heap:=h'}):
 wpAny (model prog w) A.in1 (do let x<-newExc (Value.type "StopIteration") [];raiseNew x:Sem α) P (λe s'=>wpAny (model prog w) A (do let c<-isInstance e (Value.type "StopIteration");if c=true then pure none else throw e) Q E s') s:=by
 refine wpAny_bind ?_;simp only[newExc,newTuple];refine wpAny_bind (wpAny_newObj_type ?_ (show(0:Nat)<=sizeLine from Nat.zero_le _));refine wpAny_bind (m:=firstArgMember _ _) (wpAny_of_eq (a:=Value.none) (by simp only[firstArgMember];rfl) (wpAny_newObj_type ?_ (by size_fits)));refine wpAny_raiseNew_none (show A.in1.handled=none from hh) ?_;refine wpAny_bind (wpAny_isInstance (b:=true) (T:="StopIteration") ⟨_,Heap.get?_push_size _ rfl,rfl⟩ isSubtype_stop ?_);exact wpAny_pure (q _ λb o hb e=>Heap.get?_push_of_some _ (Heap.get?_push_of_some _ (k0 b o hb e)))
theorem Qv{es:Array (Int×Value)}(hh:A.handled=none)(x:Way w S s.heap es ep t f ys)(so:Seto s.heap S es ep t)(it:W3 s.heap I (f es.size) es.size S es.size ep)
 (q:∀h',(∀b o,b≠I->s.heap.get? b=some o->h'.get? b=some o)->Q none {s with heap:=h'}):wpAny (model prog w) A (pyNext (.ref I)) Q E s:=by
 obtain⟨o,ho,hc,hd⟩:=id it.at_;obtain⟨os,hos,hex,hds,hfs⟩:=so;have hlen:=x.perm.length_eq;unfold pyNext;refine wpAny_bind (wpAny_attempt (wpAny_callSpecial?_slot (name:=Str.ofString "__next__") it.ty si_next (wpAny_call_entry si_next it.ty LD ?_ (Lv _))));unfold Builtin.«set_iterator.__next__»;refine wpAny_bind (wpAny_pure ?_);refine wpAny_bind (wpAny_fieldsOf ho hd ?_)
 dsimp only
 refine wpAny_bind (wpAny_setEntries_of hos hds hfs ?_);rw[if_neg (by simp)];have up:∀ (g:Obj->Obj) (b:Addr) (o:Obj),b≠I->s.heap.get? b=some o->(s.heap.update I g).get? b=some o:=λg b o hb e=>(Heap.get?_update_other _ _ (Ne.symm hb)).trans e
 cases x with
 |places hb hp hl r=>
  show wpAny _ _ (setNext S (Cf t es.size) es.size ep>>=_) _ _ _;refine wpAny_bind (J1 hb hp hl r ⟨os,hos,hex,hds,hfs⟩ (Nat.le_refl _) ?_);rw[Array.getElem?_eq_none (Nat.le_refl _)];refine wpAny_bind (wpAny_setField ho hd (by simp) ?_);exact JP hh (up _) q
 |text hb=>
  show wpAny _ _ (setNext S 0 es.size ep>>=_) _ _ _;refine wpAny_bind (Kf hb ⟨os,hos,hex,hds,hfs⟩ ?_);rw[Array.getElem?_eq_none (by simp at hlen;lia)];refine wpAny_bind (wpAny_setField ho hd (by simp) ?_);exact JP hh (up _) q
 |draws T ps oT hT hdT hp=>
  obtain⟨nT,hdT⟩:=hdT;show wpAny _ _ (seqItems? (.ref T)>>=_) _ _ _;refine wpAny_bind (wpAny_seqItems hT hdT ?_);have e1:((ps.map fun(i:Nat)=>rawInt i).toArray)[(es.size:Int).toNat]? =none:=by
   have:=hp.length_eq;simp at this;simp;lia
  dsimp only
  rw[e1]
  dsimp only
  refine wpAny_bind (wpAny_setField ho hd (by simp) ?_);have hd1:(Obj.mapFields (·.setIfInBounds 0 (rawInt 0)) o).data= .fields #[rawInt 0, .int es.size 0, .ref S, .int es.size 0, .int ep 0]:=by rw[Obj.data_mapFields hd];simp
  have ho1:=Heap.get?_update_self (Obj.mapFields (·.setIfInBounds 0 (rawInt 0))) ho (Obj.isFreed_of_fields hd1);refine wpAny_bind (wpAny_setField ho1 hd1 (by simp) ?_);exact JP hh (λb o hb e=>(Heap.get?_update_other _ _ (Ne.symm hb)).trans (up _ b o hb e)) q
theorem Way.at{es:Array (Int×Value)}(x:Way w S h es ep t f ys)(k:∀T,f 0= .ref T->∀o,h.get? T=some o->h'.get? T=some o):Way w S h' es ep t f ys:=by
 cases x with
 |places hb hp hl r=>exact .places hb hp hl r
 |text hb=>exact .text hb
 |draws T ps o hT hd hp=>exact .draws T ps o (k T rfl o hT) hd hp
theorem SG{es:Array (Int×Value)}{Q:Value->Shared->Prop}(so:Seto s.heap S es ep t)(tb:Tb (!byT w) t)(hz:es.size<=sizeLine)
 (q:∀ (I:Addr) (h':Heap) d f ys,Way w S h' es ep t f ys->W3 h' I (f 0) 0 S es.size ep->s.heap.objs.size<=I->(∀T,f 0= .ref T->T≠I/\s.heap.objs.size<=T)->(∀b o,s.heap.get? b=some o->h'.get? b=some o)->Q (.ref I) {s with heap:=h',drawn:=d}):
 wpAny (model prog w) A (pyIter (.ref S)) Q E s:=by
 obtain⟨os,hos,hex,hds,hfs⟩:=id so;have hT:s.TypeIs (.ref S) "set":=⟨os,hos,hex.1⟩;refine wpAny_pyIter_slot hT F.slot_set_iter (wpAny_call_entry F.slot_set_iter hT On ?_ (F.args_set_iter_1 _));unfold Builtin.«frozenset.__iter__» Builtin.Frozenset.slot0 slotArgs;simp only[List.isEmpty_nil,Bool.not_true,Bool.false_eq_true,↓reduceIte,bind_assoc,List.length_nil,bne_self_eq_false];unfold Builtin.Frozenset.addrOf Builtin.Frozenset.sizeOf setDrawn setsByText;refine wpAny_bind (wpAny_pure ?_)
 try dsimp only
 refine wpAny_bind (wpAny_pure ?_);refine wpAny_bind (wpAny_bind (wpAny_setEntries_of hos hds hfs (wpAny_pure ?_)));refine wpAny_bind (wpAny_bind (wpAny_setState_of hos hds hfs ?_))
 dsimp only
 refine wpAny_bind (wpAny_bind (wpAny_askSetting (wpAny_pure (wpAny_pure ?_))))
 split
 ·refine wpAny_bind (J6 es.size (List.range es.size) s _ (by simp) λps d hp=>?_);have hpl:ps.length=es.size:=by rw[hp.length_eq];simp
  refine wpAny_bind (wpAny_newTuple ?_ (by rw[List.length_map,hpl];exact hz));have hos1:=Heap.get?_push_of_some ({cls:= .type "tuple",data:= .seq (ps.map fun(i:Nat)=>rawInt i).toArray}:Obj) hos;refine wpAny_bind (wpAny_setEpoch_of hos1 hds hfs ?_);refine wpAny_bind (wpAny_newObj_type (wpAny_pure ⟨_,rfl,"set_iterator",_,⟨_,Heap.get?_push_size _ rfl,rfl⟩,si_next.lookup,?_⟩));refine q _ _ d (λ_=> .ref s.heap.objs.size) _ (.draws s.heap.objs.size ps _ (Heap.get?_push_of_some _ (Heap.get?_push_size _ rfl)) ⟨_,rfl⟩ hp) ⟨_,Heap.get?_push_size _ rfl,rfl,rfl⟩ ?_ ?_ λb o e=>Heap.get?_push_of_some _ (Heap.get?_push_of_some _ e)
  ·show s.heap.objs.size<=(s.heap.push _).objs.size;rw[Heap.size_push];exact Nat.le_succ _
  ·intro T e;injection e with e
   subst e;refine⟨?_,Nat.le_refl _⟩;show s.heap.objs.size≠(s.heap.push _).objs.size;rw[Heap.size_push];exact Nat.ne_of_lt (Nat.lt_succ_self _)
 ·rename_i nd
  refine wpAny_bind (wpAny_pure ?_);refine wpAny_bind (wpAny_setEpoch_of hos hds hfs ?_);refine wpAny_bind (wpAny_newObj_type (wpAny_pure ⟨_,rfl,"set_iterator",_,⟨_,Heap.get?_push_size _ rfl,rfl⟩,si_next.lookup,?_⟩));have hn:∀ (k:Nat) T,rawInt (k:Int)=Value.ref T->T≠s.heap.objs.size/\s.heap.objs.size<=T:=λk T e=>by cases e
  cases hb:byT w with
  |true=>exact q _ _ s.drawn _ _ (.text hb) ⟨_,Heap.get?_push_size _ rfl,rfl,rfl⟩ (Nat.le_refl _) (hn 0) λb o e=>Heap.get?_push_of_some _ e
  |false=>
   have nd':¬ ((!byT w&&(!t.plain&&decide (es.size>1)))=true):=nd;rw[hb]at nd' tb;exact q _ _ s.drawn _ _ (.places hb (by cases hp:t.plain<;>simp[hp]at nd'⊢;lia) tb.2 tb.1) ⟨_,Heap.get?_push_size _ rfl,rfl,rfl⟩ (Nat.le_refl _) (hn 0) λb o e=>Heap.get?_push_of_some _ e
theorem QO{L:Addr}{es:Array (Int×Value)}(hh:A.handled=none)(hLI:L≠I)(hLS:L≠S)(hSI:S≠I)(hT:∀T,f 0= .ref T->T≠I/\T≠L)(hz:es.size<=sizeLine)(res:Value):
 ∀ (k i:Nat) (s:Shared) (acc:Array Value) (c:Nat),es.size-i=k->i<=es.size->Way w S s.heap es ep t f ys->Seto s.heap S es ep t->W3 s.heap I (f i) i S es.size ep->s.heap.get? L=some {cls:= .type "list",dict:=none,data:= .seq acc c,slots:= #[]}->acc.toList=ys.take i->
 (∀h' acc' c',(∀b o,b≠I->b≠L->s.heap.get? b=some o->h'.get? b=some o)->h'.get? L=some {cls:= .type "list",dict:=none,data:= .seq acc' c',slots:= #[]}->acc'.toList=ys->R (.ok (.ret res)) {s with heap:=h'})->
 codeAny (model prog w) A (.builtin "list.extend.loop" ⟨[.ref L, .ref I,res],[]⟩) R s:=by
 intro k
 induction k with
 |zero=>
  intro i s acc c hk hi x so it hL ha q;have e:i=es.size:=by lia
  subst e;have hlen:ys.length=es.size:=by rw[x.perm.length_eq];simp
  refine codeAny_builtin F.entry_extend_loop ?_;rw[Around.under_plainId F.plain_extend_loop _];show wpAny _ A.in1 (pyNext (.ref I)>>=_) _ _ s;refine wpAny_bind (Qv (show A.in1.handled=none from hh) x so it λh' kp=>wpAny_pure (q h' acc c (λb o b1 _ e=>kp b o b1 e) (kp L _ hLI hL) ?_));rw[ha,<-hlen,List.take_length]
 |succ k ih=>
  intro i s acc c hk hi x so it hL ha q;have lt:i<es.size:=by lia
  have hlen:ys.length=es.size:=by rw[x.perm.length_eq];simp
  have hy:ys[i]? =some (ys[i]'(by lia)):=List.getElem?_eq_getElem _;refine codeAny_builtin F.entry_extend_loop ?_;rw[Around.under_plainId F.plain_extend_loop _];show wpAny _ A.in1 (pyNext (.ref I)>>=_) _ _ s;refine wpAny_bind (Qu x so it hy (let⟨_,_,_,_,z⟩:=so;z) λh1 it1 sb=>?_);have kp:∀b o,b≠I->s.heap.get? b=some o->h1.get? b=some o:=λb o hb e=>by rw[sb.2 b hb];exact e
  have hL1:=kp L _ hLI hL;have asz:acc.size=i:=by rw[<-Array.length_toList,ha,List.length_take];lia
  show wpAny _ A.in1 (updateSeq L (·.push (ys[i]'(by lia)))>>=_) _ _ _;refine wpAny_bind (wpAny_updateSeq hL1 rfl (wpAny_pure ⟨plainId_quiet F.plain_extend_loop _,ih (i+1) _ (acc.push (ys[i]'(by lia))) _ (by lia) lt (x.at λT e o eo=>?_) (so.keep λo e=>?_) (it1.keep λo e=>?_) (Heap.get?_update_self _ hL1 rfl) ?_ λh2 acc' c' kp2 hL2 ha2=>?_⟩) (by rw[asz];lia) (by show(acc.push _).size<=sizeLine+1;rw[Array.size_push,asz];lia))
  ·exact(Heap.get?_update_other _ _ (Ne.symm (hT T e).2)).trans (kp T o (hT T e).1 eo)
  ·exact(Heap.get?_update_other _ _ hLS).trans (kp S o hSI e)
  ·exact(Heap.get?_update_other _ _ hLI).trans e
  ·rw[Array.toList_push,ha,List.take_add_one,hy];rfl
  ·exact q h2 acc' c' (λb o b1 b2 e=>kp2 b o b1 b2 ((Heap.get?_update_other _ _ (Ne.symm b2)).trans (kp b o b1 e))) hL2 ha2
open Builtin.List in
theorem SH{Q:Bool->Shared->Prop}(hT:s.TypeIs (.ref S) "set")(q:Q false s):wpAny (model prog w) A (listLengthHint (.ref S)) Q E s:=by
 unfold listLengthHint;refine wpAny_bind (wpAny_specialOf hT F.slot_set_len.lookup ?_);generalize hid:("set.__len__":String)=id0
 wp_delta
 rw[show splitId id0=some ("set","__len__")from by subst hid;decide +kernel];subst hid;refine wpAny_bind (wpAny_isInstance (b:=true) hT sub_set_self ?_);rw[if_neg (by decide)];show wpAny _ _ (if _=true then _ else _) _ _ _;rw[if_pos (by decide +kernel)];refine wpAny_bind (wpAny_typeOf hT ?_);exact wpAny_pure q
theorem Pw{es:Array (Int×Value)}{Q:List Value->Shared->Prop}(hh:A.handled=none)(so:Seto s.heap S es ep t)(tb:Tb (!byT w) t)(hz:es.size<sizeLine)
 (q:∀h' d ys,ys.Perm (es.toList.map (·.2))->(∀b o,s.heap.get? b=some o->h'.get? b=some o)->s.heap.objs.size<=h'.objs.size->Q ys {s with heap:=h',drawn:=d}):wpAny (model prog w) A (collect (.ref S)) Q E s:=by
 have hS:S<s.heap.objs.size:=let⟨o,ho,_⟩:=so;Heap.lt_size ho;unfold collect;refine wpAny_bind (wpAny_runValue (codeAny_builtin F.entry_proto_collect ?_));rw[Around.under_plainId F.plain_proto_collect _];show wpAny _ A.in1 (newList []>>=λl=>again (.builtin "list.__iadd__" ⟨[l, .ref S],[]⟩)) _ _ s;refine wpAny_bind (wpAny_newObj_type (wpAny_pure ⟨plainId_quiet F.plain_list_iadd _,codeAny_builtin F.entry_list_iadd ?_⟩));rw[Around.under_plainId F.plain_list_iadd _];generalize hlo:({cls:= .type "list",data:= .seq ([]:List Value).toArray}:Obj)=lo;have gL:(s.heap.push lo).get? s.heap.objs.size=some lo:=Heap.get?_push_size _ (by subst hlo;rfl);have so1:Seto (s.heap.push lo) S es ep t:=so.keep λo e=>Heap.get?_push_of_some _ e;obtain⟨os,hos,hex,hds,hfs⟩:=id so1;have hT:Shared.TypeIs {s with heap:=s.heap.push lo} (.ref S) "set":=⟨os,hos,hex.1⟩;show wpAny _ A.in1 (Builtin.List.listExtendWith (.ref s.heap.objs.size) (.ref S) (.ref s.heap.objs.size)) _ _ _;unfold Builtin.List.listExtendWith;refine wpAny_bind (wpAny_typeOf hT ?_);have h1:Builtin.List.listSameRef (.ref s.heap.objs.size) (.ref S)=false:=by
  have:¬s.heap.objs.size=S:=Nat.ne_of_gt hS;simp[Builtin.List.listSameRef,this]
 rw[if_neg (by rw[h1];decide)];refine wpAny_bind (SG so1 tb (Nat.le_of_lt hz) λI h1 d f ys x it hI hT1 kp=>?_);have gL1:=kp _ _ gL;refine wpAny_bind (wpAny_holding (SH ⟨os,kp _ _ hos,hex.1⟩ ?_));rw[if_pos (by decide +kernel)];refine wpAny_bind (wpAny_rule ?_);refine wpAny_bind ?_;show wpAny _ A.in1 (updateSeq s.heap.objs.size (·.push .none)>>=λ_=>updateSeq s.heap.objs.size (·.pop)) _ _ _;subst hlo;refine wpAny_bind (wpAny_updateSeq gL1 rfl ?_);have gL2:=Heap.get?_update_self (Obj.mapSeq (·.push Value.none)) gL1 rfl;refine wpAny_updateSeq gL2 rfl ?_;have gL3:=Heap.get?_update_self (Obj.mapSeq (·.pop)) gL2 rfl;have sz1:(s.heap.push ({cls:= .type "list",data:= .seq ([]:List Value).toArray}:Obj)).objs.size=s.heap.objs.size+1:=Heap.size_push ..;rw[sz1]at hI hT1;have oth:∀b o,b≠s.heap.objs.size->h1.get? b=some o->((h1.update s.heap.objs.size (Obj.mapSeq (·.push Value.none))).update s.heap.objs.size (Obj.mapSeq (·.pop))).get? b=some o:=
  λb o hb e=>(Heap.get?_update_other _ _ (Ne.symm hb)).trans ((Heap.get?_update_other _ _ (Ne.symm hb)).trans e)
 have nLI:s.heap.objs.size≠I:=Nat.ne_of_lt hI;have nS:S≠s.heap.objs.size:=Nat.ne_of_lt hS;have nSI:S≠I:=Nat.ne_of_lt (Nat.lt_trans hS hI);have nT:∀T,f 0= .ref T->T≠I/\T≠s.heap.objs.size:=λT e=>⟨(hT1 T e).1,Nat.ne_of_gt (hT1 T e).2⟩;refine wpAny_pure ⟨plainId_quiet F.plain_extend_loop _,QO (show A.handled=none from hh) nLI (Ne.symm nS) nSI nT (Nat.le_of_lt hz) _ es.size 0 _ _ _ rfl (Nat.zero_le _) (x.at λT e o eo=>oth T o (nT T e).2 eo) ((so1.keep λo e=>kp S o e).keep λo e=>oth S o nS e) (it.keep λo e=>oth I o (Ne.symm nLI) e) gL3 rfl λh2 acc' c' kp2 gL4 ha=>?_⟩;show wpAny _ A (load s.heap.objs.size>>=_) _ _ _;refine wpAny_bind (wpAny_load gL4 ?_);refine wpAny_pure ?_;rw[ha];refine q h2 d ys x.perm (λb o e=>?_) (Nat.le_of_lt (Heap.lt_size gL4));have hb:b<s.heap.objs.size:=Heap.lt_size e;exact kp2 b o (Nat.ne_of_lt (Nat.lt_trans hb hI)) (Nat.ne_of_lt hb) (oth b o (Nat.ne_of_lt hb) (kp b o (Heap.get?_push_of_some _ e)))
theorem IntsAre.of_perm(p:vs.Perm us):∀ {ns:List Int},IntsAre us ns->∃ms,IntsAre vs ms/\ms.Perm ns:=by
 induction p with
 |nil=>intro ns h;exact⟨ns,h, .refl _⟩
 |cons x _ ih=>intro ns h;cases h with|cons n t h=>obtain⟨ms,h1,h2⟩:=ih h;exact⟨n::ms, .cons n t h1,h2.cons n⟩
 |swap x y l=>intro ns h;cases h with|cons n t h=>cases h with|cons m u h=>exact⟨m::n::_, .cons m u (.cons n t h), .swap _ _ _⟩
 |trans _ _ ih1 ih2=>intro ns h;obtain⟨ms,h1,h2⟩:=ih2 h;obtain⟨ks,h3,h4⟩:=ih1 h1;exact⟨ks,h3,h4.trans h2⟩
end BrT
open BrT
namespace L2
section
variable{pos:Pos}
theorem Inv.drawn{σ:W2}(I:Inv X pins σ H s)(d:Drawn):Inv X pins σ H {s with drawn:=d}:=⟨I.ok,I.os,I.bare,I.base,I.loc,I.cell,I.free,I.freeC,I.pin,I.hok,I.len⟩
end
end L2
namespace BrT
theorem sorted_setB(hh:A.handled=none)(i:SI prog w (!byT w) s.heap S ms)(h63:∀x∈ms,(0:Int)<=x/\x<63)
 (q:∀ (L:Addr) (h':Heap) d (vs:List Value) (ns:List Int) (e:Nat),s.heap.objs.size<=L->h'.get? L=some (seqObj "list" vs.toArray e)->(∀b o,s.heap.get? b=some o->h'.get? b=some o)->IntsAre vs ns->ns.Pairwise (· < ·)->(∀k,k∈ns↔k∈ms)->ns.length<=63->Q (.ref L) {s with heap:=h',drawn:=d}):
 wpAny (model prog w) A (call (.builtin "sorted") [.ref S]) Q E s:=by
 obtain⟨o,es,ep,t,ho,hex,hd,hel,hnd,hmem,hsz,hf,htb⟩:=i;have h64:es.size<=63:=by
  have h1:=List.Nodup.length_le_of_subset hnd (l₂:=(List.range 63).map λn:Nat=>(n:Int)) λx hx=>by
   obtain⟨h1,h2⟩:=h63 x ((hmem x).mp hx);exact List.mem_map.mpr ⟨x.toNat,by simp;lia,by lia⟩
  simpa using h1
 refine Calls.call_function_entry kind_sorted plain_sorted entry_sorted (args_sorted1 _) ?_;unfold Builtin.«sorted»;refine wpAny_bind (m:=checkCount "sorted" 1 1 _) (wpAny_pure ?_);refine wpAny_bind (Pw (show A.in1.handled=none from hh) ⟨o,ho,hex,hd,hf⟩ htb (by rw[sizeLine_eq];lia) λh1 d ys hp kp hle=>?_);obtain⟨ks,hI,hpk⟩:=IntsAre.of_perm hp (MK hel);have hyl:ys.length<64:=by rw[hp.length_eq];simp;lia
 refine wpAny_bind (wpAny_newList ?_ (by rw[sizeLine_eq];lia));have gL:(h1.push (seqObj "list" ys.toArray 0)).get? h1.objs.size=some (seqObj "list" ys.toArray 0):=Heap.get?_push_size _ rfl;refine wpAny_bind (wpAny_holding (wpAny_call_entry slot_list_sort ⟨_,gL,rfl⟩ entry_list_sort (list_sort_tree gL hI hyl λout ns a1 a2 a3=>⟨_,rfl,?_⟩) (args_list_sort _)));refine wpAny_pure ⟨_,rfl,?_⟩;obtain⟨e,he⟩:=sortedHeap_at (out:=out) gL;have hall:ns.Perm (es.toList.map keyOf):=a2.trans hpk;refine q h1.objs.size _ d out.toList ns e hle (by rw[Array.toArray_toList];exact he) (λb o eb=>?_) a1 ?_ (λk=>(hall.mem_iff).trans (hmem k)) (by rw[hall.length_eq];simp;exact h64)
 ·have hb:=Heap.lt_size (kp b o eb);rw[sortedHeap_old (Nat.ne_of_lt hb) (by rw[size_push'];exact Nat.lt_succ_of_lt hb)];exact Heap.get?_push_of_some _ (kp b o eb)
 ·have hn:ns.Nodup:=hall.nodup_iff.mpr hnd;exact List.Pairwise.imp (λh=>by lia) (List.Pairwise.and a3 hn)
end BrT
namespace L2
section
variable{pos:Pos}
def Nj(K:W.Frag)(te:TE):TE:=λσ H Q=>te σ H λv H1=>∃ (l:Addr) (ms:List Int),v= .ref l/\SqL K H1 l (ms.map V.int)/\ms.length<=4000/\(∀x∈ms,(0:Int)<=x/\x<63)/\
 ∀ (p:Addr) (ns:List Int),H1 p=none->ns.Pairwise (· < ·)->(∀k:Int,k∈ns↔k∈ms)->ns.length<=63->Q (.ref p) (upd H1 p (.lst (ns.map V.int)))
theorem Ru(K:W.Frag)(hms:X.mg "set"=none)(hmo:X.mg "sorted"=none){k:Nat}(hr:Room k X.A)(hc:X.calm=true)(he:PE X e te)(hK:X.K=K:=by rfl)(hgs:Gl X "set":=by rfl)(hgo:Gl X "sorted":=by rfl)
 (h1:starEach [e] X.env=[(false,eval e X.env)]:=by rfl) (h2:starEach [.Call (.Name "set" np) [e] [] cpos] X.env=[(false,eval (.Call (.Name "set" np) [e] [] cpos) X.env)]:=by rfl):
 PE X (.Call (.Name "sorted" sp) [.Call (.Name "set" np) [e] [] cpos] [] pos) (Nj K te):=by
 subst hK;intro pins s σ H Q I h;refine wpAny_Call_Name_kw (CB I hgo hmo PyProof.Rows.boot_sorted ?_);refine PyProof.Rows.callWith_builtin1 ?_ h2 rfl;rw[h2];show wpAny _ _ (spliced [(false,eval (.Call (.Name "set" np) [e] [] cpos) X.env)]) _ _ _;refine Calls.spliced_cons ?_;refine wpAny_Call_Name_kw (CB I hgs hms PyProof.Rows.boot_set ?_);refine PyProof.Rows.callWith_type1 ?_ h1 rfl;rw[h1];show wpAny _ _ (spliced [(false,eval e X.env)]) _ _ _;refine Calls.spliced_cons (thn (he pins s σ H _ I h) λu s1 ⟨v,H1,I1,r1,q1⟩=>Calls.spliced_nil ?_);obtain⟨l,ms,rfl,hq,hz,hr63,q⟩:=q1
 cases r1
 obtain⟨its,rr,ht,_⟩:=I1.list hq;have hi:=KI rr;refine BrT.call_set (I1.ok.hd hc) ht.isList hi (by unfold scanBound;lia) λh' tk hS kp hlt=>Calls.spliced_nil ?_;have I2:Inv X pins σ H1 {s1 with heap:=h',toks:=tk}:=I1.kept λb o z=>kp b o (Heap.lt_size z) z;refine BrT.sorted_setB (s:={s1 with heap:=h',toks:=tk}) (I1.ok.hd hc) hS hr63 λL h2 d vs ns ep hL gL kp2 hI hp hm hle=>?_;refine⟨.ref L,_,(I2.laid (t':=tk) (o:= .lst (ns.map V.int)) kp2 hL ⟨?_,vs,ep,HF hI,gL⟩).drawn d,rfl,q L ns (I2.hok.fresh hL) hp hm hle⟩;rw[List.length_map,sizeLine_eq];lia
theorem Sy{σ:W2}{Q:VK}(h:te σ H λv H1=>∃ (l:Addr) (ms:List Int),v= .ref l/\SqL K H1 l (ms.map V.int)/\ms.length<=4000/\(∀x∈ms,(0:Int)<=x/\x<63)/\∀ (p:Addr) (ns:List Int),H1 p=none->ns.Pairwise (· < ·)->(∀k:Int,k∈ns↔k∈ms)->ns.length<=63->Q (.ref p) (upd H1 p (.lst (ns.map V.int)))):Nj K te σ H Q:=h
end
end L2
namespace BrC
variable{k:Nat}
theorem MV:∀ (M m i:Nat),m<=M->cv P k (m+1) i []=sm m λa=>cv P k a i []*pr P k (i+a) (i+m)*cv P k (m-a-1) (i+a+1) []
 |_,0,i,_=>by rw[Et];rfl
 |0,m+1,i,h=>by lia
 |M+1,m+1,i,h=>by
  rw[Et,sm,He];have e0:pr P k i (i+1+m)*cv P k m (i+1) []*cv P k (m+1-m-1) (i+m+2) []=cv P k 0 i []*pr P k (i+0) (i+(m+1))*cv P k (m+1-0-1) (i+0+1) []:=by
   rw[show m+1-m-1=0 by lia,show i+1+m=i+(m+1) by lia,show m+1-0-1=m by lia,show cv P k 0 (i+m+2) []=1 from rfl,show cv P k 0 i []=1 from rfl];simp
  rw[e0,Int.add_comm];congr 1;have e1:sm m (λe=>pr P k i (i+1+e)*cv P k e (i+1) []*cv P k (m+1-e-1) (i+e+2) [])=sm m (λe=>sm (m-e-1) λb=>(pr P k i (i+1+e)*cv P k e (i+1) []*cv P k (e+1+b-e-1) (i+e+2) [])*(pr P k (i+(e+1+b)+1) (i+(m+1))*cv P k (m-(e+1+b)-1) (i+(e+1+b)+2) [])):=by
   refine AQ m λe he=>?_;rw[show m+1-e-1=(m-e-1)+1 by lia,MV M (m-e-1) (i+e+2) (by lia),<-BI];refine AQ _ λb hb=>?_;rw[show e+1+b-e-1=b by lia,show i+e+2+b=i+(e+1+b)+1 by lia,show i+e+2+(m-e-1)=i+(m+1) by lia,show m-e-1-b-1=m-(e+1+b)-1 by lia,show i+(e+1+b)+1+1=i+(e+1+b)+2 by lia];simp only[Int.mul_assoc]
  rw[e1,Iq (λe q=>(pr P k i (i+1+e)*cv P k e (i+1) []*cv P k (q-e-1) (i+e+2) [])*(pr P k (i+q+1) (i+(m+1))*cv P k (m-q-1) (i+q+2) []))];refine AQ m λq hq=>?_;rw[CU,<-Et,show i+(q+1)=i+q+1 by lia,show m+1-(q+1)-1=m-q-1 by lia,show i+q+1+1=i+q+2 by lia,Int.mul_assoc]
end BrC
namespace L2
variable{es:List Expr}{ps:List Str}{P:Program}{sp:Sp}{f m:Str}{t:TA}
structure MeU (P:Program) (w:World) (K:W.Frag) (mg:Str->Option Value) (base:Heap) (k:Nat) (C:Addr) (m:Str) (ps:List Str) (sp:Sp):Prop where
 ex:∃f fd,FnOk P w K mg base CX0 k f fd ps sp/\Meth K C m f/\Binds K fd ps []
theorem MeU.mono{k:Nat}(U:MeU P w K mg base j C m ps sp)(h:j<=k):MeU P w K mg base k C m ps sp:=
 let⟨f,fd,F,a,b⟩:=U.ex;⟨f,fd,F.mono h,a,b⟩
structure MkU (P:Program) (w:World) (K:W.Frag) (mg:Str->Option Value) (base:Heap) (k:Nat) (C:Addr) (ps:List Str) (sp:Sp):Prop where
 ex:∃j f fd,j+1<=k/\FnOk P w K mg base CX0 j f fd ps sp/\Mk K C f/\Binds K fd ps []
theorem MkU.mono{k:Nat}(U:MkU P w K mg base j C ps sp)(h:j<=k):MkU P w K mg base k C ps sp:=
 let⟨i,f,fd,hi,F,a,b⟩:=U.ex;⟨i,f,fd,Nat.le_trans hi h,F,a,b⟩
section
variable{k:Nat}{o:Expr}{p pos:Pos}
theorem Ep(c:Cls X.K C)(U:MeU X.prog X.w X.K X.mg X.base k C m ps sp)(hr:Room k X.A)(he:PE X o ta)(ha:PA X (e::es) t)
 (hst:starEach (e::es) X.env=(false,eval e X.env)::starEach es X.env:=by rfl) (hpl:(backTo pos (starEach es X.env)).any (·.1)=false:=by rfl)
 (ht:eval (.Call (.Attribute o m apos) (e::es) [] pos) X.env=(do
   let ov<-eval o X.env
   standAt apos.atName
   let(f,first)<-holding [ov] (getMethod ov m pl)
   callWith pos f first (backTo pos (starEach (e::es) X.env)) (backToKw pos (keywordEach [] X.env))):=by rfl):
 PE X (.Call (.Attribute o m apos) (e::es) [] pos) (Ey C m sp [] E0 ta t):=
 let⟨_,_,F,hm,hb⟩:=U.ex;Tj he c hm F hr hb .nil GB ha hst hpl ht
theorem Ti(c:Cls X.K C)(U:MeU X.prog X.w X.K X.mg X.base k C m ps sp)(hr:Room k X.A)(he:PE X o ta)
 (ht:eval (.Call (.Attribute o m apos) [] [] pos) X.env=(do
   let ov<-eval o X.env
   standAt apos.atName
   let(f,first)<-holding [ov] (getMethod ov m pl)
   callWith pos f first (backTo pos (starEach [] X.env)) (backToKw pos (keywordEach [] X.env))):=by rfl):
 PE X (.Call (.Attribute o m apos) [] [] pos) (Ey C m sp [] E0 ta tNil):=
 let⟨_,_,F,hm,hb⟩:=U.ex;Rv he c hm F hr hb .nil GB ht
theorem VP(U:MkU X.prog X.w X.K X.mg X.base k C ps sp)(hr:Room k X.A)(hm:X.mg x=some (.ref C))(ha:PA X (e::es) t)(hg:Gl X x:=by rfl)(hdb:(x==("__debug__":Str))=false:=by decide)
 (he:starEach (e::es) X.env=(false,eval e X.env)::starEach es X.env:=by rfl) (hpl:(backTo pos (starEach es X.env)).any (·.1)=false:=by rfl):PE X (.Call (.Name x p) (e::es) [] pos) (JN C sp [] E0 t):=
 let⟨_,_,_,hi,F,M,hb⟩:=U.ex;Tn M F (hr.mono hi) hg hm hb .nil GB ha hdb he hpl
theorem A8(K:W.Frag)(he:PE X e ta)(hK:X.K=K:=by rfl)(hb:attributeBase e f X.env (eval e X.env)=eval e X.env:=by rfl):PE X (.Attribute e f pos) (Jj K ta f):=by subst hK;exact VQ he hb
theorem EZ(K:W.Frag)(ha:PE X o ta)(hv:PE X value tv)(hK:X.K=K:=by rfl)(hs:swapsWith value (some (.Attribute o f pos')) pos.line X.env=pure false:=by rfl):PS X (.Assign [.Attribute o f pos'] value pos) (Jk K ta tv f):=by subst hK;exact VE ha hv hs
theorem QA(K:W.Frag){op:Operator}(hop:GT X op rd)(ha:PE X o ta)(hv:PE X value tv)(hK:X.K=K:=by rfl):PS X (.AugAssign (.Attribute o f tpos) op value pos) (IN K ta tv rd f):=by subst hK;exact Qg ha hv hop
def rAddA:V->V->Hp->VK->Prop:=λx y H Q=>rAdd x y H Q\/∃a b,x=tx a/\y=tx b/\a.length+b.length<=sizeLine/\Q (tx (a++b)) H
theorem ML:GT X .Add rAddA:=by
 rintro pins s σ H x y u v Q I rx ry (h|⟨a,b,rfl,rfl,hz,q⟩)
 ·exact Vj pins s σ H x y u v Q I rx ry h
 ·obtain⟨t,rfl⟩:=rx;obtain⟨t',rfl⟩:=ry;refine PyProof.Rows.iadd_str (λt2 tk=>⟨tx (a++b),H,I.tok _,⟨t2,?_⟩,q⟩) (by rw[Bd,Bd];exact hz);congr 1;show(⟨a.toArray++b.toArray⟩:Str)=_;simp
end
section
variable{σ:W2}{Q:VK}{D:Ends}{E:XK}
theorem Us(h:ta σ H λx H1=>∃a dx fs,x= .ref a/\H1 a=some (.ins C dx fs)/\fs.lookup m=none/\t σ H1 λvs H2=>sp (x::(vs++[])) H2 Q E):Ey C m sp [] E ta t σ H Q:=h
theorem Ut(h:t σ H λvs H1=>∀x dx,H1 x=none->H1 dx=none->dx≠x->sp (.ref x::(vs++[])) (upd (upd H1 dx (.own x)) x (.ins C dx [])) (λv H2=>v= .non/\Q (.ref x) H2) E):JN C sp [] E t σ H Q:=h
theorem U2(h:ta σ H λx H1=>∃a C dx fs v,x= .ref a/\H1 a=some (.ins C dx fs)/\Cls K C/\NoAttr K C f/\fs.lookup f=some v/\Q v H1):Jj K ta f σ H Q:=h
theorem U3(h:tv σ H λy H1=>ta σ H1 λx H2=>∃a C dx fs,x= .ref a/\H2 a=some (.ins C dx fs)/\Cls K C/\NoAttr K C f/\fs.length<1000/\D.nx σ (upd H2 a (.ins C dx (Ai f y fs)))):Jk K ta tv f D σ H:=h
theorem U4(h:ta σ H λx H1=>∃a C dx fs v,x= .ref a/\H1 a=some (.ins C dx fs)/\Cls K C/\NoAttr K C f/\fs.lookup f=some v/\tv σ H1 λy H2=>rd v y H2 λz H3=>∃dx' fs',H3 a=some (.ins C dx' fs')/\fs'.length<1000/\D.nx σ (upd H3 a (.ins C dx' (Ai f z fs')))):IN K ta tv rd f D σ H:=h
end
end L2
namespace BrS
variable{pl:Addr}
abbrev pa_(k:Nat)(a:List Nat):Nat->Nat->Int:=PP (a.map (plw (ones k)))
def W(k:Nat)(a:List Nat)(i:Nat)(st:List Nat):Int:=cv (pa_ k a) k (a.length-i) i st
def CP(k:Nat)(a:List Nat)(st:List Nat):List Int:=(List.range (a.length+1)).map λi=>W k a i st
theorem Ly{k:Nat}(h:i<=a.length):((CP k a st).map V.int)[i]? =some (.int (W k a i st)):=by
 unfold CP;rw[List.map_map,List.getElem?_map,List.getElem?_range (by lia)]
 rfl
theorem GH{k:Nat}(hk:k<=4)(ha:a.length<=40)(i:Nat)(st:List Nat):0<=W k a i st/\W k a i st<=cap:=Dy hk (λl hl=>(BN hk l hl).2) (by lia) i st
theorem Ub(k:Nat)(a:List Nat)(i o:Nat)(st:List Nat)(hi:i<=a.length):W k a i (o::st)=sm ((a.length-i+1)/2) λq=>tbl (pa_ k a) k i (i+2*q)*pa_ k a (i+2*q) (2*o+1)*W k a (i+2*q+1) st:=by
 unfold W;rw[LX _ _ _ _ _ (Nat.le_refl _),Fg]
 ·refine AQ _ λq hq=>?_;unfold tbl;rw[if_pos (by lia),show i+2*q-i=2*q by lia,show a.length-i-2*q-1=a.length-(i+2*q+1) by lia]
 ·intro e he ho;rw[DQ e i [] (by simpa using ho),Int.zero_mul,Int.zero_mul]
def Bg(st:List Nat):List V:=st.reverse.map λp:Nat=>V.int (2*(p:Int)+1)
def cf(pl sm cl rs:Addr)(at':Int):List (Str×V):=[("places", .ref pl),("sums", .ref sm),("at", .int at'),("closings", .ref cl),("rests", .ref rs)]
structure CoS (C:Addr) (H0 H:Hp) (co:Addr) (k:Nat) (a:List Nat) (at':Nat) (st:List Nat) (dx pl sm cl rs:Addr) (Hz Hb:Hp) (ad:Nat->Addr) (ra:List Addr):Prop where
 ob:H co=some (.ins C dx (cf pl sm cl rs at'))
 pls:Pls Hb pl (a.map (plw (ones k)))
 tb:Tb Hz Hb sm ad a.length (tbl (pa_ k a) k)
 keep:SameBut1 co Hb H
 nco:∀xs,Hb co≠some (.lst xs)
 ncl:Hb cl=none
 nrs:Hb rs=none
 ne:cl≠rs
 clo:H cl=some (.lst (Bg st))
 res:H rs=some (.lst (ra.map V.ref))
 ral:ra.length=st.length+1
 rows:∀ (j:Nat) x,ra[j]? =some x->H x=some (iL (CP k a (st.drop (st.length-j))))/\x≠cl/\x≠rs
 h0:Same H0 H
 h0co:H0 co=none
 h0cl:H0 cl=none
 h0rs:H0 rs=none
 len:a.length<=40
 hk:k<=4
def Co(C:Addr)(H0 H:Hp)(co:Addr)(k:Nat)(a:List Nat)(at':Nat)(st:List Nat):Prop:=∃dx pl sm cl rs Hz Hb ad ra,CoS C H0 H co k a at' st dx pl sm cl rs Hz Hb ad ra
theorem Co.same{k:Nat}(h:Co C H0 H co k a at' st)(s:Same H H'):Co C H0 H' co k a at' st:=by
 obtain⟨dx,pl,sm,cl,rs,Hz,Hb,ad,ra,c⟩:=h;exact⟨dx,pl,sm,cl,rs,Hz,Hb,ad,ra,⟨s _ _ c.ob,c.pls,c.tb,λb o z n=>s _ _ (c.keep b o z n),c.nco,c.ncl,c.nrs,c.ne,s _ _ c.clo,s _ _ c.res,c.ral,λj x hx=>⟨s _ _ (c.rows j x hx).1,(c.rows j x hx).2⟩,c.h0.trans s,c.h0co,c.h0cl,c.h0rs,c.len,c.hk⟩⟩
section
variable{k:Nat}{sm cl rs:Addr}
theorem CoS.lst(c:CoS C H0 H co k a at' st dx pl sm cl rs Hz Hb ad ra){b:Addr}{xs:List V}(h:Hb b=some (.lst xs)):H b=some (.lst xs):=c.keep _ _ h λz=>c.nco xs (by rw[<-z];exact h)
theorem CoS.tbH(c:CoS C H0 H co k a at' st dx pl sm cl rs Hz Hb ad ra):Tb (λ_=>none) H sm ad a.length (tbl (pa_ k a) k):=⟨rfl,λ_ _=>rfl,c.tb.ns,c.tb.inj,c.lst c.tb.top,λi hi=>c.lst (c.tb.row i hi),λ_ _ z=>nomatch z⟩
theorem CoS.plH(c:CoS C H0 H co k a at' st dx pl sm cl rs Hz Hb ad ra):Pls H pl (a.map (plw (ones k))):=by
 obtain⟨pd,h1,h2⟩:=c.pls;exact⟨pd,c.lst h1,λi hi=>c.lst (h2 i hi)⟩
theorem CoS.top(c:CoS C H0 H co k a at' st dx pl sm cl rs Hz Hb ad ra):∃x,atI (ra.map V.ref) (-1)=some (.ref x)/\H x=some (iL (CP k a st)):=by
 obtain⟨x,hx⟩:∃x,ra[st.length]? =some x:=⟨_,List.getElem?_eq_getElem (by rw[c.ral];lia)⟩;refine⟨x,Fx (by rw[List.length_map,c.ral];lia) (by rw[List.length_map,c.ral,List.getElem?_map,Nat.add_sub_cancel,hx];rfl),?_⟩;have:=(c.rows _ x hx).1;rwa[Nat.sub_self,List.drop_zero]at this
end
theorem Mw(h:Pls H pl ps)(hi:i<ps.length):∃xs x,H pl=some (.lst xs)/\xs[i]? =some (.ref x)/\xs.length=ps.length/\H x=some (iL (ps.getD i [])):=by
 obtain⟨pd,h1,h2⟩:=h;exact⟨_,pd i,h1,by rw[List.getElem?_map,List.getElem?_range hi];rfl,by rw[List.length_map,List.length_range],h2 i hi⟩
theorem L9(h:Pls H pl ps):∃xs,H pl=some (.lst xs)/\xs.length=ps.length:=by
 obtain⟨pd,h1,h2⟩:=h;exact⟨_,h1,by rw[List.length_map,List.length_range]⟩
def Fd:Sp:=λvs H Q _=>∃b:Nat,vs=[.int (b:Int)]/\Q (.bl (decide (b%2=0))) H
theorem Ka{Q:VK}{E:XK}(q:Q (.bl (decide (b%2=0))) H):Fd ([.int (b:Int)]++[]) H Q E:=⟨b,rfl,q⟩
def IL(C:Addr):Sp:=λvs H Q _=>∃ (co dx:Addr) (k:Int) (a:List Nat) (H0:Hp),vs=[.ref co, .int k,tx a]/\1<=k/\k<=4/\Ab k a=true/\H co=some (.ins C dx [])/\H0 co=none/\Same H0 H/\∀H',Co C H0 H' co k.toNat a 0 []->Q .non H'
def Io(C:Addr):Sp:=λvs H Q _=>∃ (co:Addr) (k:Nat) (a:List Nat) (i:Nat) (st:List Nat) (H0:Hp),vs=[.ref co]/\Co C H0 H co k a i st/\Q (.int (W k a 0 [])) H
def FK(C:Addr):Sp:=λvs H Q _=>∃ (co:Addr) (k:Nat) (a:List Nat) (i:Nat) (st:List Nat) (H0:Hp) (s p:Nat),vs=[.ref co, .int (s:Int), .int (2*(p:Int)+1)]/\Co C H0 H co k a i st/\s<=a.length/\p<k/\∀H',Same H H'->Q (.int (W k a s (p::st))) H'
def mw(k:Nat)(a:List Nat)(i:Nat)(st:List Nat)(b:Nat):Int:=if b%2=0 then pa_ k a i b*W k a (i+1) (b/2::st)else match st with|[]=>0|o::s'=>if 2*o+1=b then pa_ k a i b*W k a (i+1) s' else 0
def IJ(C:Addr):Sp:=λvs H Q _=>∃ (co:Addr) (k:Nat) (a:List Nat) (i:Nat) (st:List Nat) (H0:Hp) (b:Nat),vs=[.ref co, .int (b:Int)]/\Co C H0 H co k a i st/\i<a.length/\b<2*k/\∀H',Same H H'->Q (.int (mw k a i st b)) H'
def stb(st:List Nat)(b:Nat):List Nat:=if b%2=0 then b/2::st else st.tail
def IK(C:Addr):Sp:=λvs H Q _=>∃ (co:Addr) (k:Nat) (a:List Nat) (i:Nat) (st:List Nat) (H0:Hp) (b:Nat),vs=[.ref co, .int (b:Int)]/\Co C H0 H co k a i st/\i<a.length/\b<2*k/\st.length<=i/\(b%2=1->st≠[])/\∀H',Co C H0 H' co k a (i+1) (stb st b)->Q .non H'
end BrS
namespace L2
theorem RT{σ:W2}{Q:VK}{a:Addr}{g:TG}(f v:Nat->V)(hn:n<=sizeLine)(ha:H a=some (.lst ((List.range n).map f)))
 (hst:∀D H',H D=none->Same H H'->H' D=some (.lst ((List.range n).map v))->Q (.ref D) H')
 (hs:∀ (i:Nat) (H':Hp) (R:V->Hp->Prop),i<n->Same H H'->(∀H6,Same H' H6->R (v i) H6)->g (f i) (Aa own sel σ) H' λσ4 H4=>te σ4 H4 R):BL (Itl K a) own sel σ g tYes te Q H:=by
 have hl:((List.range n).map f).length=n:=by rw[List.length_map,List.length_range]
 refine Dh f hn (λD i ys _=>ys=(List.range i).map v) (λi H' hi sH=>⟨_,f i,SqL.of (sH _ _ ha),by rw[List.getElem?_map,List.getElem?_range hi];rfl⟩) (λH' sH=>⟨_,SqL.of (sH _ _ ha),by rw[hl];exact Nat.le_refl _⟩) (λi H1 x H' hi sH y=>?_)
  (λ_ _=>rfl) (λ_ _ _ _ _ _ e _=>e) (λD ys H' hD hy _ sH e=>hst D H' hD sH (by rw[hy,e]))
  (λD i ys H' R hD hi hy _ sH e r=>hs i H' R hi sH λH6 s6=>r _ H6 s6 (by rw[e,List.range_succ,List.map_append];rfl))
 obtain⟨rfl,hx⟩:=y;have:=hx _ (SqL.of (sH _ _ ha));rw[List.getElem?_map,List.getElem?_range hi]at this;exact⟨rfl,(Option.some.inj this).symm⟩
end L2
namespace BrS
variable{s':List Nat}
theorem nab{x c:Int}(h0:0<=x)(h:x<=c)(hc:c.natAbs<big):x.natAbs<big:=by
 have:x.natAbs<=c.natAbs:=by lia
 lia
theorem IG{k:Nat}(hk:k<=4)(ha:j<=40):0<=tbl (pa_ k a) k i j/\tbl (pa_ k a) k i j<=cap:=by
 unfold tbl
 split
 ·exact Dy hk (λl hl=>(BN hk l hl).2) (by lia) i []
 ·exact⟨Int.le_refl _,by unfold cap top30;decide +kernel⟩
theorem Es{k:Nat}(hk:k<=4)(i b:Nat):0<=pa_ k a i b/\pa_ k a i b<=top30:=Ay (λl hl=>(BN hk l hl).2) i b
theorem Ug{k:Nat}(hk:k<=4)(ha:j<=40):(tbl (pa_ k a) k i j*pa_ k a j b).natAbs<big:=by
 obtain⟨h1,h2⟩:=IG (a:=a) hk (i:=i) ha;obtain⟨h3,h4⟩:=Es (a:=a) hk j b;refine nab (c:=cap*top30) (Int.mul_nonneg h1 h3) (Int.le_trans (Int.mul_le_mul_of_nonneg_right h2 h3) (Int.mul_le_mul_of_nonneg_left h4 (Int.le_trans h1 h2))) ?_;unfold cap big top30;decide +kernel
theorem E4{k:Nat}(hk:k<=4)(hi:i<a.length):pa_ k a i b=0\/pa_ k a i b=1:=by
 show((a.map (plw (ones k))).getD i []).getD b 0=0\/((a.map (plw (ones k))).getD i []).getD b 0=1;rw[List.getD_eq_getElem?_getD (l:=a.map (plw (ones k))),List.getElem?_map,List.getElem?_eq_getElem hi];show(plw (ones k) a[i]).getD b 0=0\/(plw (ones k) a[i]).getD b 0=1;unfold plw;rw[List.getD_eq_getElem?_getD]
 split
 ·cases e:(ones k)[b]? with
  |none=>exact .inl rfl
  |some v=>
   have:=List.mem_of_getElem? e;rw[List.eq_of_mem_replicate this];exact .inr rfl
 ·rw[List.getElem?_map]
  cases e:(brs.take (ones k).length)[b]? with
  |none=>exact .inl rfl
  |some v=>
   show(if a[i]=v then(1:Int)else 0)=0\/(if a[i]=v then(1:Int)else 0)=1
   split
   ·exact .inr rfl
   ·exact .inl rfl
theorem ER(o:Nat)(s:List Nat):Bg (o::s)=Bg s++[.int (2*(o:Int)+1)]:=by unfold Bg;rw[List.reverse_cons,List.map_append];rfl
theorem RH(o:Nat)(s:List Nat):atI (Bg (o::s)) (-1)=some (.int (2*(o:Int)+1)):=by rw[ER];exact Lf _ _
theorem Sh{xs:List α}{v:α}(h:1<xs.length)(e:xs[xs.length-2]? =some v):atI xs (-2)=some v:=by
 unfold atI ixN;rw[if_neg (by decide),if_pos (by lia)];show xs[((-2:Int)+xs.length).toNat]? =some v;rw[show((-2:Int)+(xs.length:Int)).toNat=xs.length-2 by lia];exact e
section
variable{k:Nat}{pl sm cl rs:Addr}
theorem CoS.nl(c:CoS C H0 H co k a i st dx pl sm cl rs Hz Hb ad ra){b:Addr}{xs:List V}(h:H b=some (.lst xs)):b≠co:=λz=>by rw[z,c.ob]at h;cases h
theorem CoS.at(c:CoS C H0 H co k a i st dx pl sm cl rs Hz Hb ad ra)(j:Nat):CoS C H0 (upd H co (.ins C dx (cf pl sm cl rs j))) co k a j st dx pl sm cl rs Hz Hb ad ra:=
 {ob:=AJ,pls:=c.pls,tb:=c.tb,keep:=c.keep.trans SameBut1.upd,nco:=c.nco,ncl:=c.ncl,nrs:=c.nrs,ne:=c.ne
  clo:=by rw[AE (c.nl c.clo)];exact c.clo
  res:=by rw[AE (c.nl c.res)];exact c.res
  ral:=c.ral
  rows:=λn x hx=>⟨by rw[AE (c.nl (c.rows n x hx).1)];exact(c.rows n x hx).1,(c.rows n x hx).2⟩
  h0:=λb o z=>by rw[AE (AT z c.h0co)];exact c.h0 _ _ z
  h0co:=c.h0co,h0cl:=c.h0cl,h0rs:=c.h0rs,len:=c.len,hk:=c.hk}
theorem CoS.two(c:CoS C H0 H co k a i st dx pl sm cl rs Hz Hb ad ra)(st':List Nat)(ra':List Addr)(hl:ra'.length=st'.length+1)
 (hr:∀ (j:Nat) x,ra'[j]? =some x->H x=some (iL (CP k a (st'.drop (st'.length-j))))/\x≠cl/\x≠rs):
 CoS C H0 (upd (upd H rs (.lst (ra'.map V.ref))) cl (.lst (Bg st'))) co k a i st' dx pl sm cl rs Hz Hb ad ra':=
 {ob:=by rw[AE (c.nl c.clo).symm,AE (c.nl c.res).symm];exact c.ob
  pls:=c.pls,tb:=c.tb
  keep:=λb o z hb=>by rw[AE (AT z c.ncl),AE (AT z c.nrs)];exact c.keep _ _ z hb
  nco:=c.nco,ncl:=c.ncl,nrs:=c.nrs,ne:=c.ne
  clo:=AJ
  res:=by rw[AE c.ne.symm,AJ]
  ral:=hl
  rows:=λj x hx=>by
   obtain⟨h1,h2,h3⟩:=hr j x hx;exact⟨by rw[AE h2,AE h3];exact h1,h2,h3⟩
  h0:=λb o z=>by rw[AE (AT z c.h0cl),AE (AT z c.h0rs)];exact c.h0 _ _ z
  h0co:=c.h0co,h0cl:=c.h0cl,h0rs:=c.h0rs,len:=c.len,hk:=c.hk}
theorem CoS.push(c:CoS C H0 H co k a i st dx pl sm cl rs Hz Hb ad ra){p:Nat}(hD:H D=some (iL (CP k a (p::st))))(n1:D≠cl)(n2:D≠rs):
 CoS C H0 (upd (upd H rs (.lst ((ra++[D]).map V.ref))) cl (.lst (Bg (p::st)))) co k a i (p::st) dx pl sm cl rs Hz Hb ad (ra++[D]):=by
 refine c.two (p::st) (ra++[D]) (by rw[List.length_append,c.ral];rfl) λj x hx=>?_
 by_cases h:j<ra.length
 ·rw[List.getElem?_append_left h]at hx;obtain⟨h1,h2⟩:=c.rows j x hx;refine⟨?_,h2⟩;have hr:=c.ral;rw[h1,List.length_cons,show st.length+1-j=(st.length-j)+1 by lia,List.drop_succ_cons]
 ·rw[List.getElem?_append_right (by lia)]at hx;have hj:j=ra.length:=by
   have:=(List.getElem?_eq_some_iff.mp hx).1;simp at this;lia
  subst hj;rw[Nat.sub_self]at hx;have hx:D=x:=Option.some.inj hx;subst hx;rw[c.ral,List.length_cons,Nat.sub_self,List.drop_zero];exact⟨hD,n1,n2⟩
theorem CoS.pop{o:Nat}(c:CoS C H0 H co k a i (o::s') dx pl sm cl rs Hz Hb ad ra):
 CoS C H0 (upd (upd H rs (.lst (ra.dropLast.map V.ref))) cl (.lst (Bg s'))) co k a i s' dx pl sm cl rs Hz Hb ad ra.dropLast:=by
 have hr:=c.ral;rw[List.length_cons]at hr;refine c.two s' ra.dropLast (by rw[List.length_dropLast,hr];lia) λj x hx=>?_;have hj:j<ra.dropLast.length:=(List.getElem?_eq_some_iff.mp hx).1;rw[List.length_dropLast,hr]at hj;rw[List.getElem?_dropLast,if_pos (by lia)]at hx;obtain⟨h1,h2⟩:=c.rows j x hx;refine⟨?_,h2⟩;rw[h1,List.length_cons,show s'.length+1-j=(s'.length-j)+1 by lia,List.drop_succ_cons]
end
theorem Kg{k:Nat}(hk:k<=4)(ha:a.length<=40)(i:Nat)(st:List Nat)(b:Nat):0<=mw k a i st b:=by
 unfold mw
 split
 ·exact Int.mul_nonneg (Es hk _ _).1 (GH hk ha _ _).1
 ·cases st with
  |nil=>exact Int.le_refl _
  |cons o s'=>
   show 0<=(if 2*o+1=b then pa_ k a i b*W k a (i+1) s' else 0)
   split
   ·exact Int.mul_nonneg (Es hk _ _).1 (GH hk ha _ _).1
   ·exact Int.le_refl _
def cwq(k:Nat)(a:List Nat)(i:Nat):List Nat->Nat->Int
 |[],_=>0
 |o::s',p=>if o=p then pa_ k a i (2*p+1)*W k a (i+1) s' else 0
theorem M0{k:Nat}(hi:i<a.length)(hst:∀o∈st,o<k):sm (2*k) (mw k a i st)=W k a i st:=by
 rw[LB];have e1:∀p,mw k a i st (2*p)=pa_ k a i (2*p)*W k a (i+1) (p::st):=λp=>by
  unfold mw;rw[if_pos (by lia),show 2*p/2=p by lia]
 have e2:∀p,mw k a i st (2*p+1)=cwq k a i st p:=λp=>by
  unfold mw;rw[if_neg (by lia)]
  cases st with
  |nil=>rfl
  |cons o s'=>
   show(if 2*o+1=2*p+1 then _ else _)=(if o=p then _ else _)
   by_cases h:o=p
   ·rw[if_pos h,if_pos (by lia)]
   ·rw[if_neg h,if_neg (by lia)]
 obtain⟨m,hm⟩:∃m,a.length-i=m+1:=⟨a.length-i-1,by lia⟩;have hm2:a.length-(i+1)=m:=by lia
 rw[AQ k λp _=>by rw[e1,e2],CJ];unfold W;rw[hm,hm2]
 cases st with
 |nil=>rw[Bs,BrC.sm_zero (f:=λi_1=>cwq k a i [] i_1) k (λ_ _=>rfl),Int.add_zero]
 |cons o s'=>
  rw[Bz];congr 1;have ho:=hst o List.mem_cons_self;rw[B9 (f:=λi_1=>cwq k a i (o::s') i_1) ho]
  ·show(if o=o then pa_ k a i (2*o+1)*W k a (i+1) s' else 0)=_;rw[if_pos rfl];unfold W;rw[hm2]
  ·intro j hj hne;show(if o=j then _ else _)=(0:Int);rw[if_neg (λz=>hne z.symm)]
def NF(k:Nat)(a:List Nat):Nat->List Nat->Int->List Nat->Prop
 |i,_,l,[]=>i=a.length/\l=0
 |i,st,l,b::bs=>b<2*k/\sm b (mw k a i st)<=l/\l<sm (b+1) (mw k a i st)/\NF k a (i+1) (stb st b) (l-sm b (mw k a i st)) bs
def brt(bs:List Nat):List Nat:=bs.map λb=>brs.getD b 0
def NP:Sp:=λvs H Q _=>∃ (k:Int) (a:List Nat) (n:Int),vs=[.int k,tx a, .int n]/\1<=k/\k<=4/\Ab k a=true/\0<=n/\n<W4 k.toNat a/\∀bs H',Same H H'->NF k.toNat a 0 [] n bs->bs.length=a.length->Q (tx (brt bs)) H'
theorem LZ{k:Nat}(hk:k<=4)(ha:a.length<=40)(i:Nat)(st:List Nat)(h:b<=c):sm b (mw k a i st)<=sm c (mw k a i st):=by
 induction c with
 |zero=>rw[show b=0 by lia];exact Int.le_refl _
 |succ c ih=>
  by_cases e:b=c+1
  ·rw[e];exact Int.le_refl _
  ·have h1:=ih (by lia);have h2:=Kg hk ha i st c;show _<=sm c (mw k a i st)+mw k a i st c;lia
theorem Mz{k:Nat}(hk:k<=4)(ha:a.length<=40)(hi:i<a.length)(hst:∀o∈st,o<k)(hb:b<2*k)(h:0<mw k a i st b):mw k a i st b=W k a (i+1) (stb st b)/\(b%2=1->st≠[])/\(∀o∈stb st b,o<k)/\(stb st b).length<=st.length+1:=by
 have h01:pa_ k a i b≠0->pa_ k a i b=1:=λz=>(E4 hk hi).resolve_left z
 by_cases hev:b%2=0
 ·have e:mw k a i st b=pa_ k a i b*W k a (i+1) (b/2::st):=by unfold mw;rw[if_pos hev]
  have es:stb st b=b/2::st:=by unfold stb;rw[if_pos hev]
  rw[e]at h⊢;have h1:=h01 λz=>by rw[z,Int.zero_mul]at h;exact absurd h (Int.lt_irrefl _)
  rw[es,h1,Int.one_mul];refine⟨rfl,by lia,λo ho=>?_,by simp⟩;rcases List.mem_cons.mp ho with z|z
  ·lia
  ·exact hst o z
 ·have es:stb st b=st.tail:=by unfold stb;rw[if_neg hev]
  rw[es]
  cases st with
  |nil=>
   unfold mw at h;rw[if_neg hev]at h;exact absurd h (Int.lt_irrefl _)
  |cons o s'=>
   have e:mw k a i (o::s') b=if 2*o+1=b then pa_ k a i b*W k a (i+1) s' else 0:=by unfold mw;rw[if_neg hev]
   rw[e]at h⊢
   by_cases ho:2*o+1=b
   ·rw[if_pos ho]at h⊢;have h1:=h01 λz=>by rw[z,Int.zero_mul]at h;exact absurd h (Int.lt_irrefl _)
    rw[h1,Int.one_mul];exact⟨rfl,λ_=>by simp,λx hx=>hst x (List.mem_cons_of_mem _ hx),by simp;lia⟩
   ·rw[if_neg ho]at h;exact absurd h (Int.lt_irrefl _)
theorem Jg(k:Nat)(a:List Nat)(st:List Nat):W k a a.length st=if st=[]then 1 else 0:=by
 unfold W;rw[Nat.sub_self]
 cases st<;>rfl
def num(k:Nat)(a:List Nat):Nat->List Nat->List Nat->Int
 |_,_,[]=>0
 |i,st,b::bs=>sm b (mw k a i st)+num k a (i+1) (stb st b) bs
theorem NF.first{k:Nat}(hk:k<=4)(ha:a.length<=40){l m:Int}(hl:l<=m)(h1:sm b (mw k a i st)<=l)(h2:m<sm (c+1) (mw k a i st)):b<=c:=by
 rcases Nat.lt_or_ge c b with z|z
 ·have:=LZ hk ha i st (show c+1<=b from z);lia
 ·exact z
theorem NF.uniq{k:Nat}(hk:k<=4)(ha:a.length<=40):∀ {bs cs:List Nat} {i:Nat} {st:List Nat} {l:Int},bs.length=cs.length->NF k a i st l bs->NF k a i st l cs->bs=cs
 |[],[],_,_,_,_,_,_=>rfl
 |[],_::_,_,_,_,h,_,_=>by cases h
 |_::_,[],_,_,_,h,_,_=>by cases h
 |b::bs,c::cs,i,st,l,h,g1,g2=>by
  have e1:=NF.first hk ha (Int.le_refl l) g1.2.1 g2.2.2.1;have e2:=NF.first hk ha (Int.le_refl l) g2.2.1 g1.2.2.1;have e:b=c:=by lia
  subst e;rw[NF.uniq hk ha (by simpa using h) g1.2.2.2 g2.2.2.2]
def Ear:List Nat->List Nat->Prop
 |b::bs,c::cs=>b<c\/(b=c/\Ear bs cs)
 |_,_=>False
theorem NF.ear{k:Nat}(hk:k<=4)(ha:a.length<=40):∀ {bs cs:List Nat} {i:Nat} {st:List Nat} {l m:Int},bs.length=cs.length->NF k a i st l bs->NF k a i st m cs->l<m->Ear bs cs
 |[],[],_,_,_,_,_,g1,g2,hl=>by
  have:=g1.2;have:=g2.2;lia
 |[],_::_,_,_,_,_,h,_,_,_=>by cases h
 |_::_,[],_,_,_,_,h,_,_,_=>by cases h
 |b::bs,c::cs,i,st,l,m,h,g1,g2,hl=>by
  have e1:=NF.first hk ha (Int.le_of_lt hl) g1.2.1 g2.2.2.1
  by_cases e:b=c
  ·subst e;exact .inr ⟨rfl,NF.ear hk ha (by simpa using h) g1.2.2.2 g2.2.2.2 (by lia)⟩
  ·exact .inl (by lia)
def Fi(k:Nat)(a:List Nat):Nat->List Nat->List Nat->Prop
 |i,st,[]=>i=a.length/\st=[]
 |i,st,b::bs=>b<2*k/\pa_ k a i b=1/\(b%2=1->∃s',st=b/2::s')/\Fi k a (i+1) (stb st b) bs
theorem Fi.len{k:Nat}:∀ {bs:List Nat} {i:Nat} {st:List Nat},Fi k a i st bs->i+bs.length=a.length
 |[],_,_,h=>h.1
 |b::bs,i,st,h=>by
  have:=Fi.len h.2.2.2;rw[List.length_cons];lia
theorem Fi.pos{k:Nat}(hk:k<=4)(ha:a.length<=40):∀ {bs:List Nat} {i:Nat} {st:List Nat},(∀o∈st,o<k)->Fi k a i st bs->NF k a i st (BrS.num k a i st bs) bs/\0<=BrS.num k a i st bs/\BrS.num k a i st bs<W k a i st
 |[],i,st,hst,h=>by
  obtain⟨h1,h2⟩:=h;subst h1 h2;refine⟨⟨rfl,rfl⟩,Int.le_refl _,?_⟩;rw[Jg,if_pos rfl];exact Int.zero_lt_one
 |b::bs,i,st,hst,h=>by
  obtain⟨h1,h2,h3,h4⟩:=h;have hi:i<a.length:=by have:=Fi.len h4;lia
  have hst':∀o∈stb st b,o<k:=by
   unfold stb
   split
   ·intro o ho;rcases List.mem_cons.mp ho with z|z
    ·lia
    ·exact hst o z
   ·intro o ho;exact hst o (List.mem_of_mem_tail ho)
  obtain⟨g1,g2,g3⟩:=Fi.pos hk ha hst' h4;have ew:mw k a i st b=W k a (i+1) (stb st b):=by
   unfold mw stb
   by_cases hev:b%2=0
   ·rw[if_pos hev,if_pos hev,h2,Int.one_mul]
   ·obtain⟨s',rfl⟩:=h3 (by lia);rw[if_neg hev,if_neg hev];show(if 2*(b/2)+1=b then pa_ k a i b*W k a (i+1) s' else 0)=_;rw[if_pos (by lia),h2,Int.one_mul]
    rfl
  have hs:sm (b+1) (mw k a i st)=sm b (mw k a i st)+mw k a i st b:=rfl;have h0:0<=sm b (mw k a i st):=A7 b λj _=>Kg hk ha i st j;have en:BrS.num k a i st (b::bs)=sm b (mw k a i st)+BrS.num k a (i+1) (stb st b) bs:=rfl;have hm:=LZ hk ha i st (show b+1<=2*k by lia);rw[M0 hi hst]at hm;rw[en];refine⟨⟨h1,by lia,by lia,?_⟩,by lia,by lia⟩;rw[show sm b (mw k a i st)+BrS.num k a (i+1) (stb st b) bs-sm b (mw k a i st)=BrS.num k a (i+1) (stb st b) bs by lia];exact g1
theorem NF.fl{k:Nat}(hk:k<=4)(ha:a.length<=40):∀ {bs:List Nat} {i:Nat} {st:List Nat} {l:Int},i+bs.length=a.length->(∀o∈st,o<k)->0<=l->l<W k a i st->NF k a i st l bs->Fi k a i st bs
 |[],i,st,l,hn,hst,l0,l1,h=>by
  have e:i=a.length:=h.1;subst e;rw[Jg]at l1;refine⟨rfl,?_⟩
  by_cases z:st=[]
  ·exact z
  ·rw[if_neg z]at l1;lia
 |b::bs,i,st,l,hn,hst,l0,l1,h=>by
  obtain⟨h1,h2,h3,h4⟩:=h;rw[List.length_cons]at hn;have hi:i<a.length:=by lia
  have hs:sm (b+1) (mw k a i st)=sm b (mw k a i st)+mw k a i st b:=rfl;obtain⟨ew,hodd,hst',_⟩:=Mz hk ha hi hst h1 (by lia);have hp:0<mw k a i st b:=by lia
  refine⟨h1,(E4 hk hi).resolve_left λz=>?_,λho=>?_,NF.fl hk ha (by lia) hst' (by lia) (by lia) h4⟩
  ·unfold mw at hp;rw[z]at hp
   split at hp
   ·rw[Int.zero_mul]at hp;lia
   ·cases st with
    |nil=>exact absurd hp (Int.lt_irrefl _)
    |cons o s'=>
     have hp:0<(if 2*o+1=b then 0*W k a (i+1) s' else 0):=hp
     split at hp
     ·rw[Int.zero_mul]at hp;lia
     ·lia
  ·cases st with
   |nil=>exact absurd rfl (hodd ho)
   |cons o s'=>
    unfold mw at hp;rw[if_neg (by lia)]at hp;have hp:0<(if 2*o+1=b then pa_ k a i b*W k a (i+1) s' else 0):=hp
    split at hp
    ·rename_i e
     exact⟨s',by rw[show b/2=o by lia]⟩
    ·lia
theorem UC{k:Int}{n:Int}{Q:VK}{E:XK}(h1:1<=k)(h2:k<=4)(h3:Ab k a=true)(h4:0<=n)(h5:n<W4 k.toNat a)(q:∀bs H',Same H H'->NF k.toNat a 0 [] n bs->bs.length=a.length->Q (tx (brt bs)) H'):NP ([.int k,tx a, .int n]++[]) H Q E:=⟨k,a,n,rfl,h1,h2,h3,h4,h5,q⟩
end BrS
namespace PySem
open PySem.Sem (wp)
variable{S:Nat->Heap->Prop}{P:Nat->Value->Prop}{Q:Option Value->Shared->Prop}
structure ZAp (z TI TO i1 i2:Addr) (fp1 fp2:List Addr):Prop where
 TIz:TI≠z
 TOz:TO≠z
 TITO:TI≠TO
 TIi1:TI≠i1
 TIi2:TI≠i2
 z1:z∉fp1
 z2:z∉fp2
 o1:TO∉fp1
 o2:TO∉fp2
 a12:i1∉fp2
 a21:i2∉fp1
 m1:i1∈fp1
 m2:i2∈fp2
section
variable{TI TO:Addr}{P1:Nat->Value->Prop}{a b:Value}
theorem ZAp.i1z(D:ZAp z TI TO i1 i2 fp1 fp2):i1≠z:=λe=>D.z1 (e▸D.m1)
theorem ZAp.i2z(D:ZAp z TI TO i1 i2 fp1 fp2):i2≠z:=λe=>D.z2 (e▸D.m2)
theorem ZAp.i1o(D:ZAp z TI TO i1 i2 fp1 fp2):i1≠TO:=λe=>D.o1 (e▸D.m1)
theorem ZAp.i2o(D:ZAp z TI TO i1 i2 fp1 fp2):i2≠TO:=λe=>D.o2 (e▸D.m2)
theorem Draws.but{c:Addr}(D:Draws prog w A it fp n P S)(st:S i h)(k:Heap.ExtBut c h h')(hc:c∉fp):S i h':=D.frame _ _ _ st λx hx o e=>k x o (λq=>hc (q▸hx)) e
theorem Om{Q:Value->Shared->Prop}(D:ZAp z TI TO i1 i2 fp1 fp2)(D1:Draws prog w A i1 fp1 n1 P1 S1)(D2:Draws prog w A i2 fp2 n2 P2 S2)
 (hz:IsZip s.heap z TI TO .none) (hTI:IsPair s.heap TI (.ref i1) (.ref i2)) (hTO:IsPair s.heap TO a b) (h1:S1 i s.heap) (h2:S2 i s.heap) (l1:i<n1) (l2:i<n2)
 (hQ:∀x y h' tk,P1 i x->P2 i y->IsZip h' z TI TO (rawInt s.heap.objs.size)->IsPair h' TO x y->S1 (i+1) h'->S2 (i+1) h'->IsPair h' s.heap.objs.size x y->h'.objs.size=s.heap.objs.size+1->
   (∀c o,c≠z->c≠TO->c≠i1->c≠i2->s.heap.get? c=some o->h'.get? c=some o)->Q (.ref s.heap.objs.size) {s with heap:=h',toks:=tk}):
 wpAny (model prog w) A (Builtin.«zip.__next__» ⟨[.ref z],[]⟩) (λfin s'=>∃v,fin= .done (.ret v)/\Q v s') E s:=by
 obtain⟨hp,g,d,tk₀,os⟩:=s;show wpAny _ _ (field (.ref z) 2>>=_) _ _ _;refine wpAny_bind (wpAny_field hz rfl (x:= .bool false) rfl ?_);show wpAny _ _ (field (.ref z) 3>>=_) _ _ _;refine wpAny_bind (wpAny_field hz rfl (x:= .ref TI) rfl ?_);refine wpAny_bind (wpAny_seqItems hTI rfl ?_);show wpAny _ _ (Builtin.SmallTypes.ownedTupleIsFree (.ref z)>>=_) _ _ _;refine wpAny_bind ?_;unfold Builtin.SmallTypes.ownedTupleIsFree;refine wpAny_bind (wpAny_field hz rfl (x:= .none) rfl (wpAny_pure ?_));simp only[if_true];refine wpAny_bind (wpAny_rule ?_);refine wpAny_bind (wpAny_field hz rfl (x:= .ref TO) rfl ?_);refine wpAny_bind (wpAny_setField_rec hz (by simp) λh₁ hz₁ hs₁=>?_)
 replace hz₁:IsZip h₁ z TI TO .ellipsis:=hz₁
 replace hs₁:Heap.SameBut z hp h₁:=hs₁
 refine wpAny_bind ?_;simp only[List.zipIdx_cons,List.zipIdx_nil,List.forIn_cons,List.forIn_nil];refine wpAny_bind (wpAny_bind (wpAny_onRaise ?_));show wpAny _ _ (Builtin.SmallTypes.nextOf (.ref i1)>>=_) _ _ _;refine wpAny_bind (D1.item i _ _ _ l1 (D1.but h1 hs₁.extBut D.z1) λx h₂ tk₂ hx h1₂ hs₂=>wpAny_pure ?_)
 replace hs₂:Heap.SameBut i1 h₁ h₂:=hs₂
 have hTO₂:IsPair h₂ TO a b:=hs₂.extBut _ _ D.i1o.symm (hs₁.extBut _ _ D.TOz hTO);refine wpAny_bind (wpAny_seqItems hTO₂ rfl ?_);refine wpAny_bind (wpAny_updateSeq_pair hTO₂ λh₃ hTO₃ hs₃=>?_)
 replace hTO₃:IsPair h₃ TO x b:=hTO₃
 replace hs₃:Heap.SameBut TO h₂ h₃:=hs₃
 refine wpAny_bind (wpAny_letGo (wpAny_pure ?_));refine wpAny_bind (wpAny_bind (wpAny_onRaise ?_));show wpAny _ _ (Builtin.SmallTypes.nextOf (.ref i2)>>=_) _ _ _;refine wpAny_bind (D2.item i _ _ _ l2 (D2.but (D2.but (D2.but h2 hs₁.extBut D.z2) hs₂.extBut D.a12) hs₃.extBut D.o2) λy h₄ tk₄ hy h2₄ hs₄=>wpAny_pure ?_)
 replace hs₄:Heap.SameBut i2 h₃ h₄:=hs₄
 have hTO₄:IsPair h₄ TO x b:=hs₄.extBut _ _ D.i2o.symm hTO₃;refine wpAny_bind (wpAny_seqItems hTO₄ rfl ?_);refine wpAny_bind (wpAny_updateSeq_pair hTO₄ λh₅ hTO₅ hs₅=>?_)
 replace hTO₅:IsPair h₅ TO x y:=hTO₅
 replace hs₅:Heap.SameBut TO h₄ h₅:=hs₅
 refine wpAny_bind (wpAny_letGo (wpAny_pure (wpAny_pure ?_)));refine wpAny_bind (wpAny_seqItems hTO₅ rfl ?_);refine wpAny_bind (wpAny_newTuple ?_);have hsz:h₅.objs.size=hp.objs.size:=by rw[hs₅.1,hs₄.1,hs₃.1,hs₂.1,hs₁.1]
 have hz₅:IsZip h₅ z TI TO .ellipsis:=hs₅.extBut _ _ D.TOz.symm (hs₄.extBut _ _ D.i2z.symm (hs₃.extBut _ _ D.TOz.symm (hs₂.extBut _ _ D.i1z.symm hz₁)));have hk₅:∀c o,c≠z->c≠TO->c≠i1->c≠i2->hp.get? c=some o->h₅.get? c=some o:=λc o c1 c2 c3 c4 e=>
  hs₅.extBut _ _ c2 (hs₄.extBut _ _ c4 (hs₃.extBut _ _ c2 (hs₂.extBut _ _ c3 (hs₁.extBut _ _ c1 e))))
 have h1₅:S1 (i+1) h₅:=D1.but (D1.but (D1.but h1₂ hs₃.extBut D.o1) hs₄.extBut D.a21) hs₅.extBut D.o1;have h2₅:S2 (i+1) h₅:=D2.but h2₄ hs₅.extBut D.o2;have hzlt:z<h₅.objs.size:=Heap.lt_size hz₅;show wpAny _ _ (Builtin.SmallTypes.ownedTupleHandOut (.ref z) (.ref h₅.objs.size)>>=_) _ _ _;refine wpAny_bind ?_;unfold Builtin.SmallTypes.ownedTupleHandOut;have hz₆:IsZip (h₅.push {cls:= .type "tuple",data:= .seq #[x,y]}) z TI TO .ellipsis:=Heap.get?_push_of_some _ hz₅;refine wpAny_bind (wpAny_setField_rec hz₆ (by simp) λh₇ hz₇ hs₇=>?_)
 replace hz₇:IsZip h₇ z TI TO (rawInt h₅.objs.size):=hz₇
 replace hs₇:Heap.SameBut z (h₅.push {cls:= .type "tuple",data:= .seq #[x,y]}) h₇:=hs₇
 refine wpAny_setField_rec hz₇ (by simp) λh₈ hz₈ hs₈=>?_
 replace hz₈:IsZip h₈ z TI TO (rawInt h₅.objs.size):=hz₈
 replace hs₈:Heap.SameBut z h₇ h₈:=hs₈
 have up:∀c o,c≠z->h₅.get? c=some o->h₈.get? c=some o:=λc o c1 e=>hs₈.extBut _ _ c1 (hs₇.extBut _ _ c1 (Heap.get?_push_of_some _ e));have hT₈:IsPair h₈ h₅.objs.size x y:=hs₈.extBut _ _ (Nat.ne_of_gt hzlt) (hs₇.extBut _ _ (Nat.ne_of_gt hzlt) (Heap.get?_push_size _ rfl));have hz8:h₈.objs.size=h₅.objs.size+1:=by rw[hs₈.1,hs₇.1,Heap.size_push]
 rw[hsz]at hz₈ hT₈ hz8;refine wpAny_pure ⟨_,rfl,?_⟩;show Q (.ref h₅.objs.size) _;rw[hsz];exact hQ x y h₈ _ hx hy hz₈ (up _ _ D.TOz hTO₅) (D1.frame _ _ _ h1₅ λc hc o e=>up c o (λq=>D.z1 (q▸hc)) e) (D2.frame _ _ _ h2₅ λc hc o e=>up c o (λq=>D.z2 (q▸hc)) e) hT₈ hz8 λc o c1 c2 c3 c4 e=>up c o c1 (hk₅ c o c1 c2 c3 c4 e)
theorem O2{Q:Fin->Shared->Prop}(D:ZAp z TI TO i1 i2 fp1 fp2)(D1:Draws prog w A i1 fp1 n1 P1 S1)(D2:Draws prog w A i2 fp2 n2 P2 S2)
 (hz:IsZip s.heap z TI TO .none) (hTI:IsPair s.heap TI (.ref i1) (.ref i2)) (hTO:IsPair s.heap TO a b) (h1:S1 i s.heap) (h2:S2 i s.heap) (hend:i=n1\/(i<n1/\i=n2))
 (hE:∀h' tk e,(∀c o,c≠z->c≠TO->c≠i1->c≠i2->s.heap.get? c=some o->h'.get? c=some o)->(∃o,h'.get? e=some o/\o.cls= .type "StopIteration")->E (.ref e) {s with heap:=h',toks:=tk}):
 wpAny (model prog w) A (Builtin.«zip.__next__» ⟨[.ref z],[]⟩) Q E s:=by
 obtain⟨hp,g,d,tk₀,os⟩:=s;show wpAny _ _ (field (.ref z) 2>>=_) _ _ _;refine wpAny_bind (wpAny_field hz rfl (x:= .bool false) rfl ?_);show wpAny _ _ (field (.ref z) 3>>=_) _ _ _;refine wpAny_bind (wpAny_field hz rfl (x:= .ref TI) rfl ?_);refine wpAny_bind (wpAny_seqItems hTI rfl ?_);show wpAny _ _ (Builtin.SmallTypes.ownedTupleIsFree (.ref z)>>=_) _ _ _;refine wpAny_bind ?_;unfold Builtin.SmallTypes.ownedTupleIsFree;refine wpAny_bind (wpAny_field hz rfl (x:= .none) rfl (wpAny_pure ?_));simp only[if_true];refine wpAny_bind (wpAny_rule ?_);refine wpAny_bind (wpAny_field hz rfl (x:= .ref TO) rfl ?_);refine wpAny_bind (wpAny_setField_rec hz (by simp) λh₁ hz₁ hs₁=>?_)
 replace hz₁:IsZip h₁ z TI TO .ellipsis:=hz₁
 replace hs₁:Heap.SameBut z hp h₁:=hs₁
 refine wpAny_bind ?_;simp only[List.zipIdx_cons,List.zipIdx_nil,List.forIn_cons,List.forIn_nil];refine wpAny_bind (wpAny_bind (wpAny_onRaise ?_));show wpAny _ _ (Builtin.SmallTypes.nextOf (.ref i1)>>=_) _ _ _;rcases hend with rfl|⟨l1,rfl⟩
 ·refine wpAny_bind (D1.done _ _ _ (D1.but h1 hs₁.extBut D.z1) λh₂ e hs₂ he=>?_)
  replace hs₂:Heap.ExtBut i1 h₁ h₂:=hs₂
  obtain⟨oe,hoe,hce⟩:=he;have hz₂:IsZip h₂ z TI TO .ellipsis:=hs₂ _ _ D.i1z.symm hz₁;have hez:e≠z:=λx=>by subst x;rw[hz₂]at hoe;cases hoe;simp at hce
  refine wpAny_setField_rec hz₂ (by simp) λh₃ _ hs₃=>?_
  replace hs₃:Heap.SameBut z h₂ h₃:=hs₃
  exact hE h₃ _ e (λc o c1 _ c3 _ x=>hs₃.extBut _ _ c1 (hs₂ _ _ c3 (hs₁.extBut _ _ c1 x))) ⟨oe,hs₃.extBut _ _ hez hoe,hce⟩
 ·refine wpAny_bind (D1.item i _ _ _ l1 (D1.but h1 hs₁.extBut D.z1) λx h₂ tk₂ hx h1₂ hs₂=>wpAny_pure ?_)
  replace hs₂:Heap.SameBut i1 h₁ h₂:=hs₂
  have hTO₂:IsPair h₂ TO a b:=hs₂.extBut _ _ D.i1o.symm (hs₁.extBut _ _ D.TOz hTO);refine wpAny_bind (wpAny_seqItems hTO₂ rfl ?_);refine wpAny_bind (wpAny_updateSeq_pair hTO₂ λh₃ hTO₃ hs₃=>?_)
  replace hs₃:Heap.SameBut TO h₂ h₃:=hs₃
  refine wpAny_bind (wpAny_letGo (wpAny_pure ?_));refine wpAny_bind (wpAny_bind (wpAny_onRaise ?_));show wpAny _ _ (Builtin.SmallTypes.nextOf (.ref i2)>>=_) _ _ _;refine wpAny_bind (D2.done _ _ _ (D2.but (D2.but (D2.but h2 hs₁.extBut D.z2) hs₂.extBut D.a12) hs₃.extBut D.o2) λh₄ e hs₄ he=>?_)
  replace hs₄:Heap.ExtBut i2 h₃ h₄:=hs₄
  obtain⟨oe,hoe,hce⟩:=he;have hz₄:IsZip h₄ z TI TO .ellipsis:=hs₄ _ _ D.i2z.symm (hs₃.extBut _ _ D.TOz.symm (hs₂.extBut _ _ D.i1z.symm hz₁));have hez:e≠z:=λx=>by subst x;rw[hz₄]at hoe;cases hoe;simp at hce
  refine wpAny_setField_rec hz₄ (by simp) λh₅ _ hs₅=>?_
  replace hs₅:Heap.SameBut z h₄ h₅:=hs₅
  exact hE h₅ _ e (λc o c1 c2 c3 c4 x=>hs₅.extBut _ _ c1 (hs₄ _ _ c4 (hs₃.extBut _ _ c2 (hs₂.extBut _ _ c3 (hs₁.extBut _ _ c1 x))))) ⟨oe,hs₅.extBut _ _ hez hoe,hce⟩
theorem Pb(D:ZAp z TI TO i1 i2 fp1 fp2)(D1:Draws prog w A.in1 i1 fp1 n1 P1 S1)(D2:Draws prog w A.in1 i2 fp2 n2 P2 S2)
 (hz:IsZip s.heap z TI TO .none) (hTI:IsPair s.heap TI (.ref i1) (.ref i2)) (hTO:IsPair s.heap TO a b) (h1:S1 i s.heap) (h2:S2 i s.heap) (l1:i<n1) (l2:i<n2)
 (hQ:∀x y h' tk,P1 i x->P2 i y->IsZip h' z TI TO (rawInt s.heap.objs.size)->IsPair h' TO x y->S1 (i+1) h'->S2 (i+1) h'->IsPair h' s.heap.objs.size x y->h'.objs.size=s.heap.objs.size+1->
   (∀c o,c≠z->c≠TO->c≠i1->c≠i2->s.heap.get? c=some o->h'.get? c=some o)->Q (some (.ref s.heap.objs.size)) {s with heap:=h',toks:=tk}):
 wpAny (model prog w) A (pyNext (.ref z)) Q E s:=by
 have hT:s.TypeIs (.ref z) "zip":=⟨_,hz,rfl⟩;unfold pyNext;exact wpAny_bind (wpAny_attempt (wpAny_callSpecial?_slot (name:=Str.ofString "__next__") hT F.slot_zip_next
  (wpAny_call_entry F.slot_zip_next hT F.entry_zip_next
    (Om D D1 D2 hz hTI hTO h1 h2 l1 l2 λx y h' tk p1 p2 a1 a2 a3 a4 a5 a6 a7=>wpAny_pure (hQ x y h' tk p1 p2 a1 a2 a3 a4 a5 a6 a7)) (F.args_zip_next_1 _))))
theorem Og(D:ZAp z TI TO i1 i2 fp1 fp2)(D1:Draws prog w A.in1 i1 fp1 n1 P1 S1)(D2:Draws prog w A.in1 i2 fp2 n2 P2 S2)
 (hz:IsZip s.heap z TI TO .none) (hTI:IsPair s.heap TI (.ref i1) (.ref i2)) (hTO:IsPair s.heap TO a b) (h1:S1 i s.heap) (h2:S2 i s.heap) (hend:i=n1\/(i<n1/\i=n2))
 (hQ:∀h' tk,(∀c o,c≠z->c≠TO->c≠i1->c≠i2->s.heap.get? c=some o->h'.get? c=some o)->Q none {s with heap:=h',toks:=tk}):wpAny (model prog w) A (pyNext (.ref z)) Q E s:=by
 have hT:s.TypeIs (.ref z) "zip":=⟨_,hz,rfl⟩;unfold pyNext;refine wpAny_bind (wpAny_attempt (wpAny_callSpecial?_slot (name:=Str.ofString "__next__") hT F.slot_zip_next
  (wpAny_call_entry F.slot_zip_next hT F.entry_zip_next (O2 D D1 D2 hz hTI hTO h1 h2 hend λh' tk e hk he=>?_) (F.args_zip_next_1 _))))
 obtain⟨o,ho,hc⟩:=he;refine wpAny_bind (wpAny_isInstance (T:="StopIteration") (b:=true) ⟨o,ho,hc⟩ isSubtype_stop ?_);exact wpAny_pure (hQ _ _ hk)
end
abbrev sit(x:Str)(t:Tok):Obj:={cls:= .type (strIterType x),data:= .fields #[.str x t, .int 0 0]}
end PySem
namespace L2
variable{P:Program}{σ:W2}
section
variable{k:Nat}
theorem RN{TI TO:Addr}{P1:Nat->Value->Prop}{a b:Value}{Qx Qy:Value->V->Prop}
 (D:ZAp z TI TO i1 i2 fp1 fp2) (D1:Draws X.prog X.w X.A.in1 i1 fp1 n1 P1 S1) (D2:Draws X.prog X.w X.A.in1 i2 fp2 n2 P2 S2) (I:Inv X pins σ H s) (hf:∀b∈[z,TI,TO,i1,i2],BF X pins H b)
 (hz:IsZip s.heap z TI TO .none) (hTI:IsPair s.heap TI (.ref i1) (.ref i2)) (hTO:IsPair s.heap TO a b) (h1:S1 i s.heap) (h2:S2 i s.heap) (l1:i<n1) (l2:i<n2)
 (tnk:∀h' x y,IsZip h' z TI TO .none->IsPair h' TI (.ref i1) (.ref i2)->IsPair h' TO x y->S1 (i+1) h'->S2 (i+1) h'->tn h') (y1:∀v,P1 i v->∃q,RelV q v/\Qx v q) (y2:∀v,P2 i v->∃q,RelV q v/\Qy v q):
 wpAny (model X.prog X.w) X.A (pyNext (.ref z)) (λr s1=>∃u,r=some u/\wpAny (model X.prog X.w) X.A (letOwnedTupleGo (.Tuple elts k tpos) (.ref z) u) (λ_ s2=>∃x H',Inv X pins σ H' s2/\RelV x u/\
  (∃T q1 q2 v1 v2,H T=none/\Qx v1 q1/\Qy v2 q2/\x= .ref T/\H'=upd H T (.tup [q1,q2]))/\tn s2.heap/\∀b∈[z,TI,TO,i1,i2],H' b=none) E s1) E s:=by
 refine Pb D D1 D2 hz hTI hTO h1 h2 l1 l2 λx y h1' tk p1 p2 a1 a2 a3 a4 a5 a6 a7=>⟨_,rfl,wpAny_letOwnedTupleGo_zip a1 λh2' hz2 hs2=>?_⟩
 replace hs2:Heap.SameBut z h1' h2':=hs2
 obtain⟨q1,r1,e1⟩:=y1 x p1;obtain⟨q2,r2,e2⟩:=y2 y p2;have hzl:z<s.heap.objs.size:=Heap.lt_size hz;have hT2:h2'.get? s.heap.objs.size=some {cls:= .type "tuple",data:= .seq #[x,y]}:=(hs2.2 _ (Nat.ne_of_gt hzl)).trans a5;have ob:ObjOk X.prog X.w (upd H s.heap.objs.size (.tup [q1,q2])) h2' s.heap.objs.size (.tup [q1,q2]):=⟨(by show 2<=sizeLine;decide),[x,y], .cons r1 (.cons r2 .nil),⟨_,hT2,rfl,_,rfl⟩⟩;have I2:Inv X pins σ (upd H s.heap.objs.size (.tup [q1,q2])) {s with heap:=h2',toks:=tk}:=I.turnedLaid hf (λb u hb q=>(hs2.2 b (λz=>hb (by simp[z]))).trans (a7 b u (λz=>hb (by simp[z])) (λz=>hb (by simp[z])) (λz=>hb (by simp[z])) (λz=>hb (by simp[z])) q)) (Nat.le_refl _) ob;have up:∀c o,c≠z->h1'.get? c=some o->h2'.get? c=some o:=λc o hc e=>(hs2.2 c hc).trans e;refine⟨.ref s.heap.objs.size,_,I2,rfl,⟨s.heap.objs.size,q1,q2,x,y,I.hok.fresh (Nat.le_refl _),e1,e2,rfl,rfl⟩,tnk h2' x y hz2 (up _ _ D.TIz (a7 _ _ D.TIz D.TITO D.TIi1 D.TIi2 hTI)) (up _ _ D.TOz a2) (D1.frame _ _ _ a3 λc hc o e=>up c o (λq=>D.z1 (q▸hc)) e) (D2.frame _ _ _ a4 λc hc o e=>up c o (λq=>D.z2 (q▸hc)) e),λb hb=>?_⟩;have hlt:b<s.heap.objs.size:=by
  simp only[List.mem_cons,List.not_mem_nil,or_false]at hb;rcases hb with e|e|e|e|e
  ·rw[e];exact hzl
  ·rw[e];exact Heap.lt_size hTI
  ·rw[e];exact Heap.lt_size hTO
  ·rw[e];obtain⟨_,q⟩:=D1.live _ _ h1;exact Heap.lt_size q
  ·rw[e];obtain⟨_,q⟩:=D2.live _ _ h2;exact Heap.lt_size q
 rw[AE (Nat.ne_of_lt hlt)];exact(hf b hb).1
end
theorem Vr(it:Addr)(x:Str)(t:Tok):∀A:Around,A.handled=none->Draws P w A it [it] x.cps.size (λi v=>∃c u,x.cps[i]? =some c/\v= .str ⟨#[c]⟩ u) (λi h=>h.IsStrIter it (strIterType x) x t i):=λA hh=>by
 cases ha:x.cps.all (· <128)
 ·have e:strIterType x="str_iterator":=by simp[strIterType,ha]
  rw[e];exact Draws.strWide hh _ x t
 ·have e:strIterType x="str_ascii_iterator":=by simp[strIterType,ha]
  rw[e];exact Draws.strAscii hh _ x t
section
variable{a b:Expr}{ta:TA}{p pos:Pos}{k:Nat}
theorem Vp(I:Inv X pins σ H s):∀b∈[s.heap.objs.size+4,s.heap.objs.size+2,s.heap.objs.size+3,s.heap.objs.size,s.heap.objs.size+1],BF X pins H b:=λb hb=>by
 have:s.heap.objs.size<=b:=by
  simp only[List.mem_cons,List.not_mem_nil,or_false]at hb;rcases hb with e|e|e|e|e<;>lia
 exact I.fpOk this (I.hok.fresh this)
theorem Wg(n:Nat):ZAp (n+4) (n+2) (n+3) n (n+1) [n] [n+1]:=by
 constructor<;>simp<;>lia
end
end L2
namespace BrS
theorem Ca(h:b<8):brs[b]? =some (brs.getD b 0):=by
 match b,h with
 |0,_=>rfl
 |1,_=>rfl
 |2,_=>rfl
 |3,_=>rfl
 |4,_=>rfl
 |5,_=>rfl
 |6,_=>rfl
 |7,_=>rfl
theorem MX:∀o,o<4->brs.getD (2*o) 0∈opn/\clo (brs.getD (2*o) 0)=brs.getD (2*o+1) 0/\brs.getD (2*o+1) 0∉opn:=by decide
theorem Vx:∀b,b<8->brs.getD b 0≠63:=by decide
theorem Ig:∀b,b<8->∀c,c<8->brs.getD b 0=brs.getD c 0->b=c:=by decide
theorem MW:∀k:Nat,k<=4->∀b,b<2*k->brs.getD b 0∈sgn (k:Int):=by decide +kernel
def cl_(st:List Nat):List Nat:=st.map λo=>brs.getD (2*o+1) 0
theorem Fi.run{k:Nat}(hk:k<=4):∀ {bs:List Nat} {i:Nat} {st:List Nat},(∀o∈st,o<k)->Fi k a i st bs->run (cl_ st) (brt bs)=some []
 |[],i,st,hst,h=>by
  obtain⟨_,rfl⟩:=h
  rfl
 |b::bs,i,st,hst,h=>by
  obtain⟨h1,h2,h3,h4⟩:=h;have e:brt (b::bs)=brs.getD b 0::brt bs:=rfl;rw[e];show(BrM.stp (cl_ st) (brs.getD b 0)).bind _=_
  by_cases hev:b%2=0
  ·obtain⟨q1,q2,q3⟩:=MX (b/2) (by lia);rw[show 2*(b/2)=b by lia]at q1 q2 q3;rw[HY q1,q2];have es:stb st b=b/2::st:=by unfold stb;rw[if_pos hev]
   rw[es]at h4;have:=Fi.run hk (st:=b/2::st) (λo ho=>by
    rcases List.mem_cons.mp ho with z|z
    ·lia
    ·exact hst o z) h4
   have ec:cl_ (b/2::st)=brs.getD (b+1) 0::cl_ st:=by
    show brs.getD (2*(b/2)+1) 0::cl_ st=_;rw[show 2*(b/2)=b by lia]
   rw[ec]at this;exact this
  ·obtain⟨s',rfl⟩:=h3 (by lia);obtain⟨q1,q2,q3⟩:=MX (b/2) (by lia);have eb:2*(b/2)+1=b:=by lia
   rw[eb]at q3;have ec:cl_ (b/2::s')=brs.getD b 0::cl_ s':=by
    show brs.getD (2*(b/2)+1) 0::cl_ s'=_;rw[eb]
   rw[ec,HH q3];have es:stb (b/2::s') b=s':=by unfold stb;rw[if_neg hev];rfl
   rw[es]at h4;exact Fi.run hk (λo ho=>hst o (List.mem_cons_of_mem _ ho)) h4
theorem WW{k:Nat}(h:a[i]? =some c)(b:Nat):pa_ k a i b=pw k c b:=by
 show((a.map (plw (ones k))).getD i []).getD b 0=_;have e:(a.map (plw (ones k))).getD i []=plw (ones k) c:=by rw[List.getD_eq_getElem?_getD,List.getElem?_map,h];rfl
 rw[e];rfl
def Fll(k:Nat):List Nat->List Nat->List Nat->Prop
 |[],st,[]=>st=[]
 |c::r,st,b::bs=>b<2*k/\pw k c b=1/\(b%2=1->∃s',st=b/2::s')/\Fll k r (stb st b) bs
 |_,_,_=>False
theorem Fi.l{k:Nat}:∀ {bs:List Nat} {i:Nat} {st:List Nat},Fi k a i st bs->Fll k (a.drop i) st bs
 |[],i,st,h=>by
  obtain⟨rfl,rfl⟩:=h;rw[List.drop_length]
  rfl
 |b::bs,i,st,h=>by
  have hi:i<a.length:=by have:=h.len;rw[List.length_cons]at this;lia
  obtain⟨h1,h2,h3,h4⟩:=h;rw[List.drop_eq_getElem_cons hi];rw[WW (List.getElem?_eq_getElem hi)]at h2;exact⟨h1,h2,h3,Fi.l h4⟩
theorem Fll.lt{k:Nat}:∀ {a st bs:List Nat},Fll k a st bs->∀b∈bs,b<2*k
 |[],_,[],_,_,hb=>nomatch hb
 |c::r,st,b::bs,h,x,hx=>by
  rcases List.mem_cons.mp hx with z|z
  ·rw[z];exact h.1
  ·exact Fll.lt h.2.2.2 x z
 |[],_,_::_,h,_,_=>h.elim
 |_::_,_,[],h,_,_=>h.elim
theorem Q7{k:Nat}{bs:List Nat}(hk:k<=4)(hl:bs.length<=40)(h:∀b∈bs,b<2*k):Ab (k:Int) (brt bs)=true:=by
 unfold Ab brt;rw[Bool.and_eq_true,List.length_map];refine⟨decide_eq_true hl,?_⟩;rw[List.all_eq_true];intro c hc;obtain⟨b,hb,rfl⟩:=List.mem_map.mp hc;exact decide_eq_true (MW k hk b (h b hb))
end BrS
namespace L2
variable{σ:W2}
section
variable{Q:VK}
theorem Li{a:Addr}{xs:List V}{g:TG}(hn:xs.length<=sizeLine)(ha:H a=some (.lst xs))(Iv:Nat->List V->Prop)(h0:Iv 0 [])
 (hst:∀D ys H',H D=none->H' D=some (.lst ys)->ys.length=xs.length->Same H H'->Iv xs.length ys->Q (.ref D) H')
 (hs:∀ (i:Nat) (x:V) (ys:List V) (H':Hp) (R:V->Hp->Prop),xs[i]? =some x->ys.length=i->Same H H'->Iv i ys->(∀v H6,Same H' H6->Iv (i+1) (ys++[v])->R v H6)->g x (Aa own sel σ) H' λσ4 H4=>te σ4 H4 R):BL (Itl K a) own sel σ g tYes te Q H:=by
 refine Dh (λi=>xs.getD i .non) hn (λ_ i ys _=>Iv i ys) (λi H' hi sH=>⟨_,xs[i],SqL.of (sH _ _ ha),List.getElem?_eq_getElem hi⟩) (λH' sH=>⟨_,SqL.of (sH _ _ ha),Nat.le_refl _⟩) (λi H1 x H' hi sH y=>?_)
  (λ_ _=>h0) (λ_ _ _ _ _ _ e _=>e) (λD ys H' hD hy hl sH e=>hst D ys H' hD hy hl sH e)
  (λD i ys H' R hD hi hy hl sH e r=>?_)
 ·obtain⟨rfl,hx⟩:=y;have:=hx _ (SqL.of (sH _ _ ha));exact⟨rfl,by rw[List.getD_eq_getElem?_getD,this];rfl⟩
 ·have ec:xs[i]? =some xs[i]:=List.getElem?_eq_getElem hi;have eg:xs.getD i .non=xs[i]:=by rw[List.getD_eq_getElem?_getD,ec];rfl
  rw[eg];exact hs i xs[i] ys H' R ec hl sH e r
end
theorem RE(ns:List Int):eqVs (ns.map V.int) (ns.map V.int)=true:=by
 induction ns with
 |nil=>rfl
 |cons n r ih=>
  show(decide (n=n)&&eqVs (r.map V.int) (r.map V.int))=true;rw[ih,decide_eq_true rfl];rfl
theorem NR{ta:TA}{D:Ends}(h:ta σ H λvs H1=>∃v w,vs=[v,w]/\D.nx ((σ.set i (some v)).set j (some w)) H1):Nk i j ta D σ H:=h
end L2
namespace BrS
def Im(K:W.Frag)(cs:Cs):Sp:=λvs H Q E=>NP vs H Q E\/∃kv v iv,vs=[kv,v,iv]/\(Gate K cs H E kv v\/∃ (k:Int) (a:List Nat),kv= .int k/\v=tx a/\1<=k/\k<=4/\Ab k a=true/\NoN K 0 (W4 k.toNat a-1) H iv/\Ref E cs.NoNumber H)
theorem LP{cs:Cs}{k:Int}{n:Int}{Q:VK}{E:XK}(h1:1<=k)(h2:k<=4)(h3:Ab k a=true)(h4:0<=n)(h5:n<W4 k.toNat a)(q:∀bs H',Same H H'->NF k.toNat a 0 [] n bs->bs.length=a.length->Q (tx (brt bs)) H'):Im K cs [.int k,tx a, .int n] H Q E:= .inl (UC h1 h2 h3 h4 h5 q)
end BrS
namespace BrB
variable{f g h:List Nat->Int}{S T:List Nat->Prop}{p s t:Nat}
def cl:List Nat->Nat->Option (List Nat)
 |[],_=>none
 |p::s,q=>if p=q then some s else none
theorem Ie(p:Nat)(s:List Nat)(q:Nat):cl (p::s) q=if p=q then some s else none:=rfl
def nx(k:Nat)(st:List Nat)(b:Nat):Option (List Nat):=if b<2*k then(if b%2=0 then some (b/2::st)else cl st (b/2))else none
def go(k:Nat):List Nat->List Nat->Option (List Nat)
 |st,[]=>some st
 |st,b::r=>(nx k st b).bind λs=>go k s r
theorem Aq{k:Nat}(st:List Nat):go k st []=some st:=by rw[go]
theorem A0{k:Nat}(st:List Nat)(b:Nat)(r:List Nat):go k st (b::r)=(nx k st b).bind λs=>go k s r:=by rw[go]
theorem BR{k:Nat}{s:List Nat}(h:nx k st b=some s):b<2*k/\((b%2=0/\s=b/2::st)\/(b%2=1/\st=b/2::s)):=by
 unfold nx at h
 by_cases h1:b<2*k
 ·rw[if_pos h1]at h
  by_cases h2:b%2=0
  ·rw[if_pos h2]at h;cases h;exact⟨h1, .inl ⟨h2,rfl⟩⟩
  ·rw[if_neg h2]at h
   cases st with
   |nil=>cases h
   |cons p q=>
    rw[Ie]at h
    by_cases h3:p=b/2
    ·rw[if_pos h3]at h;cases h;exact⟨h1, .inr ⟨by lia,by rw[h3]⟩⟩
    ·rw[if_neg h3]at h;cases h
 ·rw[if_neg h1]at h;cases h
theorem UB{k:Nat}(st:List Nat)(h:p<k):nx k st (2*p)=some (p::st):=by
 unfold nx;rw[if_pos (by lia),if_pos (by lia),show 2*p/2=p by lia]
theorem R4{k:Nat}(st:List Nat)(h:p<k):nx k (p::st) (2*p+1)=some st:=by
 unfold nx;rw[if_pos (by lia),if_neg (by lia),show(2*p+1)/2=p by lia];rw[Ie,if_pos rfl]
theorem JY{k:Nat}{s:List Nat}(h1:b<2*k)(h:(b%2=0/\s=b/2::st)\/(b%2=1/\st=b/2::s)):nx k st b=some s:=by
 rcases h with⟨h2,rfl⟩|⟨h2,rfl⟩
 ·unfold nx;rw[if_pos h1,if_pos h2]
 ·unfold nx;rw[if_pos h1,if_neg (by lia)];rw[Ie,if_pos rfl]
def Rg(k:Nat)(l:List Nat):Prop:=go k [] l=some []
theorem Dm{k:Nat}(st r:List Nat)(h:p<k):go k st (2*p::r)=go k (p::st) r:=by rw[A0,UB st h];rfl
theorem Dg{k:Nat}(st r:List Nat)(h:p<k):go k (p::st) ((2*p+1)::r)=go k st r:=by rw[A0,R4 st h];rfl
theorem BX{k:Nat}:∀ (l r st:List Nat),go k st (l++r)=(go k st l).bind λs=>go k s r
 |[],r,st=>by rw[List.nil_append,Aq];rfl
 |b::l,r,st=>by
  rw[List.cons_append,A0,A0]
  cases nx k st b with
  |none=>rfl
  |some s=>exact BX l r s
theorem WX{k:Nat}{s:List Nat}(more:List Nat)(h:nx k st b=some s):nx k (st++more) b=some (s++more):=by
 obtain⟨h1,h2⟩:=BR h;refine JY h1 (h2.imp (λ⟨a,e⟩=>⟨a,by rw[e];rfl⟩) λ⟨a,e⟩=>⟨a,by rw[e];rfl⟩)
theorem Je{k:Nat}:∀ (l st s more:List Nat),go k st l=some s->go k (st++more) l=some (s++more)
 |[],st,s,more,h=>by rw[Aq]at h⊢;cases h;rfl
 |b::l,st,s,more,h=>by
  rw[A0]at h⊢;obtain⟨s1,h1,h2⟩:=Option.bind_eq_some_iff.mp h;rw[WX more h1];exact Je l s1 s more h2
theorem Lz{k:Nat}{u v:List Nat}(hp:p<k)(hu:Rg k u)(hv:Rg k v):Rg k (2*p::(u++(2*p+1)::v)):=by
 unfold Rg;have h:=Je u [] [] [p] hu;rw[List.nil_append]at h;rw[Dm _ _ hp,BX,h];show go k [p] _=_;rw[Dg _ _ hp];exact hv
theorem Hs{k:Nat}:∀ (n:Nat) (r:List Nat) (p:Nat) (st:List Nat),r.length<=n->go k (p::st) r=some []->p<k->∃u v,r=u++(2*p+1)::v/\Rg k u/\go k st v=some []
 |0,[],p,st,_,h,_=>by rw[Aq]at h;cases h
 |n+1,[],p,st,_,h,_=>by rw[Aq]at h;cases h
 |n+1,b::r,p,st,hl,h,hp=>by
  rw[A0]at h;obtain⟨s1,h1,h2⟩:=Option.bind_eq_some_iff.mp h;obtain⟨hb,⟨h3,rfl⟩|⟨h3,h4⟩⟩:=BR h1
  ·have hl':r.length<=n:=by simpa using hl
   obtain⟨u1,v1,e1,g1,g2⟩:=Hs n r (b/2) (p::st) hl' h2 (by lia);have hv1:v1.length<=n:=by rw[e1]at hl';simp at hl';lia
   obtain⟨u2,v2,e2,g3,g4⟩:=Hs n v1 p st hv1 g2 hp;refine⟨2*(b/2)::(u1++(2*(b/2)+1)::u2),v2,?_,Lz (by lia) g1 g3,g4⟩;rw[e1,e2,show 2*(b/2)=b by lia];simp
  ·cases h4
   exact⟨[],r,by rw[List.nil_append,show 2*(b/2)+1=b by lia],by unfold Rg;rw[Aq],h2⟩
theorem Rj{k:Nat}{l:List Nat}(h:Rg k l):l=[]\/∃p u v,p<k/\l=2*p::(u++(2*p+1)::v)/\Rg k u/\Rg k v:=by
 cases l with
 |nil=>exact .inl rfl
 |cons b r=>
  unfold Rg at h;rw[A0]at h;obtain⟨s1,h1,h2⟩:=Option.bind_eq_some_iff.mp h;obtain⟨hb,⟨h3,rfl⟩|⟨h3,h4⟩⟩:=BR h1
  ·obtain⟨u,v,e,g1,g2⟩:=Hs r.length r (b/2) [] (Nat.le_refl _) h2 (by lia);exact .inr ⟨b/2,u,v,by lia,by rw[e,show 2*(b/2)=b by lia],g1,g2⟩
  ·cases h4
theorem F5{k:Nat}:∀ (l st s:List Nat),go k st l=some s->st.length<=s.length+l.length/\(st.length+s.length+l.length)%2=0
 |[],st,s,h=>by rw[Aq]at h;cases h;simp;lia
 |b::l,st,s,h=>by
  rw[A0]at h;obtain⟨s1,h1,h2⟩:=Option.bind_eq_some_iff.mp h;have:=F5 l _ _ h2;obtain⟨hb,⟨h3,rfl⟩|⟨h3,rfl⟩⟩:=BR h1
  ·simp only[List.length_cons]at this⊢;lia
  ·simp only[List.length_cons]at this⊢;lia
theorem L5{k:Nat}{l:List Nat}(h:Rg k l):l.length%2=0:=by have:=(F5 l [] [] h).2;simpa using this
theorem Cz{k:Nat}:∀ (l st s:List Nat),go k st l=some s->∀b∈l,b<2*k
 |[],_,_,_,b,hb=>nomatch hb
 |c::l,st,s,h,b,hb=>by
  rw[A0]at h;obtain⟨s1,h1,h2⟩:=Option.bind_eq_some_iff.mp h;rcases List.mem_cons.mp hb with rfl|hb
  ·exact(BR h1).1
  ·exact Cz l _ _ h2 b hb
theorem JD:∀ {a b c d:List Nat},a.length=c.length->(a++b<c++d↔a<c\/(a=c/\b<d))
 |[],b,[],d,_=>by simp
 |x::a,b,y::c,d,h=>by
  have h':a.length=c.length:=by simpa using h
  clear h;rw[List.cons_append,List.cons_append,List.cons_lt_cons_iff,List.cons_lt_cons_iff,JD h']
  constructor
  ·rintro(h|⟨rfl,h|⟨rfl,h⟩⟩)
   ·exact .inl (.inl h)
   ·exact .inl (.inr ⟨rfl,h⟩)
   ·exact .inr ⟨rfl,h⟩
  ·rintro((h|⟨rfl,h⟩)|⟨e,h⟩)
   ·exact .inl h
   ·exact .inr ⟨rfl, .inl h⟩
   ·cases e;exact .inr ⟨rfl, .inr ⟨rfl,h⟩⟩
theorem M1(a b:List Nat):a<b\/a=b\/b<a:=by
 by_cases h:a<b
 ·exact .inl h
 ·by_cases h2:b<a
  ·exact .inr (.inr h2)
  ·exact .inr (.inl (List.le_antisymm (List.not_lt.mp h2) (List.not_lt.mp h)))
theorem Ke{b c:List Nat}(h1:¬b<a)(h2:¬c<b):¬c<a:=λh=>by
 rcases M1 b c with z|z|z
 ·exact h1 (List.lt_trans z h)
 ·exact h1 (z▸h)
 ·exact h2 z
abbrev O:=Option (Int×List Nat)
def lik:O->O->O
 |none,b=>b
 |some a,none=>some a
 |some (x,l),some (y,m)=>if x=y then(if l<m then some (x,l)else some (y,m))else if x>y then some (x,l)else some (y,m)
def Best(S:List Nat->Prop)(f:List Nat->Int):O->Prop
 |none=>∀l,S l->f l<=0
 |some (w,l)=>S l/\f l=w/\0<w/\∀m,S m->f m<w\/(f m=w/\¬m<l)
theorem Best.uniq:∀ {a b:O},Best S f a->Best S f b->a=b
 |none,none,_,_=>rfl
 |none,some (w,l),h,⟨h1,h2,h3,_⟩=>by have:=h l h1;lia
 |some (w,l),none,⟨h1,h2,h3,_⟩,h=>by have:=h l h1;lia
 |some (w,l),some (v,m),⟨h1,h2,h3,h4⟩,⟨g1,g2,g3,g4⟩=>by
  have a1:=h4 m g1;have a2:=g4 l h1;have e:w=v:=by rcases a1 with z|⟨z,_⟩<;>rcases a2 with y|⟨y,_⟩<;>lia
  subst e;rcases a1 with z|⟨_,z⟩
  ·lia
  ·rcases a2 with y|⟨_,y⟩
   ·lia
   ·rcases M1 l m with t|t|t
    ·exact absurd t y
    ·rw[t]
    ·exact absurd t z
theorem Best.iff{o:O}(h:Best S f o)(e:∀l,S l↔S' l):Best S' f o:=by
 have:S=S':=funext λl=>propext (e l);rw[<-this];exact h
theorem Best.cong{o:O}(h:Best S f o)(e:∀l,S l->f l=g l):Best S g o:=by
 match o,h with
 |none,h=>exact λl hl=>by rw[<-e l hl];exact h l hl
 |some (w,l),⟨h1,h2,h3,h4⟩=>exact⟨h1,by rw[<-e l h1];exact h2,h3,λm hm=>by rw[<-e m hm];exact h4 m hm⟩
theorem Best.un:∀ {a b:O},Best S f a->Best S' f b->Best (λl=>S l\/S' l) f (lik a b)
 |none,none,h,g=>λl hl=>hl.elim (h l) (g l)
 |none,some (v,m),h,⟨g1,g2,g3,g4⟩=>⟨.inr g1,g2,g3,λx hx=>hx.elim (λz=> .inl (by have:=h x z;lia)) (g4 x)⟩
 |some (w,l),none,⟨h1,h2,h3,h4⟩,g=>⟨.inl h1,h2,h3,λx hx=>hx.elim (h4 x) (λz=> .inl (by have:=g x z;lia))⟩
 |some (w,l),some (v,m),⟨h1,h2,h3,h4⟩,⟨g1,g2,g3,g4⟩=>by
  show Best _ f (if w=v then(if l<m then some (w,l)else some (v,m))else if w>v then some (w,l)else some (v,m))
  by_cases e:w=v
  ·subst e;rw[if_pos rfl]
   by_cases e2:l<m
   ·rw[if_pos e2];refine⟨.inl h1,h2,h3,λx hx=>hx.elim (h4 x) λz=>(g4 x z).imp id λ⟨a,b⟩=>⟨a,Ke (λt=>List.lt_irrefl _ (List.lt_trans t e2)) b⟩⟩
   ·rw[if_neg e2];refine⟨.inr g1,g2,g3,λx hx=>hx.elim (λz=>(h4 x z).imp id λ⟨a,b⟩=>⟨a,Ke e2 b⟩) (g4 x)⟩
  ·rw[if_neg e]
   by_cases e2:w>v
   ·rw[if_pos e2];exact⟨.inl h1,h2,h3,λx hx=>hx.elim (h4 x) λz=> .inl (by rcases g4 x z with y|⟨y,_⟩<;>lia)⟩
   ·rw[if_neg e2];exact⟨.inr g1,g2,g3,λx hx=>hx.elim (λz=> .inl (by rcases h4 x z with y|⟨y,_⟩<;>lia)) (g4 x)⟩
theorem LJ{x a b:Int}(ha0:0<=a)(hb0:0<=b)(hx:0<x)(hy:0<y)(ha:a<=x)(hb:b<=y):a*b<x*y\/(a=x/\b=y):=by
 by_cases e1:a=x
 ·by_cases e2:b=y
  ·exact .inr ⟨e1,e2⟩
  ·subst e1;exact .inl (Int.mul_lt_mul_of_pos_left (by lia) hx)
 ·left
  calc a*b<=a*y:=Int.mul_le_mul_of_nonneg_left hb ha0
   _<x*y:=Int.mul_lt_mul_of_pos_right (by lia) hy
def beh:O->O->O
 |some (x,l),some (y,m)=>some (x*y,l++m)
 |_,_=>none
def rnd:O->O->O
 |some (x,l),some (y,m)=>some (x*y,[l.getD 0 0]++m++[l.getD 1 0])
 |_,_=>none
theorem Best.beh(hS:∀l,S l->l.length=n/\0<=f l)(hS':∀l,S' l->0<=g l)(hT:∀l,T l↔∃u v,l=u++v/\S u/\S' v)(hh:∀u v,S u->S' v->h (u++v)=f u*g v):∀ {a b:O},Best S f a->Best S' g b->Best T h (beh a b)
 |none,b,ha,hb=>λl hl=>by
  obtain⟨u,v,rfl,h1,h2⟩:=(hT l).mp hl;have e:f u=0:=by have:=ha u h1;have:=(hS u h1).2;lia
  rw[hh u v h1 h2,e];lia
 |some (x,l),none,ha,hb=>λl' hl=>by
  obtain⟨u,v,rfl,h1,h2⟩:=(hT l').mp hl;have e:g v=0:=by have:=hb v h2;have:=hS' v h2;lia
  rw[hh u v h1 h2,e];lia
 |some (x,l),some (y,m),⟨a1,a2,a3,a4⟩,⟨b1,b2,b3,b4⟩=>by
  refine⟨(hT _).mpr ⟨l,m,rfl,a1,b1⟩,by rw[hh l m a1 b1,a2,b2],Int.mul_pos a3 b3,λz hz=>?_⟩;obtain⟨u,v,rfl,h1,h2⟩:=(hT z).mp hz;rw[hh u v h1 h2];have c1:=a4 u h1;have c2:=b4 v h2;have l1:f u<=x:=by rcases c1 with t|⟨t,_⟩<;>lia
  have l2:g v<=y:=by rcases c2 with t|⟨t,_⟩<;>lia
  rcases LJ (hS u h1).2 (hS' v h2) a3 b3 l1 l2 with t|⟨t1,t2⟩
  ·exact .inl t
  ·refine .inr ⟨by rw[t1,t2],λhlt=>?_⟩;have n1:¬u<l:=by rcases c1 with t|⟨_,t⟩;lia;exact t
   have n2:¬v<m:=by rcases c2 with t|⟨_,t⟩;lia;exact t
   rcases(JD (by rw[(hS u h1).1,(hS l a1).1])).mp hlt with t|⟨_,t⟩
   ·exact n1 t
   ·exact n2 t
theorem Best.rnd{k:Nat}(hf:∀p,p<k->0<=f [2*p,2*p+1])(hS:∀l,S l->l.length=n/\0<=g l)(hT:∀l,T l↔∃p u,p<k/\l=2*p::(u++[2*p+1])/\S u)(hh:∀p u,p<k->S u->h (2*p::(u++[2*p+1]))=f [2*p,2*p+1]*g u):
 ∀ {a b:O},Best (λl=>∃p,p<k/\l=[2*p,2*p+1]) f a->Best S g b->Best T h (BrB.rnd a b)
 |none,b,ha,hb=>λl hl=>by
  obtain⟨p,u,hp,rfl,h2⟩:=(hT l).mp hl;have e:f [2*p,2*p+1]=0:=by have:=ha _ ⟨p,hp,rfl⟩;have:=hf p hp;lia
  rw[hh p u hp h2,e];lia
 |some (x,l),none,ha,hb=>λl' hl=>by
  obtain⟨p,u,hp,rfl,h2⟩:=(hT l').mp hl;have e:g u=0:=by have:=hb u h2;have:=(hS u h2).2;lia
  rw[hh p u hp h2,e];lia
 |some (x,l),some (y,m),⟨⟨p,hp,a1⟩,a2,a3,a4⟩,⟨b1,b2,b3,b4⟩=>by
  subst a1;refine⟨(hT _).mpr ⟨p,m,hp,rfl,b1⟩,?_,Int.mul_pos a3 b3,λz hz=>?_⟩
  ·show h (2*p::(m++[2*p+1]))=x*y;rw[hh p m hp b1,a2,b2]
  obtain⟨q,u,hq,rfl,h2⟩:=(hT z).mp hz;rw[hh q u hq h2];have c1:=a4 _ ⟨q,hq,rfl⟩;have c2:=b4 u h2;have l1:f [2*q,2*q+1]<=x:=by rcases c1 with t|⟨t,_⟩<;>lia
  have l2:g u<=y:=by rcases c2 with t|⟨t,_⟩<;>lia
  rcases LJ (hf q hq) (hS u h2).2 a3 b3 l1 l2 with t|⟨t1,t2⟩
  ·exact .inl t
  ·refine .inr ⟨by rw[t1,t2],λhlt=>?_⟩;have n1:¬ [2*q,2*q+1]<[2*p,2*p+1]:=by rcases c1 with t|⟨_,t⟩;lia;exact t
   have n2:¬u<m:=by rcases c2 with t|⟨_,t⟩;lia;exact t
   have hlt:2*q::(u++[2*q+1])<2*p::(m++[2*p+1]):=hlt;rw[List.cons_lt_cons_iff]at hlt;rcases hlt with t|⟨t,hlt⟩
   ·exact n1 (by rw[List.cons_lt_cons_iff];exact .inl t)
   ·have:q=p:=by lia
    subst this;rcases(JD (by rw[(hS u h2).1,(hS m b1).1])).mp hlt with t|⟨_,t⟩
    ·exact n2 t
    ·exact List.lt_irrefl _ t
def wtl(P:Nat->Nat->Int):Nat->List Nat->Int
 |_,[]=>1
 |s,b::r=>P s b*wtl P (s+1) r
theorem IF:∀ (u v:List Nat) (s:Nat),wtl P s (u++v)=wtl P s u*wtl P (s+u.length) v
 |[],v,s=>by rw[List.nil_append,wtl,Int.one_mul];rfl
 |b::u,v,s=>by
  rw[List.cons_append,wtl,wtl,IF u v,Int.mul_assoc,List.length_cons,show s+1+u.length=s+(u.length+1) by lia]
theorem Fz(h:∀i b,0<=P i b):∀ (l:List Nat) (s:Nat),0<=wtl P s l
 |[],_=>by rw[wtl];decide
 |b::l,s=>by rw[wtl];exact Int.mul_nonneg (h s b) (Fz h l _)
def Dn(k s t:Nat)(l:List Nat):Prop:=Rg k l/\s+l.length=t
def Sq(k s q t:Nat)(l:List Nat):Prop:=∃j p u v,j<q/\p<k/\l=2*p::(u++(2*p+1)::v)/\Rg k u/\u.length=2*j/\Rg k v/\s+2+2*j+v.length=t
def Nw(k s q t:Nat)(l:List Nat):Prop:=∃p u v,p<k/\l=2*p::(u++(2*p+1)::v)/\Rg k u/\u.length=2*q/\Rg k v/\s+2+2*q+v.length=t
theorem Sq.zero(k s t:Nat)(l:List Nat):¬Sq k s 0 t l:=λ⟨j,_,_,_,h,_⟩=>absurd h (Nat.not_lt_zero _)
theorem Sq.next(k s q t:Nat)(l:List Nat):Sq k s (q+1) t l↔Sq k s q t l\/Nw k s q t l:=by
 constructor
 ·rintro⟨j,p,u,v,hj,h⟩
  by_cases e:j=q
  ·subst e;exact .inr ⟨p,u,v,h⟩
  ·exact .inl ⟨j,p,u,v,by lia,h⟩
 ·rintro(⟨j,p,u,v,hj,h⟩|⟨p,u,v,h⟩)
  ·exact⟨j,p,u,v,by lia,h⟩
  ·exact⟨q,p,u,v,by lia,h⟩
theorem Nw.par{k:Nat}{l:List Nat}(h:Nw k s q t l):∃r,t=s+2+2*q+2*r:=by
 obtain⟨p,u,v,_,_,_,_,hv,e⟩:=h;have:=L5 hv;exact⟨v.length/2,by lia⟩
theorem Sq.same{k:Nat}(h:∀r,t≠s+2+2*q+2*r)(l:List Nat):Sq k s q t l↔Sq k s (q+1) t l:=by
 rw[Sq.next];exact⟨.inl,λz=>z.elim id λw=>by obtain⟨r,e⟩:=w.par;exact absurd e (h r)⟩
theorem Sq.len{k:Nat}{l:List Nat}(h:Sq k s q t l):s+l.length=t:=by
 obtain⟨j,p,u,v,_,_,rfl,_,hu,_,e⟩:=h;simp only[List.length_cons,List.length_append];lia
theorem Nw.len{k:Nat}{l:List Nat}(h:Nw k s q t l):s+l.length=t:=by
 obtain⟨p,u,v,_,rfl,_,hu,_,e⟩:=h;simp only[List.length_cons,List.length_append];lia
theorem Sq.apart{k:Nat}{l m:List Nat}(h:Sq k s q t l)(g:Nw k s q t m):l≠m:=by
 rintro rfl;obtain⟨j,p,u,v,hj,hp,rfl,ru,lu,rv,e⟩:=h;obtain⟨p',u',v',hp',e',ru',lu',rv',_⟩:=g;obtain⟨e1,e2⟩:=List.cons.inj e';have:p=p':=by lia
 subst this;have e3:u++((2*p+1)::v)=u'++((2*p+1)::v'):=e2;rcases List.append_eq_append_iff.mp e3 with⟨w,h1,h2⟩|⟨w,h1,h2⟩
 ·cases w with
  |nil=>rw[List.append_nil]at h1;rw[h1]at lu';lia
  |cons x w=>
   rw[List.cons_append]at h2;obtain⟨rfl,_⟩:=List.cons.inj h2;unfold Rg at ru';rw[h1,BX,ru]at ru';rw[Option.bind_some,A0]at ru';obtain⟨s1,z,_⟩:=Option.bind_eq_some_iff.mp ru';obtain⟨_,⟨z1,_⟩|⟨_,z2⟩⟩:=BR z
   ·lia
   ·cases z2
 ·rw[h1]at lu;simp at lu;lia
theorem Dn.iff{k:Nat}(h:s<t)(hq:t<s+2+2*q)(l:List Nat):Sq k s q t l↔Dn k s t l:=by
 constructor
 ·intro z;refine⟨?_,z.len⟩;obtain⟨j,p,u,v,_,hp,rfl,ru,_,rv,_⟩:=z;exact Lz hp ru rv
 ·rintro⟨r,e⟩;rcases Rj r with rfl|⟨p,u,v,hp,rfl,ru,rv⟩
  ·simp at e;lia
  ·have:=L5 ru;simp only[List.length_cons,List.length_append]at e;exact⟨u.length/2,p,u,v,by lia,hp,rfl,ru,by lia,rv,by lia⟩
theorem Dn.nil(k s:Nat)(l:List Nat):Dn k s s l↔l=[]:=by
 constructor
 ·rintro⟨_,e⟩;exact List.eq_nil_of_length_eq_zero (by lia)
 ·rintro rfl;exact⟨by unfold Rg;rw[Aq],rfl⟩
def Pk(k:Nat)(l:List Nat):Prop:=∃p,p<k/\l=[2*p,2*p+1]
def pf(P:Nat->Nat->Int)(s e:Nat)(l:List Nat):Int:=P s (l.getD 0 0)*P e (l.getD 1 0)
theorem Sf(hP:∀i b,0<=P i b){k r:Nat}(ht:t=s+2+2*q+2*r){a b c:O}(ha:Best (Pk k) (pf P s (s+1+2*q)) a)(hb:Best (Dn k (s+1) (s+1+2*q)) (wtl P (s+1)) b)(hc:Best (Dn k (s+2+2*q) t) (wtl P (s+2+2*q)) c):
 Best (Nw k s q t) (wtl P s) (beh (rnd a b) c):=by
 have h1:Best (λl=>∃p u,p<k/\l=2*p::(u++[2*p+1])/\Dn k (s+1) (s+1+2*q) u) (wtl P s) (rnd a b):=by
  refine Best.rnd (k:=k) (n:=2*q) (f:=pf P s (s+1+2*q)) (g:=wtl P (s+1)) (λp _=>Int.mul_nonneg (hP _ _) (hP _ _)) (λl hl=>⟨by have:=hl.2;lia,Fz hP l _⟩) (λl=>Iff.rfl) (λp u hp hu=>?_) ha hb;have hl:=hu.2;rw[wtl,IF,wtl,wtl,show s+1+u.length=s+1+2*q by lia];show P s (2*p)*(wtl P (s+1) u*(P (s+1+2*q) (2*p+1)*1))=P s (2*p)*P (s+1+2*q) (2*p+1)*wtl P (s+1) u;rw[Int.mul_one,Int.mul_comm (wtl P (s+1) u),Int.mul_assoc]
 refine Best.beh (n:=2*q+2) (f:=wtl P s) (g:=wtl P (s+2+2*q)) (λl hl=>⟨?_,Fz hP l _⟩) (λl _=>Fz hP l _) (λl=>?_) (λu v hu hv=>?_) h1 hc
 ·obtain⟨p,u,_,rfl,hu⟩:=hl;have:=hu.2;simp only[List.length_cons,List.length_append,List.length_nil];lia
 ·constructor
  ·rintro⟨p,u,v,hp,rfl,ru,lu,rv,e⟩;exact⟨2*p::(u++[2*p+1]),v,by simp,⟨p,u,hp,rfl,ru,by lia⟩,rv,e⟩
  ·rintro⟨x,v,rfl,⟨p,u,hp,rfl,ru,lu⟩,rv,e⟩;exact⟨p,u,v,hp,by simp,ru,by lia,rv,e⟩
 ·obtain⟨p,x,_,rfl,hx⟩:=hu;have:=hx.2;rw[IF];congr 2;simp only[List.length_cons,List.length_append,List.length_nil];lia
theorem RM{k:Nat}{a b:O}(ha:Best (Sq k s q t) (wtl P s) a)(hb:Best (Nw k s q t) (wtl P s) b):Best (Sq k s (q+1) t) (wtl P s) (lik a b):=(Best.un ha hb).iff λl=>(Sq.next k s q t l).symm
theorem best_one(s:Nat)(k:Nat):Best (Dn k s s) (wtl P s) (some (1,[])):=⟨(Dn.nil k s []).mpr rfl,rfl,by decide,λm hm=>by rw[(Dn.nil k s m).mp hm];exact .inr ⟨rfl,List.lt_irrefl _⟩⟩
end BrB
open BrB
namespace PySem.SeqAt
open PySem.AutoSeq1 (wpAny_loadPart')
open MeetsSeq MeetsSeq2 MeetsSeq3 SeqRoads2
variable{e:Nat->Bool}
theorem Qz(l b:Addr)(items items2:Array Value)(n n2:Nat)(dd dd2:Option Addr)(sl sl2:Array (Option Value))(e:Nat->Bool)(j:Nat)(x y:Int)(t u:Tok)(h1:items[j]? =some (.int x t))(h2:items2[j]? =some (.int y u))(hj:e j=false)(k:Nat):
 ∀i:Nat,j-i=k->i<=j->(∀m,i<=m->m<j->e m=true)->Meets (Builtin.«list.__eq__.loop» ⟨[.ref l, .ref b,rawInt i,rawInt 0],[]⟩)
  (λA R s=>s.heap.get? l=some {cls:= .type "list",dict:=dd,data:= .seq items n,slots:=sl}/\s.heap.get? b=some {cls:= .type "list",dict:=dd2,data:= .seq items2 n2,slots:=sl2}/\
    (∀j (h1:j<items.size) (h2:j<items2.size),EqAt A.in1 s items[j] items2[j] (e j))/\
    R (.ok (.ret (.bool (decide (x<y))))) s):=by
 have q1:j<items.size:=(Array.getElem?_eq_some_iff.mp h1).1;have q2:j<items2.size:=(Array.getElem?_eq_some_iff.mp h2).1
 induction k with
 |zero=>
  intro i hk hle hno prog w A R s h;obtain⟨hp,g,d,tk,os⟩:=s;obtain⟨hl,hb,he,h⟩:=h;have:i=j:=by lia
  subst this
  wp_walk using wpAny_loadPart' hl,wpAny_loadPart' hb
  have hi1:items[((i:Nat):Int).toNat]? =some (.int x t):=by simpa using h1
  have hi2:items2[((i:Nat):Int).toNat]? =some (.int y u):=by simpa using h2
  have g1:items[i]= .int x t:=(Array.getElem?_eq_some_iff.mp h1).2;have g2:items2[i]= .int y u:=(Array.getElem?_eq_some_iff.mp h2).2;rw[hi1,hi2];have hei:=he i q1 q2;rw[g1,g2]at hei;refine wpAny_bind (hei prog w _ _ ?_);rw[hj]
  wp_walk using wpAny_loadPart' hl,wpAny_loadPart' hb
  rw[hi1,hi2];show wpAny _ _ (compareOp .Lt (.int x t) (.int y u)>>=_) _ _ _;refine wpAny_bind (PyProof.Rows.lt_int ?_);exact wpAny_pure h
 |succ k ih=>
  intro i hk hle hno prog w A R s h;obtain⟨hp,g,d,tk,os⟩:=s;obtain⟨hl,hb,he,h⟩:=h
  wp_walk using wpAny_loadPart' hl,wpAny_loadPart' hb
  have hlt:i<items.size:=by lia
  have hlt2:i<items2.size:=by lia
  have hi1:items[((i:Nat):Int).toNat]? =some items[i]:=by simp[hlt]
  have hi2:items2[((i:Nat):Int).toNat]? =some items2[i]:=by simp[hlt2]
  have hc:((i:Int)+1)=((i+1:Nat):Int):=by push_cast;rfl
  rw[hi1,hi2];refine wpAny_bind (he i hlt hlt2 prog w _ _ ?_);rw[hno i (Nat.le_refl _) (by lia)]
  wp_walk
  rw[hc];exact⟨plainId_quiet plain_eq_loop _,codeAny_builtin entry_eq_loop (by
   rw[Around.under_plainId plain_eq_loop _];exact ih (i+1) (by lia) (by lia) (λm a b=>hno m (by lia) b) prog w A R _ ⟨hl,hb,he,h⟩)⟩
theorem Q1(l b:Addr)(items items2:Array Value)(n n2:Nat)(dd dd2:Option Addr)(sl sl2:Array (Option Value))(e:Nat->Bool)(j:Nat)(x y:Int)(t u:Tok)(h1:items[j]? =some (.int x t))(h2:items2[j]? =some (.int y u))(hj:e j=false)(hno:∀m,m<j->e m=true):
 Meets (Builtin.«list.__lt__» ⟨[.ref l, .ref b],[]⟩)
  (λA R s=>s.heap.get? l=some {cls:= .type "list",dict:=dd,data:= .seq items n,slots:=sl}/\s.heap.get? b=some {cls:= .type "list",dict:=dd2,data:= .seq items2 n2,slots:=sl2}/\
    (∀j (h1:j<items.size) (h2:j<items2.size),EqAt A.in1 s items[j] items2[j] (e j))/\
    R (.ok (.ret (.bool (decide (x<y))))) s):=by
 intro prog w A R s h;obtain⟨hp,g,d,tk,os⟩:=s;obtain⟨hl,hb,he,h⟩:=h;have f3:=AutoSeq1.sub_list_list
 wp_walk using wpAny_loadPart' hl,wpAny_loadPart' hb
 exact⟨plainId_quiet plain_eq_loop _,codeAny_builtin entry_eq_loop (by
  rw[Around.under_plainId plain_eq_loop _];exact Qz l b items items2 n n2 dd dd2 sl sl2 e j x y t u h1 h2 hj _ 0 rfl (Nat.zero_le _) (λm _ b=>hno m b) prog w A R _ ⟨hl,hb,he,h⟩)⟩
theorem lt_listAt{l b:Addr}{items2:Array Value}{x:Int}{t u:Tok}(hl:s.heap.IsList l items)(hb:s.heap.IsList b items2)(hu:A.units<cLine)
 (he:∀j (h1:j<items.size) (h2:j<items2.size),EqAt A.in1 s items[j] items2[j] (e j)) (h1:items[j]? =some (.int x t)) (h2:items2[j]? =some (.int y u)) (hj:e j=false) (hno:∀m,m<j->e m=true)
 (h:Q (.bool (decide (x<y))) s):wpAny (model prog w) A (compareOp .Lt (.ref l) (.ref b)) Q E s:=by
 obtain⟨⟨cls,dd,data,sl⟩,ho,hc,n,hd⟩:=id hl;obtain⟨⟨cls2,dd2,data2,sl2⟩,ho2,hc2,n2,hd2⟩:=id hb;simp only at hc hd hc2 hd2;subst hc hd hc2 hd2;show wpAny _ _ (richCompare .Lt (.ref l) (.ref b)) Q E s;exact richCompare_meets_room (op:= .Lt) ⟨_,ho,rfl⟩ ⟨_,ho2,rfl⟩ F.slot_list_lt F.entry_list_lt (F.args_list_lt_2 _ _) (Q1 l b items items2 n n2 dd dd2 sl sl2 e j x y t u h1 h2 hj hno)
  ⟨ho,ho2,he,show Value.bool (decide (x<y))≠Value.notImplemented/\Q (.bool (decide (x<y))) s from⟨(λx=>nomatch x),h⟩⟩ hu
end PySem.SeqAt
namespace L2
variable{es:List Expr}
theorem LQ:∀ {bs cs:List Nat},bs.length=cs.length->bs≠cs->∃ (j b c:Nat),bs[j]? =some b/\cs[j]? =some c/\b≠c/\(b<c↔bs<cs)/\∀m,m<j->bs.getD m 0=cs.getD m 0
 |[],[],_,h=>absurd rfl h
 |b::bs,c::cs,hl,h=>by
  by_cases e:b=c
  ·subst e;obtain⟨j,x,y,h1,h2,h3,h5,h4⟩:=LQ (bs:=bs) (cs:=cs) (by simpa using hl) (λz=>h (by rw[z]));refine⟨j+1,x,y,h1,h2,h3,?_,λm hm=>?_⟩
   ·rw[h5,List.cons_lt_cons_iff]
    constructor
    ·exact λz=> .inr ⟨rfl,z⟩
    ·rintro(z|⟨_,z⟩)
     ·exact absurd z (Nat.lt_irrefl _)
     ·exact z
   ·cases m with
    |zero=>rfl
    |succ m=>exact h4 m (by lia)
  ·refine⟨0,b,c,rfl,rfl,e,?_,λm hm=>by lia⟩;rw[List.cons_lt_cons_iff];exact⟨.inl,λz=>z.elim id λw=>absurd w.1 e⟩
abbrev nL(bs:List Nat):List V:=bs.map λb:Nat=>V.int (b:Int)
def Wq(K:W.Frag):R2:=λx y H Q=>∃a b bs cs,x= .ref a/\y= .ref b/\SqL K H a (nL bs)/\SqL K H b (nL cs)/\bs.length=cs.length/\bs≠cs/\Q (.bl (decide (bs<cs))) H
theorem VV(K:W.Frag)(hr:X.A.units<cLine)(hK:X.K=K:=by rfl):OpR X (compareOp .Lt) (Wq K):=by
 subst hK;intro pins s σ H x y v u Q I rx ry ⟨a,b,bs,cs,e1,e2,q1,q2,hl,hne,q⟩;subst e1 e2
 cases rx
 cases ry
 obtain⟨us,r1,p1,z1⟩:=I.list q1;obtain⟨ws,r2,p2,z2⟩:=I.list q2;obtain⟨j,m,n,h1,h2,h3,h5,h4⟩:=LQ hl hne;have l1:=r1.length;have l2:=r2.length;rw[List.length_map]at l1 l2;obtain⟨u1,e1,t1,rfl⟩:=r1.get (i:=j) (x:= .int (m:Int)) (by rw[List.getElem?_map,h1];rfl);obtain⟨u2,e2,t2,rfl⟩:=r2.get (i:=j) (x:= .int (n:Int)) (by rw[List.getElem?_map,h2];rfl);have fl:∀bs:List Nat,(bs.map λb:Nat=>V.int (b:Int)).all As=true:=λbs=>by rw[List.all_map,List.all_eq_true];intro _ _;rfl
 refine SeqAt.lt_listAt (e:=λi=>eqV ((bs.map λb:Nat=>V.int (b:Int)).getD i .non) ((cs.map λb:Nat=>V.int (b:Int)).getD i .non)) (j:=j) (x:=(m:Int)) (y:=(n:Int)) (t:=t1) (u:=t2) p1.isList p2.isList hr (IX r1 r2 (fl _) (fl _)) (by simpa using e1) (by simpa using e2) ?_ ?_ ?_
 ·show eqV _ _=false;rw[List.getD_eq_getElem?_getD,List.getD_eq_getElem?_getD,List.getElem?_map,List.getElem?_map,h1,h2];show decide ((m:Int)=(n:Int))=false;exact decide_eq_false (by lia)
 ·intro i hi;have g:=h4 i hi;have k1:j<bs.length:=(List.getElem?_eq_some_iff.mp h1).1;have k2:j<cs.length:=(List.getElem?_eq_some_iff.mp h2).1;have a1:bs[i]? =some (bs.getD i 0):=by rw[List.getD_eq_getElem?_getD,List.getElem?_eq_getElem (by lia)];rfl
  have a2:cs[i]? =some (cs.getD i 0):=by rw[List.getD_eq_getElem?_getD,List.getElem?_eq_getElem (by lia)];rfl
  show eqV _ _=true;rw[List.getD_eq_getElem?_getD,List.getD_eq_getElem?_getD,List.getElem?_map,List.getElem?_map,a1,a2,g];show decide (((cs.getD i 0:Nat):Int)=((cs.getD i 0:Nat):Int))=true;exact decide_eq_true rfl
 ·refine⟨.bl (decide (bs<cs)),H,I,?_,q⟩;show Value.bool (decide ((m:Int)<(n:Int)))=Value.bool (decide (bs<cs));congr 1;rw[decide_eq_decide,<-h5];lia
def WY(K:W.Frag)(n:Nat)(t:TGs):TG:=λv σ H Q=>∃a xs,v= .ref a/\SqL K H a xs/\xs.length=n/\t xs σ H Q
theorem Tf(K:W.Frag){k:Nat}{t:TGs}{pos:Pos}(hc:X.calm=true)(h:PGs X es t)
 (hn:(assignEach es X.env).length=n:=by rfl) (hst:(assignEach es X.env).findIdx? (·.1)=none:=by rfl) (hK:X.K=K:=by rfl):PG X (.Tuple es k pos) (WY K n t):=by
 subst hK;intro pins s σ H v u Q I r hw;obtain⟨a,xs,e1,hq,hl,hw⟩:=hw;subst e1
 cases r
 obtain⟨its,rv,ht,hz⟩:=I.list hq;have hln:=rv.length;rw[assign_Tuple];refine wpAny_bind (wpAny_standAt ?_);unfold unpack;rw[show(assignEach es X.env).length=its.toArray.size by rw[hn,List.size_toArray];lia,hst];refine wpAny_bind (wpAny_holding (W.kun_itemsOf (I.ok.hd hc) ht.isList λh' hx=>?_));have I1:Inv X pins σ H {s with heap:=h'}:=I.kept (t':=s.toks) λb o e=>hx b o (Nat.ne_of_lt (Heap.lt_size e)) e;exact h pins _ σ H xs _ Q I1 (by simpa using rv) hw
end L2
namespace BrS
variable{S:List Nat->Prop}{f:Nat->V}{o:O}{v:V}
def Bt(F:Addr->Prop)(H:Hp)(v:V):O->Prop
 |none=>v= .non
 |some (w,l)=>∃T a,v= .ref T/\F T/\F a/\H T=some (.tup [.int w, .ref a])/\H a=some (.lst (nL l))
theorem Bt.keep(h:Bt F H v o)(k:∀b x,F b->H b=some x->H' b=some x):Bt F H' v o:=by
 match o,h with
 |none,h=>exact h
 |some (w,l),⟨T,a,e,f1,f2,g1,g2⟩=>exact⟨T,a,e,f1,f2,k _ _ f1 g1,k _ _ f2 g2⟩
theorem Bt.same(h:Bt F H v o)(s:Same H H'):Bt F H' v o:=h.keep λb x _ z=>s b x z
theorem Bt.imp{G:Addr->Prop}(h:Bt F H v o)(k:∀b x,F b->H b=some x->G b):Bt G H v o:=by
 match o,h with
 |none,h=>exact h
 |some (w,l),⟨T,a,e,f1,f2,g1,g2⟩=>exact⟨T,a,e,k _ _ f1 g1,k _ _ f2 g2,g1,g2⟩
abbrev Any:Addr->Prop:=λ_=>True
def Gw:Sp:=λvs H Q _=>∃ (v1 v2:V) (o1 o2:O),vs=[v1,v2]/\Bt Any H v1 o1/\Bt Any H v2 o2/\(∀w l x m,o1=some (w,l)->o2=some (x,m)->l.length=m.length/\l≠m)/\∀v H',Same H H'->((v=v1/\lik o1 o2=o1)\/(v=v2/\lik o1 o2=o2))->Q v H'
def Lr:Sp:=λvs H Q _=>∃ (p1 p2:Addr) (x y:List Int) (k:Nat),vs=[.ref p1, .ref p2]/\H p1=some (iL x)/\H p2=some (iL y)/\x.length=2*k/\y.length=2*k/\k<=4/\Sm x/\Sm y/\
 ∀v o H',Same H H'->Bt (λb=>H b=none) H' v o->Best (Pk k) (λl=>x.getD (l.getD 0 0) 0*y.getD (l.getD 1 0) 0) o->Q v H'
def Sz(o:O):Prop:=∀w l,o=some (w,l)->w.natAbs<big/\l.length<=40
def Lp:Sp:=λvs H Q _=>∃ (v1 v2:V) (o1 o2:O),vs=[v1,v2]/\Bt Any H v1 o1/\Bt Any H v2 o2/\(∀w l,o1=some (w,l)->l.length=2)/\Sz o1/\Sz o2/\∀v H',Same H H'->Bt (λb=>H b=none) H' v (rnd o1 o2)->Q v H'
def KU:Sp:=λvs H Q _=>∃ (v1 v2:V) (o1 o2:O),vs=[v1,v2]/\Bt Any H v1 o1/\Bt Any H v2 o2/\Sz o1/\Sz o2/\∀v H',Same H H'->Bt (λb=>H b=none) H' v (beh o1 o2)->Q v H'
def rwv(n:Nat)(f:Nat->V):List V:=(List.range (n+1)).map f
theorem Lx(n:Nat)(f:Nat->V):(rwv n f).length=n+1:=by simp[rwv]
theorem IP(h:j<=n):(rwv n f)[j]? =some (f j):=by
 unfold rwv;rw[List.getElem?_map,List.getElem?_range (by lia)];rfl
theorem TN:(rwv n f).set j v=rwv n (λx=>if x=j then v else f x):=by
 apply List.ext_getElem?;intro i;unfold rwv;rw[List.getElem?_set,List.getElem?_map,List.getElem?_map]
 by_cases e:j=i
 ·subst e
  by_cases hj:j<n+1
  ·rw[List.getElem?_range hj];simp[hj]
  ·rw[if_pos rfl,if_neg (by simpa using hj)];rw[List.getElem?_eq_none (by simpa using hj)];rfl
 ·rw[if_neg e]
  by_cases hi:i<n+1
  ·rw[List.getElem?_range hi];simp[Ne.symm e]
  ·rw[List.getElem?_eq_none (by simpa using hi)];rfl
structure Tv (H0 H1 H:Hp) (s:Addr) (ad:Nat->Addr) (n:Nat) (T:Nat->Nat->V):Prop where
 fs:H0 s=none
 fa:∀i,i<=n->H0 (ad i)=none
 ns:∀i,i<=n->ad i≠s
 inj:∀i j,i<=n->j<=n->ad i=ad j->i=j
 old:∀i,i<=n->H1 (ad i)≠none
 top:H s=some (.lst ((List.range (n+1)).map λi=>V.ref (ad i)))
 row:∀i,i<=n->H (ad i)=some (.lst (rwv n (T i)))
 sm:Same H0 H
 gr:∀b,H b=none->H1 b=none
section
variable{s:Addr}{T T':Nat->Nat->V}
theorem Tv.same(t:Tv H0 H1 H s ad n T)(h:Same H H'):Tv H0 H1 H' s ad n T:=⟨t.fs,t.fa,t.ns,t.inj,t.old,h _ _ t.top,λi hi=>h _ _ (t.row i hi),t.sm.trans h,λb z=>t.gr b (h.free z)⟩
theorem Tv.at(t:Tv H0 H1 H s ad n T)(hi:i<=n):((List.range (n+1)).map λi=>V.ref (ad i))[i]? =some (.ref (ad i)):=by
 rw[List.getElem?_map,List.getElem?_range (by lia)];rfl
theorem Tv.set(t:Tv H0 H1 H s ad n T)(hi:i<=n):Tv H0 H1 (upd H (ad i) (.lst ((rwv n (T i)).set j v))) s ad n (λa b=>if a=i then(if b=j then v else T a b)else T a b):=by
 refine⟨t.fs,t.fa,t.ns,t.inj,t.old,by rw[AE (Ne.symm (t.ns i hi))];exact t.top,λa ha=>?_,λb o z=>?_,λb z=>?_⟩
 ·by_cases e:a=i
  ·subst e;rw[AJ,TN];simp
  ·rw[AE (λz=>e (t.inj a i ha hi z)),t.row a ha];simp[e]
 ·rw[AE (AT z (t.fa i hi))];exact t.sm b o z
 ·by_cases e:b=ad i
  ·subst e;rw[AJ]at z;cases z
  ·rw[AE e]at z;exact t.gr b z
theorem Tv.keep(t:Tv H0 H1 H s ad n T)(hi:i<=n){o:HO}(b:Addr)(x:HO)(f:H1 b=none)(z:H b=some x):(upd H (ad i) o) b=some x:=by
 have ne:b≠ad i:=λe=>t.old i hi (by rw[<-e];exact f);rw[AE ne];exact z
end
def HZ:Sp:=λvs H Q _=>∃ (p:Addr) (ps:List (List Int)) (k:Nat),vs=[.ref p]/\Pls H p ps/\ps.length<=40/\k<=4/\(∀l∈ps,l.length=2*k/\Sm l)/\
 ∀ (s r:Addr) (rs:List V) (xs:List V) (v:V) (o:O) (H':Hp),Same H H'->H' s=some (.lst (.ref r::rs))->H' r=some (.lst (xs++[v]))->Bt Any H' v o->Best (Dn k 0 ps.length) (wtl (PP ps) 0) o->Q (.ref s) H'
theorem P4{k:Nat}{Q:VK}{E:XK}(h1:Pls H p ps)(h2:ps.length<=40)(h3:k<=4)(h4:∀l∈ps,l.length=2*k/\Sm l)
 (q:∀ (s r:Addr) (rs:List V) (xs:List V) (v:V) (o:O) (H':Hp),Same H H'->H' s=some (.lst (.ref r::rs))->H' r=some (.lst (xs++[v]))->Bt Any H' v o->Best (Dn k 0 ps.length) (wtl (PP ps) 0) o->Q (.ref s) H'):HZ ([.ref p]++[]) H Q E:=⟨p,ps,k,rfl,h1,h2,h3,h4,q⟩
def brx(l:List Nat):List Nat:=l.map λb=>brs.getD b 0
def Ft(H:Hp)(v:V):O->Prop
 |none=>v= .non
 |some (w,l)=>∃T,v= .ref T/\H T=some (.tup [.int w,tx (brx l)])
def K6:Sp:=λvs H Q _=>∃ (p:Addr) (ps:List (List Int)) (k:Nat),vs=[.ref p]/\Pls H p ps/\ps.length<=40/\k<=4/\(∀l∈ps,l.length=2*k/\Sm l)/\
 ∀ (v:V) (o:O) (H':Hp),Same H H'->Ft H' v o->Best (Dn k 0 ps.length) (wtl (PP ps) 0) o->Q v H'
theorem IE(h:∀l∈ps,Sm l):∀ (l:List Nat) (s:Nat),0<=wtl (PP ps) s l/\wtl (PP ps) s l<=top30^l.length
 |[],s=>by rw[wtl];exact⟨by decide,by decide⟩
 |b::l,s=>by
  obtain⟨a1,a2⟩:=IE h l (s+1);obtain⟨b1,b2⟩:=Ay h s b;rw[wtl,List.length_cons,Int.pow_succ,Int.mul_comm (top30^l.length)];exact⟨Int.mul_nonneg b1 a1,Int.mul_le_mul b2 a2 a1 (by decide)⟩
theorem Lm(h:n<=40):top30^n<=top30^40:=by
 have:∀m,top30^n<=top30^(n+m):=by
  intro m
  induction m with
  |zero=>exact Int.le_refl _
  |succ m ih=>
   rw[show n+(m+1)=(n+m)+1 by lia,Int.pow_succ];have h0:0<=top30^(n+m):=Int.pow_nonneg (by decide);have h1:(1:Int)<=top30:=by decide
   calc top30^n<=top30^(n+m)*1:=by rw[Int.mul_one];exact ih
    _<=top30^(n+m)*top30:=Int.mul_le_mul_of_nonneg_left h1 h0
 have:=this (40-n);rwa[show n+(40-n)=40 by lia]at this
theorem RU:(top30^40).natAbs<big:=by unfold big top30;decide +kernel
theorem MY(h:∀l∈ps,Sm l){s:Nat}(hS:∀l,S l->l.length<=40)(hb:Best S (wtl (PP ps) s) o):Sz o:=by
 rintro w l rfl;obtain⟨b1,b2,_⟩:=hb;have hl:=hS l b1;obtain⟨c1,c2⟩:=IE h l s;rw[b2]at c1 c2;exact⟨An c1 (Int.le_trans c2 (Lm hl)) RU,hl⟩
theorem Qb:(top30*top30*top30^40).natAbs<big:=by unfold big top30;decide +kernel
end BrS
namespace PySem
open PySem.Sem (wp)
abbrev lit(l:Addr):Obj:={cls:= .type "list_iterator",data:= .fields #[.ref l, .int 0 0]}
abbrev zl2(h:Heap)(x:Str)(l:Addr)(t:Tok):Heap:=(h.push (sit x t)).push (lit l)
abbrev zl3(h:Heap)(x:Str)(l:Addr)(t:Tok):Heap:=(zl2 h x l t).push {cls:= .type "tuple",data:= .seq #[.ref h.objs.size, .ref (h.push (sit x t)).objs.size]}
abbrev zl4(h:Heap)(x:Str)(l:Addr)(t:Tok):Heap:=(zl3 h x l t).push {cls:= .type "tuple",data:= .seq #[.none, .none]}
abbrev zl5(h:Heap)(x:Str)(l:Addr)(t:Tok):Heap:=(zl4 h x l t).push {cls:= .type "zip",data:= .fields #[.none, .bool false, .bool false, .ref (zl2 h x l t).objs.size, .ref (zl3 h x l t).objs.size]}
theorem O1(x:Str)(l:Addr)(t:Tok)(lo:Obj)(hlo:lo={cls:= .type "list",data:= .seq items n}):
 Meets (Builtin.«zip.__new__» ⟨[.type "zip", .str x t, .ref l],[]⟩) (λ_ R s=>s.heap.get? l=some lo/\R (.ok (.ret (.ref (zl4 s.heap x l t).objs.size))) {s with heap:=zl5 s.heap x l t}):=
 .of_wp λprog w A R s h=>by
   obtain⟨hp,g,d,tk,os⟩:=s;obtain⟨hl,h⟩:=h;subst hlo;have hsub:=sub_zip;have hl2:(hp.push (sit x t)).IsList l items:=⟨_,Heap.get?_push_of_some _ hl,rfl,_,rfl⟩
   wp_walk using wpAny_pyIter_strU (x:=x) (t:=t),wpAny_pyIter_list hl2
   exact⟨_,rfl,h⟩
theorem RI{l:Addr}{t:Tok}
 (hl:s.heap.get? l=some {cls:= .type "list",data:= .seq items n}) (h:∀h',IsZip h' (s.heap.objs.size+4) (s.heap.objs.size+2) (s.heap.objs.size+3) .none->IsPair h' (s.heap.objs.size+2) (.ref s.heap.objs.size) (.ref (s.heap.objs.size+1))->
   IsPair h' (s.heap.objs.size+3) .none .none->h'.IsStrIter s.heap.objs.size (strIterType x) x t 0->h'.IsListIter (s.heap.objs.size+1) l 0->h'.objs.size=s.heap.objs.size+5->
   (∀c o,s.heap.get? c=some o->h'.get? c=some o)->Q (.ref (s.heap.objs.size+4)) {s with heap:=h'}):
 wpAny (model prog w) A (call (.type "zip") [.str x t, .ref l]) Q E s:=by
 refine callType_new F.called_zip (by decide) (F.typeCall_zip_2 _ _) (F.newCall_zip_2 _ _) (λobj=>F.args_object_init_3 obj _ _) F.entry_zip_new
  (O1 x l t (items:=items) (n:=n) _ rfl) ?_
 have z1:(s.heap.push (sit x t)).objs.size=s.heap.objs.size+1:=Heap.size_push ..;have z2:(zl2 s.heap x l t).objs.size=s.heap.objs.size+2:=by rw[Heap.size_push,z1]
 have z3:(zl3 s.heap x l t).objs.size=s.heap.objs.size+3:=by rw[Heap.size_push,z2]
 have z4:(zl4 s.heap x l t).objs.size=s.heap.objs.size+4:=by rw[Heap.size_push,z3]
 have z5:(zl5 s.heap x l t).objs.size=s.heap.objs.size+5:=by rw[Heap.size_push,z4]
 have g5:(zl5 s.heap x l t).get? (zl4 s.heap x l t).objs.size=some _:=Heap.get?_push_size _ rfl;have g4:(zl5 s.heap x l t).get? (zl3 s.heap x l t).objs.size=some _:=Heap.get?_push_of_some _ (Heap.get?_push_size _ rfl);have g3:(zl5 s.heap x l t).get? (zl2 s.heap x l t).objs.size=some _:=Heap.get?_push_of_some _ (Heap.get?_push_of_some _ (Heap.get?_push_size _ rfl));have g2:(zl5 s.heap x l t).get? (s.heap.push (sit x t)).objs.size=some _:=Heap.get?_push_of_some _ (Heap.get?_push_of_some _ (Heap.get?_push_of_some _ (Heap.get?_push_size _ rfl)));have g1:(zl5 s.heap x l t).get? s.heap.objs.size=some _:=Heap.get?_push_of_some _ (Heap.get?_push_of_some _ (Heap.get?_push_of_some _ (Heap.get?_push_of_some _ (Heap.get?_push_size _ rfl))));refine⟨hl,?_⟩;show _/\_;rw[z2,z3,z4]at g5;rw[z1,z2]at g3;rw[z3]at g4;rw[z1]at g2;rw[z4];exact⟨⟨_,g5,rfl⟩,h _ g5 g3 g4 ⟨_,g1,rfl,rfl⟩ ⟨_,g2,rfl,rfl⟩ z5 λc o x=>
  Heap.get?_push_of_some _ (Heap.get?_push_of_some _ (Heap.get?_push_of_some _ (Heap.get?_push_of_some _ (Heap.get?_push_of_some _ x))))⟩
end PySem
namespace L2
variable{P:Program}{ta:TA}{R:W3->Hp->Prop}
def IzL(x:Str)(l:Addr):W3:=⟨λi H=>i<x.cps.size/\∃xs,H l=some (.lst xs)/\i<xs.length,λi H v H'=>∃T c xs d,H T=none/\x.cps[i]? =some c/\H l=some (.lst xs)/\xs[i]? =some d/\v= .ref T/\H'=upd H T (.tup [.str ⟨#[c]⟩,d]),λi H=>∃xs,H l=some (.lst xs)/\(i=x.cps.size\/(i<x.cps.size/\i=xs.length))⟩
section
variable{k:Nat}
theorem NJ{TI TO l:Addr}(D:ZAp z TI TO i1 i2 [i1] [i2])(h1:l≠z)(h2:l≠TO)(h3:l≠i1):ZAp z TI TO i1 i2 [i1] [i2,l]:=
 ⟨D.TIz,D.TOz,D.TITO,D.TIi1,D.TIi2,D.z1,by have:=D.z2;simp at this⊢;exact⟨this,h1.symm⟩,D.o1,by have:=D.o2;simp at this⊢;exact⟨this,h2.symm⟩,by have:=D.a12;simp at this⊢;exact⟨this,h3.symm⟩,D.a21,D.m1,by simp⟩
theorem QZ{l:Addr}{t:Tok}{TI TO:Addr}(D:ZAp z TI TO i1 i2 [i1] [i2])
 (W1:∀A:Around,A.handled=none->Draws P w A i1 [i1] x.cps.size (λi v=>∃c u,x.cps[i]? =some c/\v= .str ⟨#[c]⟩ u) (λi h=>h.IsStrIter i1 T1 x t i)):
 Turn P w K (.Tuple elts k tpos) (IzL x l) [z,TI,TO,i1,i2] z (λi h=>IsZip h z TI TO .none/\IsPair h TI (.ref i1) (.ref i2)/\(∃a b,IsPair h TO a b)/\h.IsStrIter i1 T1 x t i/\h.IsListIter i2 l i) where
 mem:=by simp
 obj:=λi h st b hb=>by
  obtain⟨hz,hTI,⟨a,b',hTO⟩,⟨o1,ho1,_,hd1⟩,⟨o2,ho2,_,hd2⟩⟩:=st;simp only[List.mem_cons,List.not_mem_nil,or_false]at hb;rcases hb with e|e|e|e|e
  ·rw[e];exact⟨_,hz,λv z=>by cases z⟩
  ·rw[e];exact⟨_,hTI,λv z=>by cases z⟩
  ·rw[e];exact⟨_,hTO,λv z=>by cases z⟩
  ·rw[e];exact⟨_,ho1,λv z=>by rw[hd1]at z;cases z⟩
  ·rw[e];exact⟨_,ho2,λv z=>by rw[hd2]at z;cases z⟩
 keep:=λi h h' st k=>by
  obtain⟨hz,hTI,⟨a,b',hTO⟩,⟨o1,ho1,r1⟩,⟨o2,ho2,r2⟩⟩:=st;exact⟨k z (by simp) _ hz,k TI (by simp) _ hTI,⟨a,b',k TO (by simp) _ hTO⟩,⟨o1,k i1 (by simp) _ ho1,r1⟩,⟨o2,k i2 (by simp) _ ho2,r2⟩⟩
 item:=by
  intro X hP hw hK hc i pins s σ H E I hf st hg;subst hP hw hK;obtain⟨hz,hTI,⟨a,b',hTO⟩,h1,h2⟩:=st;obtain⟨hg1,xs,hxs,hg2⟩:=hg;have ne:∀b∈[z,TI,TO,i1,i2],l≠b:=λb hb e=>by have:=(hf b hb).1;rw[<-e,hxs]at this;cases this
  obtain⟨zz,its,n,rv,hln,hlo⟩:=I.lstM hxs;have hL:s.heap.IsList l its.toArray:=⟨_,hlo,rfl,_,rfl⟩;have D':=NJ (l:=l) D (ne z (by simp)) (ne TO (by simp)) (ne i1 (by simp));refine thn (RN (elts:=elts) (k:=k) (tpos:=tpos) (Qx:=λv q=>∃c,x.cps[i]? =some c/\q= .str ⟨#[c]⟩) (Qy:=λv q=>∃d,xs[i]? =some d/\q=d)
   (tn:=λh=>IsZip h z TI TO .none/\IsPair h TI (.ref i1) (.ref i2)/\(∃a b,IsPair h TO a b)/\h.IsStrIter i1 T1 x t (i+1)/\h.IsListIter i2 l (i+1)) D' (W1 X.A.in1 (I.ok.hd hc)) (Draws.list (A:=X.A.in1) (I.ok.hd hc) i2 l (ne i2 (by simp)) its.toArray) I hf hz hTI hTO h1 ⟨h2,hL⟩ hg1 (by rw[List.size_toArray];lia)
   (λh' _ _ a1 a2 a3 a4 a5=>⟨a1,a2,⟨_,_,a3⟩,a4,a5.1⟩) ?_ ?_) ?_
  ·rintro v ⟨c,u,hx,rfl⟩;exact⟨.str ⟨#[c]⟩,⟨u,rfl⟩,c,hx,rfl⟩
  ·intro v hv;obtain⟨u1,g1,ru⟩:=rv.get (i:=i) (x:=xs[i]) (List.getElem?_eq_getElem hg2);have:u1=v:=by
    have hv:its.toArray[i]? =some v:=hv;rw[List.getElem?_toArray,g1]at hv;exact Option.some.inj hv
   subst this;exact⟨xs[i],ru,xs[i],List.getElem?_eq_getElem hg2,rfl⟩
  ·rintro r s1 ⟨u,hr,h1⟩;refine⟨u,hr,thn h1 ?_⟩;rintro _ s2 ⟨xv,H',I2,rx,⟨Ta,q1,q2,v1,v2,hT,⟨c,hx,rfl⟩,⟨d,hy,rfl⟩,ex,eH⟩,tn2,fr⟩;exact⟨xv,H',I2,rx,⟨Ta,c,xs,q2,hT,hx,hxs,hy,ex,eH⟩,tn2,fr⟩
 done:=by
  intro X hP hw hK hc i pins s σ H E I hf st hg;subst hP hw hK;obtain⟨hz,hTI,⟨a,b',hTO⟩,h1,h2⟩:=st;obtain⟨xs,hxs,hg⟩:=hg;have ne:∀b∈[z,TI,TO,i1,i2],l≠b:=λb hb e=>by have:=(hf b hb).1;rw[<-e,hxs]at this;cases this
  obtain⟨zz,its,n,rv,hln,hlo⟩:=I.lstM hxs;have hL:s.heap.IsList l its.toArray:=⟨_,hlo,rfl,_,rfl⟩;have D':=NJ (l:=l) D (ne z (by simp)) (ne TO (by simp)) (ne i1 (by simp));exact Og D' (W1 X.A.in1 (I.ok.hd hc)) (Draws.list (A:=X.A.in1) (I.ok.hd hc) i2 l (ne i2 (by simp)) its.toArray) hz hTI hTO h1 ⟨h2,hL⟩ (hg.imp id λ⟨a,b⟩=>⟨a,by rw[List.size_toArray];lia⟩) λh' tk hx=>⟨rfl,I.turnedAll (t':=tk) hf λb o hb q=>hx b o (λz=>hb (by simp[z])) (λz=>hb (by simp[z])) (λz=>hb (by simp[z])) (λz=>hb (by simp[z])) q⟩
 self:=λA i s Q E st h=>wpAny_pyIter_zip st.1 h
end
def N4(ta:TA):TI:=λσ H R=>ta σ H λvs H1=>∃x l xs,vs=[.str x, .ref l]/\H1 l=some (.lst xs)/\R (IzL x l) H1
section
variable{a b:Expr}{p pos:Pos}{k:Nat}
theorem Tc(hg:Gl X "zip")(hm:X.mg "zip"=none)(ha:PA X [a,b] ta)(hs:starEach [a,b] X.env=[(false,eval a X.env),(false,eval b X.env)]:=by rfl)(hs2:starEach [b] X.env=[(false,eval b X.env)]:=by rfl):PI X (.Tuple elts k tpos) (.Call (.Name "zip" p) [a,b] [] pos) (N4 ta):=by
 intro pins s σ H R I h;refine Call_ (CB I hg hm boot_zip (PyProof.Rows.callWith_type1 (thn (ha pos pins s σ H _ I h) λus s1 ⟨vs,H1,I1,r1,q1⟩=>?_) (by rw[hs,hs2]) (by rw[hs2];rfl)));obtain⟨x,l,xs,e,hl,q⟩:=q1;subst e
 cases r1 with
 |cons r rr=>
  cases rr with
  |cons r2 rr=>
   cases rr
   obtain⟨t,rfl⟩:=r
   cases r2
   obtain⟨zz,its,n,rv,hln,hlo⟩:=I1.lstM hl;refine RI hlo λh' hz hTI hTO h1 h2 hsz hk=>wpAny_pyIter_zip hz ?_;exact⟨s1.heap.objs.size+4,[s1.heap.objs.size+4,s1.heap.objs.size+2,s1.heap.objs.size+3,s1.heap.objs.size,s1.heap.objs.size+1],_,_,H1,rfl,I1.kept (t':=s1.toks) hk,QZ (Wg _) (Vr _ x t),⟨hz,hTI,⟨_,_,hTO⟩,h1,h2⟩,Vp I1,q⟩
end
theorem Uu{σ:W2}(h:ta σ H λvs H1=>∃x l xs,vs=[.str x, .ref l]/\H1 l=some (.lst xs)/\R (IzL x l) H1):N4 ta σ H R:=h
end L2
namespace BrB
abbrev Fe:=List Nat×List Nat
def okc(c b:Nat):Bool:=decide (c=63\/c=brs.getD b 0)
def cnd(k c m:Nat)(e:Fe)(b:Nat):Option Fe:=if okc c b=true then(nx k e.2 b).bind λs=>if b%2=0/\¬e.2.length<m then none else some (e.1++[b],s)else none
def chl(k c m:Nat)(e:Fe):List Fe:=(List.range (2*k)).filterMap (cnd k c m e)
def fil(k:Nat)(a:List Nat):Nat->List Fe
 |0=>[([],[])]
 |j+1=>(fil k a j).flatMap (chl k (a.getD j 0) (a.length-j))
def BM(k:Nat)(a:List Nat):List (List Nat):=((fil k a a.length).filter λe=>decide (e.2=[])).map (·.1)
def Mt(a l:List Nat):Prop:=∀i,i<l.length->okc (a.getD i 0) (l.getD i 0)=true
theorem SZ{k:Nat}{e x:Fe}(h:cnd k c m e b=some x):okc c b=true/\nx k e.2 b=some x.2/\x.1=e.1++[b]/\(b%2=0->e.2.length<m):=by
 unfold cnd at h
 by_cases h1:okc c b=true
 ·rw[if_pos h1]at h;obtain⟨s,h2,h3⟩:=Option.bind_eq_some_iff.mp h
  by_cases h4:b%2=0/\¬e.2.length<m
  ·rw[if_pos h4]at h3;cases h3
  ·rw[if_neg h4]at h3;cases h3;exact⟨h1,h2,rfl,λz=>Classical.byContradiction λw=>h4 ⟨z,w⟩⟩
 ·rw[if_neg h1]at h;cases h
theorem UE{k:Nat}{e x:Fe}(h:x∈chl k c m e):∃b,b<2*k/\okc c b=true/\nx k e.2 b=some x.2/\x.1=e.1++[b]:=by
 obtain⟨b,hb,h⟩:=List.mem_filterMap.mp h;obtain⟨h1,h2,h3,_⟩:=SZ h;exact⟨b,List.mem_range.mp hb,h1,h2,h3⟩
theorem QM(l r:List Nat)(h:i<l.length):(l++r).getD i 0=l.getD i 0:=by
 rw[List.getD_eq_getElem?_getD,List.getD_eq_getElem?_getD,List.getElem?_append_left h]
theorem QN(l:List Nat)(b:Nat):(l++[b]).getD l.length 0=b:=by
 rw[List.getD_eq_getElem?_getD,List.getElem?_append_right (Nat.le_refl _)];simp
theorem M4{k:Nat}:∀ {j:Nat} {e:Fe},e∈fil k a j->e.1.length=j/\go k [] e.1=some e.2/\Mt a e.1
 |0,e,h=>by
  rw[fil]at h;rw[List.mem_singleton.mp h];exact⟨rfl,by rw[Aq],λi hi=>absurd hi (Nat.not_lt_zero _)⟩
 |j+1,x,h=>by
  rw[fil]at h;obtain⟨e,he,hx⟩:=List.mem_flatMap.mp h;obtain⟨h1,h2,h3⟩:=M4 he;obtain⟨b,hb,g1,g2,g3⟩:=UE hx;refine⟨by rw[g3,List.length_append,h1];rfl,?_,λi hi=>?_⟩
  ·rw[g3,BX,h2,Option.bind_some,A0,g2,Option.bind_some,Aq]
  ·rw[g3]at hi⊢;rw[List.length_append,List.length_singleton]at hi
   by_cases e1:i<e.1.length
   ·rw[QM _ _ e1];exact h3 i e1
   ·have:i=e.1.length:=by lia
    subst this;rw[QN,h1];exact g1
theorem IW{k:Nat}{l:List Nat}(h:Rg k l)(j:Nat):∃s,go k [] (l.take j)=some s/\go k s (l.drop j)=some []:=by
 unfold Rg at h;rw[<-List.take_append_drop j l,BX]at h;obtain⟨s,h1,h2⟩:=Option.bind_eq_some_iff.mp h;exact⟨s,h1,h2⟩
theorem MQ{k:Nat}{l:List Nat}(hl:l.length=a.length)(h:Rg k l)(hm:Mt a l):∀ {j:Nat},j<=a.length->∀s,go k [] (l.take j)=some s->(l.take j,s)∈fil k a j
 |0,_,s,hs=>by
  rw[List.take_zero,Aq]at hs
  cases hs
  rw[fil,List.take_zero];exact List.mem_singleton.mpr rfl
 |j+1,hj,s,hs=>by
  have hlt:j<l.length:=by lia
  have et:l.take (j+1)=l.take j++[l.getD j 0]:=by
   rw[List.take_add_one,List.getD_eq_getElem?_getD,List.getElem?_eq_getElem hlt];rfl
  rw[et,BX]at hs;obtain⟨s1,h1,h2⟩:=Option.bind_eq_some_iff.mp hs;rw[A0]at h2;obtain⟨s2,h3,h4⟩:=Option.bind_eq_some_iff.mp h2;rw[Aq]at h4
  cases h4
  rw[fil,List.mem_flatMap];refine⟨_,MQ hl h hm (by lia) s1 h1,?_⟩;unfold chl;rw[List.mem_filterMap];refine⟨l.getD j 0,List.mem_range.mpr (BR h3).1,?_⟩;unfold cnd;rw[if_pos (hm j hlt),h3,Option.bind_some,et];rw[if_neg];rintro⟨z1,z2⟩;obtain⟨s3,g1,g2⟩:=IW h (j+1);rw[et,BX,h1,Option.bind_some,A0,h3,Option.bind_some,Aq]at g1
  cases g1
  have g3:=(F5 _ _ _ g2).1;rw[List.length_drop,List.length_nil]at g3;obtain⟨_,⟨_,e⟩|⟨w,_⟩⟩:=BR h3
  ·rw[e,List.length_cons]at g3;simp only at z2;lia
  ·lia
theorem mem_ress{k:Nat}{l:List Nat}:l∈BM k a↔Rg k l/\l.length=a.length/\Mt a l:=by
 unfold BM
 constructor
 ·intro h;obtain⟨e,he,rfl⟩:=List.mem_map.mp h;obtain⟨h1,h2⟩:=List.mem_filter.mp he;obtain⟨g1,g2,g3⟩:=M4 h1;refine⟨?_,g1,g3⟩;unfold Rg;rw[g2,of_decide_eq_true h2]
 ·rintro⟨h1,h2,h3⟩;refine List.mem_map.mpr ⟨(l,[]),List.mem_filter.mpr ⟨?_,by simp⟩,rfl⟩;have:=MQ h2 h1 h3 (Nat.le_refl _) [] (by rw[<-h2,List.take_length];exact h1);rwa[<-h2,List.take_length,h2]at this
end BrB
namespace BrS
theorem Ja(c b:Nat):inV (tx [c]) [tx [63],tx [b]]=decide (c=63\/c=b):=by
 unfold inV;simp only[List.any_cons,List.any_nil,M5]
 by_cases h1:c=63<;>by_cases h2:c=b<;>simp[h1,h2,eq_comm]<;>lia
theorem SD(ds:List V)(x:V):atI (ds++[x]) (-1)=some x:=Fx (by simp) (by simp)
theorem Ju(f:α->List β)(n:Nat)(hf:∀x,(f x).length<=n):∀ (l:List α),(l.flatMap f).length<=n*l.length
 |[]=>by simp
 |x::l=>by
  have:=Ju f n hf l;have:=hf x;rw[List.flatMap_cons,List.length_append,List.length_cons,Nat.mul_succ];lia
end BrS
namespace L2
section
variable{σ:W2}{Q:VK}
theorem Wb{a:Addr}{xs:List V}{g:TG}(Pv:Addr->Nat->List V->Hp->Prop)(ht:∀D i ys H',Pv D i ys H'->H' a=some (.lst xs))(h0:∀D,H D=none->Pv D 0 [] (upd H D (.lst [])))
 (hst:∀D ys H',H D=none->H' D=some (.lst ys)->Pv D xs.length ys H'->Q (.ref D) H')
 (hs:∀D i x ys H',H D=none->xs[i]? =some x->i<xs.length->H' D=some (.lst ys)->ys.length<=i->Pv D i ys H'->g x (Aa own sel σ) H' λσ4 H4=>tt σ4 H4 λb H5=>
   if b=true then te σ4 H5 λv H6=>∃ys,H6 D=some (.lst ys)/\ys.length<sizeLine/\∃m',m'<xs.length-i/\CW D xs.length (Pv D) (i+1) m' (upd H6 D (.lst (ys++[v])))
   else∃m',m'<xs.length-i/\CW D xs.length (Pv D) (i+1) m' H5):BL (Itl K a) own sel σ g tt te Q H:=by
 refine DK (n:=xs.length) Pv h0 (λD i ys H' hD hi hy p=>⟨xs,xs[i],SqL.of (ht _ _ _ _ p),List.getElem?_eq_getElem hi⟩) (λD ys H' hD hy hl p=>⟨⟨_,SqL.of (ht _ _ _ _ p),Nat.le_refl _⟩,hst D ys H' hD hy p⟩) ?_;rintro D i ys H' x H3 hD hi hy hl p ⟨rfl,hx⟩;exact hs D i x ys H3 hD (hx _ (SqL.of (ht _ _ _ _ p))) hi hy hl p
end
end L2
namespace BrB
def sms(L:List Int):Int:=L.foldr (· + ·) 0
theorem LA(x:Int)(L:List Int):sms (x::L)=x+sms L:=rfl
theorem Ff:∀ (L M:List Int),sms (L++M)=sms L+sms M
 |[],M=>by simp[sms]
 |x::L,M=>by rw[List.cons_append,LA,LA,Ff L M];lia
theorem K9(f:α->List β)(g:β->Int):∀ (L:List α),sms ((L.flatMap f).map g)=sms (L.map λe=>sms ((f e).map g))
 |[]=>rfl
 |e::L=>by rw[List.flatMap_cons,List.map_append,Ff,K9 f g L];rfl
theorem M3{k:Nat}:∀ {l st s:List Nat},(∀o∈st,o<k)->go k st l=some s->∀o∈s,o<k
 |[],st,s,h,e=>by rw[Aq]at e;cases e;exact h
 |b::l,st,s,h,e=>by
  rw[A0]at e;obtain⟨s1,h1,h2⟩:=Option.bind_eq_some_iff.mp e;refine M3 (λo ho=>?_) h2;obtain⟨hb,⟨_,rfl⟩|⟨_,rfl⟩⟩:=BR h1
  ·rcases List.mem_cons.mp ho with rfl|ho
   ·lia
   ·exact h o ho
  ·exact h o (List.mem_cons_of_mem _ ho)
theorem Kw:∀ {l:List Nat} {s i:Nat},i<l.length->P (s+i) (l.getD i 0)=0->wtl P s l=0
 |[],_,i,h,_=>absurd h (Nat.not_lt_zero _)
 |b::l,s,0,_,e=>by rw[wtl,show P s b=0 from e,Int.zero_mul]
 |b::l,s,i+1,h,e=>by
  rw[wtl,Kw (l:=l) (s:=s+1) (i:=i) (by simpa using h) (by rw[show s+1+i=s+(i+1) by lia];exact e),Int.mul_zero]
end BrB
namespace BrS
variable{ws:List Int}
def N8(vs:List V)(H:Hp)(k:Int)(a:List Nat)(ws:List Int):Prop:=∃wv,vs=[.int k,tx a,wv]/\1<=k/\k<=4/\Ab k a=true/\WOk H k wv ws
def K2:Sp:=λvs H Q _=>∃k a ws,N8 vs H k a ws/\∀H',Same H H'->Q (.int (wsm k.toNat ws a)) H'
def Lq:Sp:=λvs H Q _=>∃k a ws,N8 vs H k a ws/\∀ (v:V) (o:O) (H':Hp),Same H H'->Ft H' v o->Best (Dn k.toNat 0 a.length) (wtl (PP (a.map (plw ws))) 0) o->Q v H'
theorem VJ(hw:ws.length<=8)(hb:b<ws.length):(plw ws c).getD b 0=if c=63 then ws.getD b 0 else if c=brs.getD b 0 then 1 else 0:=by
 unfold plw
 by_cases h:c=63
 ·rw[if_pos h,if_pos h]
 ·rw[if_neg h,if_neg h,List.getD_eq_getElem?_getD,List.getElem?_map,List.getElem?_take_of_lt hb,Ca (by lia)];rfl
theorem V0(hi:i<a.length)(hw:ws.length<=8)(hb:b<ws.length):PP (a.map (plw ws)) i b=if a.getD i 0=63 then ws.getD b 0 else if a.getD i 0=brs.getD b 0 then 1 else 0:=by
 show((a.map (plw ws)).getD i []).getD b 0=_;have:(a.map (plw ws)).getD i []=plw ws (a.getD i 0):=by
  simp only[List.getD_eq_getElem?_getD,List.getElem?_map,List.getElem?_eq_getElem hi];rfl
 rw[this,VJ hw hb]
theorem Fn{x:Int}(h0:0<=x)(h:x<=y):∀n:Nat,x^n<=y^n
 |0=>by rw[Int.pow_zero,Int.pow_zero];exact Int.le_refl _
 |n+1=>by rw[Int.pow_succ,Int.pow_succ];exact Int.mul_le_mul (Fn h0 h n) h h0 (Int.pow_nonneg (by lia))
theorem Fm(h:1<=y)(hnm:n<=m):y^n<=y^m:=by
 obtain⟨d,rfl⟩:∃d,m=n+d:=⟨m-n,by lia⟩;clear hnm
 induction d with
 |zero=>exact Int.le_refl _
 |succ d ih=>
  rw[<-Nat.add_assoc,Int.pow_succ];have h0:0<=y^(n+d):=Int.pow_nonneg (by lia)
  calc y^n<=y^(n+d)*1:=by rw[Int.mul_one];exact ih
   _<=y^(n+d)*y:=Int.mul_le_mul_of_nonneg_left h h0
end BrS
namespace BrI
variable{p t:Nat}
theorem Hd(f:Nat->Int)(a:Nat):∀m,sm (a+m) f=sm a f+sm m (λe=>f (a+e))
 |0=>by rw[Nat.add_zero];simp[sm]
 |m+1=>by rw[<-Nat.add_assoc,sm,Hd f a m,sm];lia
theorem Ds{a:Nat}(h:a+m<=n)(h0:∀e,e<n->(e<a\/a+m<=e)->f e=0):sm n f=sm m (λe=>f (a+e)):=by
 obtain⟨d,rfl⟩:∃d,n=a+m+d:=⟨n-(a+m),by lia⟩;rw[Hd f (a+m) d,Hd f a m,sm_zero a λe he=>h0 e (by lia) (.inl he),sm_zero d λe he=>h0 _ (by lia) (.inr (by lia))];lia
section
variable{k:Nat}
theorem Fc(i:Nat):tbl P k i i=1:=by unfold tbl;rw[if_pos (Nat.le_refl _),Nat.sub_self];rfl
theorem AY(h:j<i):tbl P k i j=0:=by unfold tbl;rw[if_neg (by lia)]
theorem K0(h:i<j)(hj:j<=n):tbl P k i j=sm n (λe=>pr P k i e*(tbl P k (i+1) e*tbl P k (e+1) j)):=by
 rw[Ds (a:=i+1) (m:=j-i-1) (by lia) (λe he z=>by
  rcases z with z|z
  ·rw[AY (i:=i+1) (j:=e) z];simp
  ·rw[AY (i:=e+1) (j:=j) (by lia)];simp)]
 unfold tbl;rw[if_pos (by lia),show j-i=(j-i-1)+1 by lia,Et];refine AQ _ λe he=>?_;rw[if_pos (by lia),if_pos (by lia),show i+1+e-(i+1)=e by lia,show j-(i+1+e+1)=j-i-1-e-1 by lia,show i+1+e+1=i+e+2 by lia,Int.mul_assoc]
theorem Lo(h:i<=t)(ht:t<n):tbl P k i (t+1)=sm n (λs=>tbl P k i s*(pr P k s t*tbl P k (s+1) t)):=by
 rw[Ds (a:=i) (m:=t-i) (by lia) (λe he z=>by
  rcases z with z|z
  ·rw[AY (i:=i) (j:=e) z];simp
  ·rw[AY (i:=e+1) (j:=t) (by lia)];simp)]
 unfold tbl;rw[if_pos (by lia),show t+1-i=(t-i)+1 by lia,MV (t-i) (t-i) i (Nat.le_refl _)];refine AQ _ λe he=>?_;rw[if_pos (by lia),if_pos (by lia),show i+e-i=e by lia,show t-(i+e+1)=t-i-e-1 by lia,show i+(t-i)=t by lia,Int.mul_assoc]
def Of(P:Nat->Nat->Int)(k n:Nat):Nat->Nat->Nat->Int
 |0,_,_=>0
 |f+1,t,j=>(if j=n then tbl P k 0 t else 0)+sm n (λu=>tbl P k (u+1) t*(pr P k u j*sm (n+1) (λs=>Of P k n f u s*tbl P k (j+1) s)))
theorem Ij:∀ (f t j:Nat),t<f->Of P k n f t j=Of P k n (f+1) t j
 |0,t,j,h=>absurd h (Nat.not_lt_zero _)
 |f+1,t,j,h=>by
  rw[Of,Of.eq_def (n:=n) (P:=P) (k:=k) (f+1+1)];simp only;congr 1;refine AQ n λu hu=>?_
  by_cases e:u<t
  ·congr 2;exact AQ (n+1) λs _=>by rw[Ij f u s (by lia)]
  ·rw[AY (i:=u+1) (j:=t) (by lia)];simp
def Oo(P:Nat->Nat->Int)(k n t j:Nat):Int:=Of P k n (n+1) t j
def out(P:Nat->Nat->Int)(k n u j:Nat):Int:=sm (n+1) (λs=>Oo P k n u s*tbl P k (j+1) s)
theorem EA(h:t<=n):Oo P k n t j=(if j=n then tbl P k 0 t else 0)+sm n (λu=>tbl P k (u+1) t*(pr P k u j*out P k n u j)):=by
 unfold Oo out;rw[Of];congr 1;refine AQ n λu hu=>?_
 by_cases e:u<t
 ·congr 2;refine AQ (n+1) λs _=>?_;unfold Oo;rw[Ij n u s (by lia)]
 ·rw[AY (i:=u+1) (j:=t) (by lia)];simp
theorem Fy(j:Nat):Oo P k n 0 j=if j=n then 1 else 0:=by
 rw[EA (Nat.zero_le _),Fc,sm_zero n λu _=>by rw[AY (i:=u+1) (j:=0) (by lia)];simp];lia
theorem Ii(h:t<n):Oo P k n (t+1) j=pr P k t j*out P k n t j+sm n (λs=>Oo P k n s j*(pr P k s t*tbl P k (s+1) t)):=by
 rw[EA (by lia)];have e1:sm n (λu=>tbl P k (u+1) (t+1)*(pr P k u j*out P k n u j))=pr P k t j*out P k n t j+sm n (λu=>(if u<t then tbl P k (u+1) (t+1)else 0)*(pr P k u j*out P k n u j)):=by
  have h1:sm n (λu=>(if u=t then pr P k t j*out P k n t j else 0)+(if u<t then tbl P k (u+1) (t+1)else 0)*(pr P k u j*out P k n u j))=sm n (λu=>tbl P k (u+1) (t+1)*(pr P k u j*out P k n u j)):=AQ n λu _=>by
   by_cases z:u=t
   ·subst z;rw[if_pos rfl,if_neg (Nat.lt_irrefl _),Fc];simp
   ·rw[if_neg z]
    by_cases w:u<t
    ·rw[if_pos w];lia
    ·rw[if_neg w,AY (i:=u+1) (j:=t+1) (by lia)];simp
  rw[<-h1,CJ];congr 1;exact(B9 (f:=λu=>if u=t then pr P k t j*out P k n t j else 0) h (λi _ hi=>if_neg hi)).trans (if_pos rfl)
 have e2:∀s,s<n->Oo P k n s j*(pr P k s t*tbl P k (s+1) t)=(if j=n then tbl P k 0 s else 0)*(pr P k s t*tbl P k (s+1) t)+sm n (λu=>tbl P k (u+1) s*(pr P k u j*out P k n u j)*(pr P k s t*tbl P k (s+1) t)):=λs hs=>by
  rw[EA (by lia),Int.add_mul,CU]
 rw[e1,AQ n e2,CJ,CV];have e3:(if j=n then tbl P k 0 (t+1)else 0)=sm n (λs=>(if j=n then tbl P k 0 s else 0)*(pr P k s t*tbl P k (s+1) t)):=by
  by_cases z:j=n
  ·rw[if_pos z,Lo (n:=n) (Nat.zero_le _) h];exact AQ n λs _=>by rw[if_pos z]
  ·rw[if_neg z,sm_zero n λs _=>by rw[if_neg z];simp]
 have e4:sm n (λu=>(if u<t then tbl P k (u+1) (t+1)else 0)*(pr P k u j*out P k n u j))=sm n (λu=>sm n (λs=>tbl P k (u+1) s*(pr P k u j*out P k n u j)*(pr P k s t*tbl P k (s+1) t))):=AQ n λu _=>by
  by_cases w:u<t
  ·rw[if_pos w,Lo (n:=n) (by lia) h,<-CU];exact AQ n λs _=>Int.mul_right_comm _ _ _
  ·rw[if_neg w,Int.zero_mul,sm_zero n λs hs=>?_]
   by_cases z:s<t
   ·rw[AY (i:=u+1) (j:=s) (by lia)];simp
   ·rw[AY (i:=s+1) (j:=t) (by lia)];simp
 rw[e3,e4];lia
theorem HS:∀s,s<=n->sm (n+1) (λt=>Oo P k n s t*tbl P k s t)=tbl P k 0 n
 |0,_=>by
  rw[B9 (f:=λt=>Oo P k n 0 t*tbl P k 0 t) (i:=n) (by lia) λj _ hj=>by rw[Fy,if_neg hj,Int.zero_mul]];rw[Fy,if_pos rfl,Int.one_mul]
 |s+1,h=>by
  rw[<-HS s (by lia)];have hs:s<n:=h;have a1:sm (n+1) (λt=>Oo P k n s t*tbl P k s t)=Oo P k n s s+sm n (λe=>pr P k s e*(tbl P k (s+1) e*out P k n s e)):=by
   have h1:∀t,t<n+1->Oo P k n s t*tbl P k s t=(if t=s then Oo P k n s s else 0)+sm n (λe=>pr P k s e*(tbl P k (s+1) e*(Oo P k n s t*tbl P k (e+1) t))):=λt ht=>by
    by_cases z:t=s
    ·subst z;rw[Fc,if_pos rfl,sm_zero n λe _=>?_]
     ·lia
     ·by_cases w:e+1<=t
      ·rw[AY (i:=t+1) (j:=e) (by lia)];simp
      ·rw[AY (i:=e+1) (j:=t) (by lia)];simp
    ·rw[if_neg z,Int.zero_add]
     by_cases w:s<t
     ·rw[K0 (n:=n) w (by lia),<-BI];exact AQ n λe _=>by
       rw[Int.mul_left_comm,Int.mul_left_comm (Oo P k n s t)]
     ·rw[AY (i:=s) (j:=t) (by lia),Int.mul_zero,sm_zero n λe _=>?_]
      by_cases y:e+1<=t
      ·rw[AY (i:=s+1) (j:=e) (by lia)];simp
      ·rw[AY (i:=e+1) (j:=t) (by lia)];simp
   rw[AQ (n+1) h1,CJ,CV];congr 1
   ·exact(B9 (f:=λt=>if t=s then Oo P k n s s else 0) (by lia) (λi _ hi=>if_neg hi)).trans (if_pos rfl)
   ·refine AQ n λe _=>?_;unfold out;rw[<-BI,<-BI]
  have a2:sm (n+1) (λt=>Oo P k n (s+1) t*tbl P k (s+1) t)=sm n (λe=>pr P k s e*(tbl P k (s+1) e*out P k n s e))+sm n (λu=>pr P k u s*(tbl P k (u+1) s*out P k n u s)):=by
   have h1:∀t,t<n+1->Oo P k n (s+1) t*tbl P k (s+1) t=pr P k s t*(tbl P k (s+1) t*out P k n s t)+sm n (λu=>pr P k u s*(tbl P k (u+1) s*(Oo P k n u t*tbl P k (s+1) t))):=λt ht=>by
    rw[Ii hs,Int.add_mul,<-CU];congr 1
    ·rw[Int.mul_assoc,Int.mul_comm (out P k n s t)]
    ·exact AQ n λu _=>by
      rw[Int.mul_assoc,Int.mul_assoc,Int.mul_left_comm (Oo P k n u t),Int.mul_left_comm (Oo P k n u t)]
   rw[AQ (n+1) h1,CJ,CV];congr 1
   ·rw[sm];have:out P k n s n=0:=by
     unfold out;refine sm_zero (n+1) λt ht=>?_;rw[AY (i:=n+1) (j:=t) (by lia)];simp
    rw[this];simp
   ·refine AQ n λu _=>?_;unfold out;rw[<-BI,<-BI]
  have a3:Oo P k n s s=sm n (λu=>pr P k u s*(tbl P k (u+1) s*out P k n u s)):=by
   rw[EA (by lia),if_neg (by lia),Int.zero_add];exact AQ n λu _=>by rw[Int.mul_left_comm]
  rw[a1,a2,a3];lia
end
section
variable{k:Nat}
theorem Dq{x y:Nat}(h:∀j b,j≠i->P' j b=P j b)(hx:y<=i\/i<x):tbl P' k x y=tbl P k x y:=by
 unfold tbl
 by_cases z:x<=y
 ·rw[if_pos z,if_pos z];exact Hy _ _ _ λj b h1 h2=>h j b (by lia)
 ·rw[if_neg z,if_neg z]
theorem VH{x y:Nat}(h:∀j b,j≠i->P' j b=P j b)(hx:x≠i)(hy:y≠i):pr P' k x y=pr P k x y:=by
 unfold pr;exact AQ k λp _=>by rw[h x _ hx,h y _ hy]
theorem NG(h:∀j b,j≠i->P' j b=P j b):∀ (f t j:Nat),t<=i->i<j->Of P' k n f t j=Of P k n f t j
 |0,_,_,_,_=>rfl
 |f+1,t,j,ht,hj=>by
  rw[Of,Of];congr 1
  ·rw[Dq h (.inl ht)]
  ·refine AQ n λu hu=>?_
   by_cases e:u<t
   ·rw[Dq h (x:=u+1) (y:=t) (.inl ht),VH h (x:=u) (y:=j) (by lia) (by lia)];congr 2;refine AQ (n+1) λs hs=>?_
    by_cases z:j+1<=s
    ·rw[NG h f u s (by lia) (by lia),Dq h (x:=j+1) (y:=s) (.inr (by lia))]
    ·rw[AY (P:=P') (i:=j+1) (j:=s) (by lia),AY (P:=P) (i:=j+1) (j:=s) (by lia),Int.mul_zero,Int.mul_zero]
   ·rw[AY (P:=P') (i:=u+1) (j:=t) (by lia),AY (P:=P) (i:=u+1) (j:=t) (by lia),Int.zero_mul,Int.zero_mul]
theorem MB(h:∀j b,j≠i->P' j b=P j b){u:Nat}(hu:u<=i)(hj:i<=j):out P' k n u j=out P k n u j:=by
 unfold out;refine AQ (n+1) λs hs=>?_
 by_cases z:j+1<=s
 ·unfold Oo;rw[NG h (n+1) u s hu (by lia),Dq h (x:=j+1) (y:=s) (.inr (by lia))]
 ·rw[AY (P:=P') (i:=j+1) (j:=s) (by lia),AY (P:=P) (i:=j+1) (j:=s) (by lia),Int.mul_zero,Int.mul_zero]
def Pat(P:Nat->Nat->Int)(i b:Nat):Nat->Nat->Int:=λj c=>if j=i/\c≠b then 0 else P j c
theorem Ef(P:Nat->Nat->Int)(i b:Nat):∀j c,j≠i->Pat P i b j c=P j c:=λj c h=>if_neg λz=>h z.1
theorem Ex(P:Nat->Nat->Int)(i b:Nat):Pat P i b i b=P i b:=if_neg λz=>z.2 rfl
theorem Dz(P:Nat->Nat->Int)(i b:Nat)(h:c≠b):Pat P i b i c=0:=if_pos ⟨rfl,h⟩
theorem FM(P:Nat->Nat->Int)(h:i<n):tbl P k 0 n=sm n (λu=>pr P k u i*(tbl P k (u+1) i*out P k n u i))+sm n (λe=>pr P k i e*(tbl P k (i+1) e*out P k n i e)):=by
 rw[<-HS i (by lia)];have a1:sm (n+1) (λt=>Oo P k n i t*tbl P k i t)=Oo P k n i i+sm n (λe=>pr P k i e*(tbl P k (i+1) e*out P k n i e)):=by
  have h1:∀t,t<n+1->Oo P k n i t*tbl P k i t=(if t=i then Oo P k n i i else 0)+sm n (λe=>pr P k i e*(tbl P k (i+1) e*(Oo P k n i t*tbl P k (e+1) t))):=λt ht=>by
   by_cases z:t=i
   ·subst z;rw[Fc,if_pos rfl,sm_zero n λe _=>?_]
    ·lia
    ·by_cases w:e+1<=t
     ·rw[AY (i:=t+1) (j:=e) (by lia)];simp
     ·rw[AY (i:=e+1) (j:=t) (by lia)];simp
   ·rw[if_neg z,Int.zero_add]
    by_cases w:i<t
    ·rw[K0 (n:=n) w (by lia),<-BI];exact AQ n λe _=>by rw[Int.mul_left_comm,Int.mul_left_comm (Oo P k n i t)]
    ·rw[AY (i:=i) (j:=t) (by lia),Int.mul_zero,sm_zero n λe _=>?_]
     by_cases y:e+1<=t
     ·rw[AY (i:=i+1) (j:=e) (by lia)];simp
     ·rw[AY (i:=e+1) (j:=t) (by lia)];simp
  rw[AQ (n+1) h1,CJ,CV];congr 1
  ·exact(B9 (f:=λt=>if t=i then Oo P k n i i else 0) (by lia) (λi _ hi=>if_neg hi)).trans (if_pos rfl)
  ·refine AQ n λe _=>?_;unfold out;rw[<-BI,<-BI]
 have a3:Oo P k n i i=sm n (λu=>pr P k u i*(tbl P k (u+1) i*out P k n u i)):=by
  rw[EA (by lia),if_neg (by lia),Int.zero_add];exact AQ n λu _=>by rw[Int.mul_left_comm]
 rw[a1,a3]
theorem MZ(P:Nat->Nat->Int)(h:i<n)(hp:p<k):tbl (Pat P i (2*p)) k 0 n=sm n (λe=>P i (2*p)*P e (2*p+1)*(tbl P k (i+1) e*out P k n i e)):=by
 have off:=Ef P i (2*p);rw[FM _ h];have z1:∀u,u<n->pr (Pat P i (2*p)) k u i*(tbl (Pat P i (2*p)) k (u+1) i*out (Pat P i (2*p)) k n u i)=0:=λu _=>by
  have:pr (Pat P i (2*p)) k u i=0:=by
   unfold pr;exact sm_zero k λq _=>by rw[Dz P i (2*p) (c:=2*q+1) (by lia),Int.mul_zero]
  rw[this,Int.zero_mul]
 rw[sm_zero n z1,Int.zero_add];refine AQ n λe _=>?_
 by_cases z:i+1<=e
 ·rw[Dq off (x:=i+1) (y:=e) (.inr (by lia)),MB off (Nat.le_refl _) (by lia)];congr 1;unfold pr;rw[B9 (f:=λq=>Pat P i (2*p) i (2*q)*Pat P i (2*p) e (2*q+1)) hp (λq _ hq=>by rw[Dz P i (2*p) (c:=2*q) (by lia),Int.zero_mul])];rw[Ex,off e _ (by lia)]
 ·rw[AY (P:=Pat P i (2*p)) (i:=i+1) (j:=e) (by lia),AY (P:=P) (i:=i+1) (j:=e) (by lia)];simp
theorem Le(P:Nat->Nat->Int)(h:i<n)(hp:p<k):tbl (Pat P i (2*p+1)) k 0 n=sm n (λu=>P u (2*p)*P i (2*p+1)*(tbl P k (u+1) i*out P k n u i)):=by
 have off:=Ef P i (2*p+1);rw[FM _ h];have z1:∀e,e<n->pr (Pat P i (2*p+1)) k i e*(tbl (Pat P i (2*p+1)) k (i+1) e*out (Pat P i (2*p+1)) k n i e)=0:=λe _=>by
  have:pr (Pat P i (2*p+1)) k i e=0:=by
   unfold pr;exact sm_zero k λq _=>by rw[Dz P i (2*p+1) (c:=2*q) (by lia),Int.zero_mul]
  rw[this,Int.zero_mul]
 rw[sm_zero n z1,Int.add_zero];refine AQ n λu _=>?_
 by_cases z:u+1<=i
 ·rw[Dq off (x:=u+1) (y:=i) (.inl (Nat.le_refl _)),MB off (by lia) (Nat.le_refl _)];congr 1;unfold pr;rw[B9 (f:=λq=>Pat P i (2*p+1) u (2*q)*Pat P i (2*p+1) i (2*q+1)) hp (λq _ hq=>by rw[Dz P i (2*p+1) (c:=2*q+1) (by lia),Int.mul_zero])];rw[Ex,off u _ (by lia)]
 ·rw[AY (P:=Pat P i (2*p+1)) (i:=u+1) (j:=i) (by lia),AY (P:=P) (i:=u+1) (j:=i) (by lia)];simp
end
section
variable{k:Nat}{c:Int}
theorem ipl{x:Int}(h0:0<=x)(h:x<=y):∀n:Nat,x^n<=y^n
 |0=>by rw[Int.pow_zero,Int.pow_zero];exact Int.le_refl _
 |n+1=>by rw[Int.pow_succ,Int.pow_succ];exact Int.mul_le_mul (ipl h0 h n) h h0 (Int.pow_nonneg (by lia))
theorem JM(hc:1<=c)(h0:∀i b,0<=P i b)(h1:∀i b,P i b<=c)(hk:k<=4)(x y:Nat):0<=tbl P k x y/\tbl P k x y<=(5*c)^(y-x):=by
 unfold tbl
 by_cases z:x<=y
 ·rw[if_pos z];obtain⟨a,b⟩:=FZ (P:=P) (k:=k) (c:=c) (by lia) h0 h1 (y-x) x [];refine⟨a,Int.le_trans b (ipl (Int.mul_nonneg (by lia) (by lia)) ?_ _)⟩;exact Int.mul_le_mul_of_nonneg_right (by lia) (by lia)
 ·rw[if_neg z];exact⟨Int.le_refl _,Int.pow_nonneg (by lia)⟩
theorem Wr(hc:1<=c)(h0:∀i b,0<=P i b)(h1:∀i b,P i b<=c)(hk:k<=4)(x y:Nat):0<=pr P k x y/\pr P k x y<=(5*c)^2:=by
 have hb:∀p,p<k->0<=P x (2*p)*P y (2*p+1)/\P x (2*p)*P y (2*p+1)<=c*c:=λp _=>⟨Int.mul_nonneg (h0 _ _) (h0 _ _),Int.mul_le_mul (h1 _ _) (h1 _ _) (h0 _ _) (by lia)⟩;unfold pr;refine⟨A7 k λp hp=>(hb p hp).1,?_⟩;refine Int.le_trans (DI k λp hp=>(hb p hp).2) ?_;rw[DE];have hcc:0<=c*c:=Int.mul_nonneg (by lia) (by lia);have e:(5*c)^2=25*(c*c):=by rw[show(2:Nat)=1+1 from rfl,Int.pow_succ,Int.pow_succ,Int.pow_zero,Int.one_mul,Int.mul_assoc,Int.mul_left_comm c,<-Int.mul_assoc];rfl
 rw[e];exact Int.mul_le_mul_of_nonneg_right (by lia) hcc
theorem up2{D:Int}(hD:0<=D){E:Nat}(h:2<=m):10000*((100*D)^E*D^m)<=(100*D)^(E+m):=by
 have h1:(10000:Int)*D^m<=(100*D)^m:=by
  obtain⟨d,rfl⟩:∃d,m=2+d:=⟨m-2,by lia⟩;rw[Int.mul_pow];refine Int.mul_le_mul_of_nonneg_right ?_ (Int.pow_nonneg hD);rw[Int.pow_add];have:(1:Int)<=100^d:=Int.pow_pos (by decide);have e:(100:Int)^2=10000:=by decide
  rw[e];lia
 rw[Int.pow_add,Int.mul_left_comm];exact Int.mul_le_mul_of_nonneg_left h1 (Int.pow_nonneg (by lia))
theorem Mj{Y:Int}(h:∀i,i<m->10000*f i<=Y):10000*sm m f<=m*Y:=by
 rw[<-BI];refine Int.le_trans (DI m h) ?_;rw[DE];exact Int.le_refl _
theorem D8(h0:∀i b,0<=P i b):∀ (n i:Nat) (st:List Nat),0<=cv P k n i st
 |0,_,[]=>by rw[cv];decide
 |0,_,_::_=>by rw[cv];decide
 |n+1,i,[]=>by rw[Bs];exact A7 k λp _=>Int.mul_nonneg (h0 _ _) (D8 h0 _ _ _)
 |n+1,i,o::r=>by rw[Bz];exact Int.add_nonneg (A7 k λp _=>Int.mul_nonneg (h0 _ _) (D8 h0 _ _ _)) (Int.mul_nonneg (h0 _ _) (D8 h0 _ _ _))
theorem D9(h0:∀i b,0<=P i b):∀ (f t j:Nat),0<=Of P k n f t j
 |0,_,_=>Int.le_refl _
 |f+1,t,j=>by
  have tb0:∀x y,0<=tbl P k x y:=λx y=>by
   unfold tbl
   split
   ·exact D8 h0 _ _ _
   ·exact Int.le_refl _
  have pr0:∀x y,0<=pr P k x y:=λx y=>A7 k λp _=>Int.mul_nonneg (h0 _ _) (h0 _ _);rw[Of];refine Int.add_nonneg ?_ (A7 n λu _=>Int.mul_nonneg (tb0 _ _) (Int.mul_nonneg (pr0 _ _) (A7 (n+1) λs _=>Int.mul_nonneg (D9 h0 f u s) (tb0 _ _))))
  split
  ·exact tb0 _ _
  ·exact Int.le_refl _
theorem GS(hc:1<=c)(h0:∀i b,0<=P i b)(h1:∀i b,P i b<=c)(hk:k<=4)(hn:n<=40):∀ (t j:Nat),t<=j->j<=n->Oo P k n t j<=(100*(5*c))^(n-j+t)
 |0,j,_,hj=>by
  rw[Fy];have:(1:Int)<=(100*(5*c))^(n-j+0):=Int.pow_pos (by lia)
  split<;>lia
 |t+1,j,ht,hj=>by
  have hD:(0:Int)<=5*c:=by lia
  have T:=JM hc h0 h1 hk;have R:=Wr hc h0 h1 hk;have nn:∀x y,0<=Oo P k n x y:=λx y=>D9 h0 _ _ _;rw[Ii (by lia)];have Y0:0<=(100*(5*c))^(n-j+(t+1)):=Int.pow_nonneg (by lia);have a1:10000*(pr P k t j*out P k n t j)<=((n+1:Nat):Int)*(100*(5*c))^(n-j+(t+1)):=by
   unfold out;rw[<-BI];refine Mj λs hs=>?_
   by_cases z:j+1<=s
   ·have b1:=GS hc h0 h1 hk hn t s (by lia) (by lia);have b2:=T (j+1) s;have b3:=R t j;have b4:pr P k t j*(Oo P k n t s*tbl P k (j+1) s)<=(100*(5*c))^(n-s+t)*(5*c)^(s-j+1):=by
     refine Int.le_trans (Int.mul_le_mul b3.2 (Int.mul_le_mul b1 b2.2 b2.1 (Int.pow_nonneg (by lia))) (Int.mul_nonneg (nn _ _) b2.1) (Int.pow_nonneg hD)) ?_;rw[Int.mul_left_comm,<-Int.pow_add,show 2+(s-(j+1))=s-j+1 by lia];exact Int.le_refl _
    refine Int.le_trans (Int.mul_le_mul_of_nonneg_left b4 (by decide)) (Int.le_trans (up2 hD (by lia)) ?_);rw[show n-s+t+(s-j+1)=n-j+(t+1) by lia];exact Int.le_refl _
   ·rw[AY (i:=j+1) (j:=s) (by lia)];simpa using Y0
  have a2:10000*sm n (λs=>Oo P k n s j*(pr P k s t*tbl P k (s+1) t))<=(n:Int)*(100*(5*c))^(n-j+(t+1)):=by
   refine Mj λs hs=>?_
   by_cases z:s<t
   ·have b1:=GS hc h0 h1 hk hn s j (by lia) hj;have b2:=T (s+1) t;have b3:=R s t;have b4:Oo P k n s j*(pr P k s t*tbl P k (s+1) t)<=(100*(5*c))^(n-j+s)*(5*c)^(t-s+1):=by
     refine Int.le_trans (Int.mul_le_mul b1 (Int.mul_le_mul b3.2 b2.2 b2.1 (Int.pow_nonneg hD)) (Int.mul_nonneg b3.1 b2.1) (Int.pow_nonneg (by lia))) ?_;rw[<-Int.pow_add,show 2+(t-(s+1))=t-s+1 by lia];exact Int.le_refl _
    refine Int.le_trans (Int.mul_le_mul_of_nonneg_left b4 (by decide)) (Int.le_trans (up2 hD (by lia)) ?_);rw[show n-j+s+(t-s+1)=n-j+(t+1) by lia];exact Int.le_refl _
   ·rw[AY (i:=s+1) (j:=t) (by lia)];simpa using Y0
  generalize(100*(5*c))^(n-j+(t+1))=Y at*
  generalize pr P k t j*out P k n t j=A at*
  generalize sm n (λs=>Oo P k n s j*(pr P k s t*tbl P k (s+1) t))=B at*
  have e1:((n+1:Nat):Int)*Y<=41*Y:=Int.mul_le_mul_of_nonneg_right (by lia) Y0;have e2:(n:Int)*Y<=40*Y:=Int.mul_le_mul_of_nonneg_right (by lia) Y0;lia
end
end BrI
open BrI
namespace BrS
variable{a:Addr}{v:Int}{vs xs:List V}{e s:Nat}{x:Nat×Nat}{Q:VK}{E:XK}
def prs(n:Nat):List (Nat×Nat):=(List.range n).flatMap λs=>(List.range ((n-s)/2)).map λq=>(s,s+1+2*q)
def rst(P:Nat->Nat->Int)(k n s e:Nat):Int:=tbl P k (s+1) e*out P k n s e
def Fp(P:Nat->Nat->Int)(k n:Nat)(H:Hp)(vs:List V)(L:List (Nat×Nat)):Prop:=vs.length=L.length/\∀ (m:Nat) (x:Nat×Nat),L[m]? =some x->∃T:Addr,vs[m]? =some (V.ref T)/\H T=some (.tup [.int x.1, .int x.2, .int (rst P k n x.1 x.2)])
theorem Fp.same{k:Nat}(h:Fp P k n H vs L)(s:Same H H'):Fp P k n H' vs L:=⟨h.1,λm x hx=>let⟨T,a,b⟩:=h.2 m x hx;⟨T,a,s _ _ b⟩⟩
theorem Fp.lst{k:Nat}{o:HO}(h:Fp P k n H vs L)(ha:H a=some (.lst xs)):Fp P k n (upd H a o) vs L:=⟨h.1,λm x hx=>by
 obtain⟨T,e,b⟩:=h.2 m x hx;exact⟨T,e,by rw[AE (CF b ha (λz=>by cases z))];exact b⟩⟩
theorem Fp.more{k:Nat}{T:Addr}(h:Fp P k n H vs L)(b:H T=some (.tup [.int (s:Int), .int (e:Int), .int (rst P k n s e)])):Fp P k n H (vs++[.ref T]) (L++[(s,e)]):=by
 refine⟨by rw[List.length_append,List.length_append,h.1];rfl,λi x hx=>?_⟩
 by_cases c:i<L.length
 ·rw[List.getElem?_append_left c]at hx;obtain⟨T',b1,b2⟩:=h.2 i x hx;exact⟨T',by rw[List.getElem?_append_left (by rw[h.1];exact c)];exact b1,b2⟩
 ·rw[List.getElem?_append_right (by lia)]at hx;have hi:i=L.length:=by
   have:=(List.getElem?_eq_some_iff.mp hx).1;simp at this;lia
  subst hi;rw[Nat.sub_self]at hx
  cases hx
  exact⟨T,by rw[List.getElem?_append_right (by rw[h.1];exact Nat.le_refl _),h.1,Nat.sub_self];rfl,b⟩
theorem Tb.but{s F:Addr}(t:Tb H0 H s ad n T)(hF:H0 F=none)(h1:F≠s)(h2:∀i,i<=n->F≠ad i)(h:SameBut1 F H H'):Tb H0 H' s ad n T:=
 ⟨t.fs,t.fa,t.ns,t.inj,h _ _ t.top h1.symm,λi hi=>h _ _ (t.row i hi) (h2 i hi).symm,λb o z=>h _ _ (t.sm b o z) (AT z hF)⟩
def ot(P:Nat->Nat->Int)(k n s q r i j:Nat):Int:=
 if i<=s then Oo P k n i j else
  sm s (λu=>Oo P k n u j*(pr P k u (i-1)*tbl P k (u+1) (i-1)))+
  (if s<i-1/\(i-1<s+1+2*q\/(i-1=s+1+2*q/\j<r))then Oo P k n s j*(pr P k s (i-1)*tbl P k (s+1) (i-1))else 0)+
  (if i=s+1/\j<s+1+2*q then pr P k s j*out P k n s j else 0)
def OkT(P:Nat->Nat->Int)(k n s q r:Nat)(T:Nat->Nat->Int):Prop:=∀i j,i<=j->j<=n->(j-i)%2=0->T i j=ot P k n s q r i j
theorem Eg{k x y:Nat}(h:(y-x)%2=1):tbl P k x y=0:=by
 unfold tbl
 split
 ·exact DQ _ _ _ (by simpa using h)
 ·rfl
theorem OkT.zero{k:Nat}(h:∀i j,T i j=if i=0/\j=n then 1 else 0):OkT P k n 0 0 0 T:=by
 intro i j h1 h2 h3;rw[h];unfold ot
 by_cases e:i=0
 ·subst e;rw[if_pos (Nat.le_refl _),Fy]
  by_cases z:j=n
  ·rw[if_pos ⟨rfl,z⟩,if_pos z]
  ·rw[if_neg (λw=>z w.2),if_neg z]
 ·rw[if_neg (λw=>e w.1),if_neg (by lia),if_neg (by lia),if_neg (by lia)];rfl
theorem OkT.start{k:Nat}(hs:s<n)(h:OkT P k n s ((n-s)/2) 0 T):OkT P k n (s+1) 0 0 T:=by
 intro i j h1 h2 h3;rw[h i j h1 h2 h3];unfold ot
 by_cases e:i<=s
 ·rw[if_pos e,if_pos (by lia)]
 ·rw[if_neg e]
  by_cases e2:i=s+1
  ·subst e2;rw[if_pos (Nat.le_refl _),if_neg (by lia),Ii hs];have e3:sm n (λu=>Oo P k n u j*(pr P k u s*tbl P k (u+1) s))=sm s (λu=>Oo P k n u j*(pr P k u s*tbl P k (u+1) s)):=by
    refine(Ds (a:=0) (m:=s) (by lia) λe _ z=>?_).trans (AQ s λu _=>by rw[Nat.zero_add]);rw[AY (i:=e+1) (j:=s) (by lia)];simp
   rw[e3,show s+1-1=s from rfl]
   by_cases z:j<s+1+2*((n-s)/2)
   ·rw[if_pos ⟨rfl,z⟩];lia
   ·rw[if_neg (λw=>z w.2)];have hj:j=n:=by lia
    have:out P k n s j=0:=by
     unfold out;refine BrC.sm_zero (n+1) λt ht=>?_;rw[AY (i:=j+1) (j:=t) (by lia)];simp
    rw[this];lia
  ·rw[if_pos (show s<i-1/\(i-1<s+1+2*((n-s)/2)\/(i-1=s+1+2*((n-s)/2)/\j<0))from⟨by lia, .inl (by lia)⟩),if_neg (show¬ (i=s+1/\j<s+1+2*((n-s)/2))from λw=>e2 w.1),if_neg (show¬i<=s+1 by lia),if_neg (show¬ (s+1<i-1/\(i-1<s+1+1+2*0\/(i-1=s+1+1+2*0/\j<0))) by lia),if_neg (show¬ (i=s+1+1/\j<s+1+1+2*0) by lia),sm];lia
theorem OkT.stop{k r:Nat}(h:OkT P k n s q (s+2+2*q+2*r) T)(hv:v=T (s+2+2*q) (s+2+2*q+2*r)+Oo P k n s (s+2+2*q+2*r)*pr P k s (s+1+2*q)*tbl P k (s+1) (s+1+2*q))(hn:s+2+2*q+2*r<=n):
 OkT P k n s q (s+2+2*q+2*(r+1)) (λa b=>if a=s+2+2*q/\b=s+2+2*q+2*r then v else T a b):=by
 intro i j h1 h2 h3
 dsimp only
 by_cases z:i=s+2+2*q/\j=s+2+2*q+2*r
 ·obtain⟨rfl,rfl⟩:=z;rw[if_pos ⟨rfl,rfl⟩,hv,h _ _ (by lia) hn (by lia)];unfold ot;rw[if_neg (by lia),if_neg (by lia),show s+2+2*q-1=s+1+2*q by lia,if_neg (by lia),if_neg (by lia),if_pos (by lia),Int.mul_assoc];lia
 ·rw[if_neg z,h i j h1 h2 h3];unfold ot
  by_cases e:i<=s
  ·rw[if_pos e,if_pos e]
  ·rw[if_neg e,if_neg e];congr 2
   by_cases w:i-1=s+1+2*q
   ·have hi:i=s+2+2*q:=by lia
    have hj:j≠s+2+2*q+2*r:=λy=>z ⟨hi,y⟩
    by_cases y:j<s+2+2*q+2*r
    ·rw[if_pos (by lia),if_pos (by lia)]
    ·rw[if_neg (by lia),if_neg (by lia)]
   ·by_cases y:s<i-1/\i-1<s+1+2*q
    ·rw[if_pos (by lia),if_pos (by lia)]
    ·rw[if_neg (by lia),if_neg (by lia)]
theorem OkT.fin{k r:Nat}(h:OkT P k n s q r T)(hr:n<r)(hv:v=T (s+1) (s+1+2*q)+pr P k s (s+1+2*q)*out P k n s (s+1+2*q))(hn:s+1+2*q<n):
 OkT P k n s (q+1) 0 (λa b=>if a=s+1/\b=s+1+2*q then v else T a b):=by
 intro i j h1 h2 h3
 dsimp only
 by_cases z:i=s+1/\j=s+1+2*q
 ·obtain⟨rfl,rfl⟩:=z;rw[if_pos ⟨rfl,rfl⟩,hv,h _ _ (by lia) (by lia) (by lia)];unfold ot;rw[if_neg (by lia),if_neg (by lia),if_neg (by lia),if_neg (by lia),if_neg (by lia),if_pos (by lia)];lia
 ·rw[if_neg z,h i j h1 h2 h3];unfold ot
  by_cases e:i<=s
  ·rw[if_pos e,if_pos e]
  ·rw[if_neg e,if_neg e];have e1:(if s<i-1/\(i-1<s+1+2*q\/(i-1=s+1+2*q/\j<r))then Oo P k n s j*(pr P k s (i-1)*tbl P k (s+1) (i-1))else 0)=(if s<i-1/\(i-1<s+1+2*(q+1)\/(i-1=s+1+2*(q+1)/\j<0))then Oo P k n s j*(pr P k s (i-1)*tbl P k (s+1) (i-1))else 0):=by
    by_cases y:i-1=s+2+2*q
    ·rw[Eg (x:=s+1) (y:=i-1) (by lia)];simp
    ·by_cases w:s<i-1/\i-1<=s+1+2*q
     ·rw[if_pos (by lia),if_pos (by lia)]
     ·rw[if_neg (by lia),if_neg (by lia)]
   have e2:(if i=s+1/\j<s+1+2*q then pr P k s j*out P k n s j else 0)=(if i=s+1/\j<s+1+2*(q+1)then pr P k s j*out P k n s j else 0):=by
    by_cases y:i=s+1
    ·have hj:j≠s+1+2*q:=λw=>z ⟨y,w⟩
     by_cases w:j<s+1+2*q
     ·rw[if_pos (by lia),if_pos (by lia)]
     ·rw[if_neg (by lia),if_neg (by lia)]
    ·rw[if_neg (λw=>y w.1),if_neg (λw=>y w.1)]
   rw[e1,e2]
theorem OkT.row{k r:Nat}(h:OkT P k n s q r T)(h1:s<=j)(h2:j<=n)(h3:(j-s)%2=0):T s j=Oo P k n s j:=by
 rw[h s j h1 h2 h3];unfold ot;rw[if_pos (Nat.le_refl _)]
abbrev Cb:Int:=100*(5*top30)
section
variable{k:Nat}
theorem V2(h:∀l∈ps,Sm l)(hk:k<=4)(hn:n<=40){t:Nat}(h1:t<=j)(h2:j<=n):0<=Oo (PP ps) k n t j/\Oo (PP ps) k n t j<=Cb^40:=by
 have h0:∀i b,0<=PP ps i b:=λi b=>(Ay h i b).1;exact⟨D9 h0 _ _ _,Int.le_trans (GS (c:=top30) (by decide) h0 (λi b=>(Ay h i b).2) hk hn t j h1 h2) (Fm (by decide) (by lia))⟩
theorem NX(h:∀l∈ps,Sm l)(hk:k<=4)(hn:n<=40)(h1:s<=e)(h2:e<n):0<=out (PP ps) k n s e/\out (PP ps) k n s e<=41*Cb^(n-e-1+s):=by
 have h0:∀i b,0<=PP ps i b:=λi b=>(Ay h i b).1;have T:=JM (P:=PP ps) (k:=k) (c:=top30) (by decide) h0 (λi b=>(Ay h i b).2) hk;have Y0:0<=Cb^(n-e-1+s):=Int.pow_nonneg (by decide);unfold out;refine⟨A7 (n+1) λt _=>Int.mul_nonneg (D9 h0 _ _ _) (T _ _).1,?_⟩;refine Int.le_trans (DI (g:=λ_=>Cb^(n-e-1+s)) (n+1) λt ht=>?_) ?_
 ·by_cases z:e+1<=t
  ·have b1:=GS (P:=PP ps) (c:=top30) (k:=k) (n:=n) (by decide) h0 (λi b=>(Ay h i b).2) hk hn s t (by lia) (by lia);have b2:=T (e+1) t;have b3:(5*top30)^(t-(e+1))<=Cb^(t-(e+1)):=Fn (by decide) (by decide) _;refine Int.le_trans (Int.mul_le_mul b1 (Int.le_trans b2.2 b3) b2.1 (Int.pow_nonneg (by decide))) ?_;rw[<-Int.pow_add,show n-t+s+(t-(e+1))=n-e-1+s by lia];exact Int.le_refl _
  ·rw[AY (i:=e+1) (j:=t) (by lia),Int.mul_zero];exact Y0
 ·rw[DE];exact Int.mul_le_mul_of_nonneg_right (by lia) Y0
theorem NS(h:∀l∈ps,Sm l)(hk:k<=4)(hn:n<=40)(h1:s<e)(h2:e<n):0<=rst (PP ps) k n s e/\rst (PP ps) k n s e<=41*Cb^40:=by
 have h0:∀i b,0<=PP ps i b:=λi b=>(Ay h i b).1;have T:=JM (P:=PP ps) (k:=k) (c:=top30) (by decide) h0 (λi b=>(Ay h i b).2) hk (s+1) e;have O:=NX (ps:=ps) (k:=k) h hk hn (s:=s) (e:=e) (by lia) h2;unfold rst;refine⟨Int.mul_nonneg T.1 O.1,?_⟩;have b3:(5*top30)^(e-(s+1))<=Cb^(e-(s+1)):=Fn (by decide) (by decide) _;refine Int.le_trans (Int.mul_le_mul (Int.le_trans T.2 b3) O.2 O.1 (Int.pow_nonneg (by decide))) ?_;rw[Int.mul_left_comm,<-Int.pow_add];exact Int.mul_le_mul_of_nonneg_left (Fm (by decide) (by lia)) (by decide)
end
theorem Lc:(Cb^40).natAbs<big:=by unfold big Cb top30;decide +kernel
theorem IB:(41*Cb^40).natAbs<big:=by unfold big Cb top30;decide +kernel
theorem Sa:(Cb^40*(4*(top30*top30))).natAbs<big:=by unfold big Cb top30;decide +kernel
def FV:Sp:=λvs H Q _=>∃ (p s:Addr) (ps:List (List Int)) (k:Nat) (ads:Nat->Addr) (H0:Hp),vs=[.ref p, .ref s]/\Pls H p ps/\ps.length<=40/\k<=4/\(∀l∈ps,l.length=2*k/\Sm l)/\Tb H0 H s ads ps.length (tbl (PP ps) k)/\
 ∀ (F:Addr) (vs':List V) (H':Hp),H F=none->Same H H'->H' F=some (.lst vs')->Fp (PP ps) k ps.length H' vs' (prs ps.length)->Q (.ref F) H'
def BZ(n s q:Nat):List (Nat×Nat):=((List.range s).flatMap λs=>(List.range ((n-s)/2)).map λq=>(s,s+1+2*q))++(List.range q).map λq=>(s,s+1+2*q)
theorem VG(n s q:Nat):BZ n s (q+1)=BZ n s q++[(s,s+1+2*q)]:=by
 unfold BZ;rw[List.range_succ,List.map_append,<-List.append_assoc];rfl
theorem VF(n s:Nat):BZ n (s+1) 0=BZ n s ((n-s)/2):=by
 unfold BZ;rw[List.range_succ,List.flatMap_append];simp
theorem LI(n:Nat):BZ n n 0=prs n:=by unfold BZ prs;simp
theorem LH(n s q:Nat)(hs:s<=n)(hq:q<=n)(hn:n<=40):(BZ n s q).length<=1700:=by
 unfold BZ;rw[List.length_append,List.length_map,List.length_range];have:=Ju (λs=>(List.range ((n-s)/2)).map λq=>(s,s+1+2*q)) 20 (λx=>by rw[List.length_map,List.length_range];lia) (List.range s);rw[List.length_range]at this;lia
def rw2(m:Nat)(f:Nat->Int):List V:=(List.range m).map λj=>V.int (f j)
theorem Fh(m:Nat)(f:Nat->Int):(rw2 m f).length=m:=by simp[rw2]
theorem Fj(h:j<m):(rw2 m f)[j]? =some (.int (f j)):=by
 unfold rw2;rw[List.getElem?_map,List.getElem?_range h];rfl
theorem TR:(rw2 m f).set j (.int v)=rw2 m (λx=>if x=j then v else f x):=by
 apply List.ext_getElem?;intro i;unfold rw2;rw[List.getElem?_set,List.getElem?_map,List.getElem?_map]
 by_cases e:j=i
 ·subst e
  by_cases hj:j<m
  ·rw[List.getElem?_range hj];simp[hj]
  ·rw[if_pos rfl,if_neg (by simpa using hj)];rw[List.getElem?_eq_none (by simpa using hj)];rfl
 ·rw[if_neg e]
  by_cases hi:i<m
  ·rw[List.getElem?_range hi];simp[Ne.symm e]
  ·rw[List.getElem?_eq_none (by simpa using hi)];rfl
theorem HL{g:Nat->Int}(h:∀j,j<m->f j=g j):rw2 m f=rw2 m g:=by
 unfold rw2;refine List.map_congr_left λj hj=>?_;rw[h j (List.mem_range.mp hj)]
structure Tw (H0 H:Hp) (s:Addr) (ad:Nat->Addr) (n m:Nat) (T:Nat->Nat->Int):Prop where
 fs:H0 s=none
 fa:∀i,i<n->H0 (ad i)=none
 ns:∀i,i<n->ad i≠s
 inj:∀i j,i<n->j<n->ad i=ad j->i=j
 top:H s=some (.lst ((List.range n).map λi=>V.ref (ad i)))
 row:∀i,i<n->H (ad i)=some (.lst (rw2 m (T i)))
 sm:Same H0 H
section
variable{s:Addr}
theorem Tw.same(t:Tw H0 H s ad n m T)(h:Same H H'):Tw H0 H' s ad n m T:=⟨t.fs,t.fa,t.ns,t.inj,h _ _ t.top,λi hi=>h _ _ (t.row i hi),t.sm.trans h⟩
theorem Tw.congr(t:Tw H0 H s ad n m T)(h:∀i j,i<n->j<m->T i j=T' i j):Tw H0 H s ad n m T':=⟨t.fs,t.fa,t.ns,t.inj,t.top,λi hi=>by rw[t.row i hi,HL λj hj=>h i j hi hj],t.sm⟩
theorem Tw.at(t:Tw H0 H s ad n m T)(hi:i<n):((List.range n).map λi=>V.ref (ad i))[i]? =some (.ref (ad i)):=by
 rw[List.getElem?_map,List.getElem?_range hi];rfl
theorem Tw.set(t:Tw H0 H s ad n m T)(hi:i<n):Tw H0 (upd H (ad i) (.lst ((rw2 m (T i)).set j (.int v)))) s ad n m (λa b=>if a=i/\b=j then v else T a b):=by
 refine⟨t.fs,t.fa,t.ns,t.inj,by rw[AE (Ne.symm (t.ns i hi))];exact t.top,λa ha=>?_,λb o z=>?_⟩
 ·by_cases e:a=i
  ·subst e;rw[AJ,TR];congr 2;refine HL λx _=>?_
   by_cases q:x=j<;>simp[q]
  ·rw[AE (λz=>e (t.inj a i ha hi z)),t.row a ha];congr 2;refine HL λx _=>?_;simp[e]
 ·rw[AE (AT z (t.fa i hi))];exact t.sm b o z
end
def ga(P:Nat->Nat->Int)(k n i b:Nat)(x:Nat×Nat):Int:=
 if b%2=0 then(if x.1=i then P x.1 b*P x.2 (b+1)*rst P k n x.1 x.2 else 0)else(if x.2=i then P x.1 (b-1)*P x.2 b*rst P k n x.1 x.2 else 0)
theorem HJ(f:Nat->Int):∀m,sms ((List.range m).map f)=sm m f
 |0=>rfl
 |m+1=>by rw[List.range_succ,List.map_append,Ff,HJ f m,sm];simp[sms]
theorem Vo(P:Nat->Nat->Int){k:Nat}(hi:i<n)(hb:b<2*k):sms ((prs n).map (ga P k n i b))=tbl (Pat P i b) k 0 n:=by
 have e0:sms ((prs n).map (ga P k n i b))=sm n (λs=>sm ((n-s)/2) λq=>ga P k n i b (s,s+1+2*q)):=by
  unfold prs;rw[K9,HJ];refine AQ n λs _=>?_;rw[List.map_map,HJ];rfl
 rw[e0]
 by_cases hev:b%2=0
 ·obtain⟨p,rfl⟩:∃p,b=2*p:=⟨b/2,by lia⟩;have e1:sm n (λe=>P i (2*p)*P e (2*p+1)*(tbl P k (i+1) e*out P k n i e))=sm (n-i-1) (λd=>P i (2*p)*P (i+1+d) (2*p+1)*(tbl P k (i+1) (i+1+d)*out P k n i (i+1+d))):=Ds (by lia) λe _ z=>by
   rw[AY (i:=i+1) (j:=e) (by lia)];simp
  have e2:=Fg (λd=>P i (2*p)*P (i+1+d) (2*p+1)*(tbl P k (i+1) (i+1+d)*out P k n i (i+1+d))) (n-i-1) (λd _ hd=>by
   show P i (2*p)*P (i+1+d) (2*p+1)*(tbl P k (i+1) (i+1+d)*out P k n i (i+1+d))=0;rw[Eg (x:=i+1) (y:=i+1+d) (by lia)];simp)
  have e3:sm n (λs=>sm ((n-s)/2) λq=>ga P k n i (2*p) (s,s+1+2*q))=sm ((n-i)/2) λq=>ga P k n i (2*p) (i,i+1+2*q):=
   B9 (f:=λs=>sm ((n-s)/2) λq=>ga P k n i (2*p) (s,s+1+2*q)) hi (λs _ hs=>by
    refine BrC.sm_zero _ λq _=>?_;unfold ga;rw[if_pos hev,if_neg hs])
  rw[e3,MZ P hi (by lia),e1,e2,show(n-i-1+1)/2=(n-i)/2 by lia];refine AQ _ λq _=>?_;unfold ga rst;rw[if_pos hev,if_pos rfl]
 ·obtain⟨p,rfl⟩:∃p,b=2*p+1:=⟨b/2,by lia⟩;rw[Le P hi (by lia)];refine AQ n λs _=>?_
  by_cases z:s<i/\(i-s)%2=1
  ·refine(B9 (f:=λq=>ga P k n i (2*p+1) (s,s+1+2*q)) (i:=(i-s-1)/2) (by lia) (λq _ hq=>by
    show ga P k n i (2*p+1) (s,s+1+2*q)=0;unfold ga;rw[if_neg hev,if_neg (show¬s+1+2*q=i by lia)])).trans ?_
   unfold ga rst;rw[if_neg hev,if_pos (show s+1+2*((i-s-1)/2)=i by lia)];simp only;rw[show s+1+2*((i-s-1)/2)=i by lia,show 2*p+1-1=2*p by lia]
  ·have e2:tbl P k (s+1) i=0:=by
    by_cases w:s<i
    ·exact Eg (by lia)
    ·exact AY (by lia)
   rw[e2,Int.zero_mul,Int.mul_zero];refine BrC.sm_zero _ λq _=>?_;unfold ga;rw[if_neg hev,if_neg (show¬s+1+2*q=i by lia)]
theorem Qe(m:Nat):(List.replicate m [V.int 0]).flatten=rw2 m λ_=>0:=by
 unfold rw2
 induction m with
 |zero=>rfl
 |succ m ih=>rw[List.range_succ,List.map_append,<-ih,List.replicate_succ',List.flatten_append];rfl
section
variable{σ:W2}
theorem RQ{g:TG}(hn:xs.length<=sizeLine)(ha:H a=some (.lst xs))(Iv:Addr->Nat->List V->Hp->Prop)
 (h0:∀D,H D=none->Iv D 0 [] (upd H D (.lst []))) (mono:∀D i ys H1 H2,H D=none->Iv D i ys H1->SameBut1 D H1 H2->Iv D i ys H2)
 (hst:∀D ys H',H D=none->H' D=some (.lst ys)->ys.length=xs.length->Same H H'->Iv D xs.length ys H'->Q (.ref D) H')
 (hs:∀ (D:Addr) (i:Nat) (x:V) (ys:List V) (H':Hp) (R:V->Hp->Prop),H D=none->xs[i]? =some x->H' D=some (.lst ys)->ys.length=i->Same H H'->Iv D i ys H'->(∀v H6,Same H' H6->Iv D (i+1) (ys++[v]) H6->R v H6)->g x (Aa own sel σ) H' λσ4 H4=>te σ4 H4 R):BL (Itl K a) own sel σ g tYes te Q H:=by
 refine Dh (λi=>xs.getD i .non) hn Iv (λi H' hi sH=>⟨_,xs[i],SqL.of (sH _ _ ha),List.getElem?_eq_getElem hi⟩) (λH' sH=>⟨_,SqL.of (sH _ _ ha),Nat.le_refl _⟩) (λi H1 x H' hi sH y=>?_) h0 mono hst
  (λD i ys H' R hD hi hy hl sH e r=>?_)
 ·obtain⟨rfl,hx⟩:=y;have:=hx _ (SqL.of (sH _ _ ha));exact⟨rfl,by rw[List.getD_eq_getElem?_getD,this];rfl⟩
 ·have ec:xs[i]? =some xs[i]:=List.getElem?_eq_getElem hi;have eg:xs.getD i .non=xs[i]:=by rw[List.getD_eq_getElem?_getD,ec];rfl
  rw[eg];exact hs D i xs[i] ys H' R hD ec hy hl sH e r
end
def ET:Sp:=λvs H Q _=>∃ (p s:Addr) (ps:List (List Int)) (k:Nat) (ads:Nat->Addr) (H0:Hp),vs=[.ref p, .ref s]/\Pls H p ps/\ps.length<=40/\k<=4/\(∀l∈ps,l.length=2*k/\Sm l)/\Tb H0 H s ads ps.length (tbl (PP ps) k)/\
 ∀ (F:Addr) (ad:Nat->Addr) (H':Hp),Tw H H' F ad ps.length (2*k) (λi b=>tbl (Pat (PP ps) i b) k 0 ps.length)->Q (.ref F) H'
theorem KF{s:Addr}{k:Nat}(h1:Pls H p ps)(h2:ps.length<=40)(h3:k<=4)(h4:∀l∈ps,l.length=2*k/\Sm l)(h5:Tb H0 H s ads ps.length (tbl (PP ps) k))
 (r:∀ (F:Addr) (vs':List V) (H':Hp),H F=none->Same H H'->H' F=some (.lst vs')->Fp (PP ps) k ps.length H' vs' (prs ps.length)->Q (.ref F) H'):FV ([.ref p, .ref s]++[]) H Q E:=⟨p,s,ps,k,ads,H0,rfl,h1,h2,h3,h4,h5,r⟩
theorem HD{s:Addr}{k:Nat}(h1:Pls H p ps)(h2:ps.length<=40)(h3:k<=4)(h4:∀l∈ps,l.length=2*k/\Sm l)(h5:Tb H0 H s ads ps.length (tbl (PP ps) k))
 (r:∀ (F:Addr) (ad:Nat->Addr) (H':Hp),Tw H H' F ad ps.length (2*k) (λi b=>tbl (Pat (PP ps) i b) k 0 ps.length)->Q (.ref F) H'):ET ([.ref p, .ref s]++[]) H Q E:=⟨p,s,ps,k,ads,H0,rfl,h1,h2,h3,h4,h5,r⟩
theorem IS(h:x∈prs n):x.1<x.2/\x.2<n:=by
 unfold prs at h;obtain⟨s,hs,h⟩:=List.mem_flatMap.mp h;obtain⟨q,hq,rfl⟩:=List.mem_map.mp h;have:=List.mem_range.mp hs;have:=List.mem_range.mp hq
 dsimp only
 lia
def gp(P:Nat->Nat->Int)(k n m o i b:Nat)(x:Nat×Nat):Int:=sms (((prs n).take m).map (ga P k n i b))+(if b/2<o then ga P k n i b x else 0)
theorem UN(P:Nat->Nat->Int)(k n m i b:Nat)(x:Nat×Nat):gp P k n m 0 i b x=sms (((prs n).take m).map (ga P k n i b)):=by
 unfold gp;rw[if_neg (by lia),Int.add_zero]
theorem Vm{k:Nat}(hx:(prs n)[m]? =some x)(hb:b<2*k):gp P k n m k i b x=sms (((prs n).take (m+1)).map (ga P k n i b)):=by
 unfold gp;rw[if_pos (by lia),List.take_add_one,hx,List.map_append,Ff];simp[sms]
theorem UO{k o:Nat}(w:Int)(hw:w=P s (2*o)*P e (2*o+1)*rst P k n s e):
 (if i=e/\b=2*o+1 then(if e=s/\2*o+1=2*o then gp P k n m o s (2*o) (s,e)+w else gp P k n m o e (2*o+1) (s,e))+w else if i=s/\b=2*o then gp P k n m o s (2*o) (s,e)+w else gp P k n m o i b (s,e))=gp P k n m (o+1) i b (s,e):=by
 rw[if_neg (show¬ (e=s/\2*o+1=2*o) by lia)]
 by_cases b0:b=2*o
 ·subst b0;rw[if_neg (by lia)];unfold gp;rw[if_neg (show¬2*o/2<o by lia),if_pos (show 2*o/2<o+1 by lia)]
  by_cases z:i=s
  ·subst z;rw[if_pos ⟨rfl,rfl⟩];unfold ga;rw[if_pos (show 2*o%2=0 by lia),if_pos rfl,hw,Int.add_zero]
  ·rw[if_neg (λw=>z w.1),if_neg (show¬2*o/2<o by lia)];have:ga P k n i (2*o) (s,e)=0:=by
    unfold ga;rw[if_pos (by lia),if_neg (λw=>z w.symm)]
   rw[this]
 ·by_cases b1:b=2*o+1
  ·subst b1;unfold gp;rw[if_pos (show(2*o+1)/2<o+1 by lia),if_neg (show¬ (2*o+1)/2<o by lia)]
   by_cases z:i=e
   ·subst z;rw[if_pos ⟨rfl,rfl⟩];have:ga P k n i (2*o+1) (s,i)=w:=by
     unfold ga;rw[if_neg (by lia),if_pos rfl,hw,show 2*o+1-1=2*o by lia]
    rw[this,Int.add_zero]
   ·rw[if_neg (λw=>z w.1),if_neg (by lia),if_neg (show¬ (2*o+1)/2<o by lia)];have:ga P k n i (2*o+1) (s,e)=0:=by
     unfold ga;rw[if_neg (by lia),if_neg (λw=>z w.symm)]
    rw[this]
  ·rw[if_neg (λw=>b1 w.2),if_neg (λw=>b0 w.2)];unfold gp
   by_cases z:b/2<o
   ·rw[if_pos z,if_pos (by lia)]
   ·rw[if_neg z,if_neg (by lia)]
end BrS
namespace L2
def Nf(i j:Int):Prop:=0<j/\j.natAbs<2^8999
theorem LO:OpR X (binaryOp .FloorDiv) (rI Nf λi j=> .int (i/j)):=opI λi j _ _ _ _ _ hc q=>by
 have h1:(0:Int)<j:=hc.1;refine floordiv_int (by lia) (by rw[Int.fdiv_eq_ediv_of_nonneg i (by lia)];exact q) (.inl (PyProof.noPylong_of_log2 ?_));have h3:j.natAbs≠0:=by lia
 exact Nat.lt_trans ((Nat.log2_lt h3).mpr hc.2) (by decide)
end L2
namespace BrS
variable{b t:Int}
def gcI(t b:Int):Int:=(Nat.gcd b.toNat t.toNat:Int)
theorem Fs(hb:0<b):0<gcI t b:=by
 have:=Nat.gcd_pos_of_pos_left t.toNat (show 0<b.toNat by lia);unfold gcI;lia
theorem Vn(hb:0<b):gcI t b<=b:=by
 have:=Nat.gcd_le_left (n:=t.toNat) (show 0<b.toNat by lia);unfold gcI;lia
theorem SL(d l:Nat):Nat.gcd l (d%l)=Nat.gcd d l:=by
 rw[Nat.gcd_comm l (d%l),<-Nat.gcd_rec,Nat.gcd_comm]
theorem LS(x:Int)(hb:0<b)(h:b.natAbs<2^1920):Nf x (gcI t b):=by
 refine⟨Fs hb,?_⟩;have h1:=Fs (t:=t) hb;have h2:=Vn (t:=t) hb;have h3:(gcI t b).natAbs<=b.natAbs:=by lia
 exact Nat.lt_of_le_of_lt h3 (Nat.lt_of_lt_of_le h (Nat.pow_le_pow_right (by decide) (by decide)))
def KR:Sp:=λvs H Q _=>∃t b:Int,vs=[.int t, .int b]/\0<=t/\0<b/\b.natAbs<2^1920/\∀T H',H T=none->Same H H'->H' T=some (.tup [.int (t/gcI t b), .int (b/gcI t b)])->Q (.ref T) H'
theorem UA{b:Nat}(h:b<8):Jm brs (brs.getD b 0)=some b:=by
 have:b=0\/b=1\/b=2\/b=3\/b=4\/b=5\/b=6\/b=7:=by lia
 rcases this with rfl|rfl|rfl|rfl|rfl|rfl|rfl|rfl<;>decide +kernel
theorem Wd{c:Int}(hc:0<=c)(h:∀i b,0<=P i b/\P i b<=c)(i b x y:Nat):0<=Pat P i b x y/\Pat P i b x y<=c:=by
 unfold Pat
 split
 ·exact⟨Int.le_refl _,hc⟩
 ·exact h x y
end BrS
namespace L2
variable{kvs:List (Key×V)}{tk:TE}{g:TG}{Q:Unit->Shared->Prop}{σ:W2}
def Ik(own:List Str)(sel:List Nat)(wi:TI)(g:TG)(tt:TT)(tk tv:TE):TE:=λσ H Q=>wi σ H λJ H1=>∀D,H1 D=none->
 ∃W:Nat->Nat->Hp->Prop,(∃m,W 0 m (upd H1 D (.dK [])))/\∀i m H2,W i m H2->
  (J.stop i H2/\Q (.ref D) H2)\/(J.go i H2/\∀x H3,J.yld i H2 x H3->g x (Aa own sel σ) H3 λσ4 H4=>tt σ4 H4 λb H5=>
    if b=true then tk σ4 H5 λkv H6=>tv σ4 H6 λv H7=>∃ (kvs:List (Key×V)) (k:Key),H7 D=some (.dK kvs)/\kv=kV k/\kvs.length<sizeLine/\∃m',m'<m/\W (i+1) m' (upd H7 D (.dK (putK kvs k v)))
    else∃m',m'<m/\W (i+1) m' H5)
section
variable{a:Addr}{k:Key}{v:V}{u r:Value}
theorem RG(I:Inv X pins σ H s)(e:H a=some (.dK kvs))(ry:RelV (kV k) u)(rv:RelV v r)(l:kvs.length<sizeLine)(h:∀s',Inv X pins σ (upd H a (.dK (putK kvs k v))) s'->Q () s'):
 wpAny (model X.prog X.w) A (dictSet a u r) Q E s:=by
 obtain⟨z,hd,vs,rel,dd⟩:=Nc I.hok e;have hz:vs.length<=sizeLine:=by rw[<-rel.length];exact z
 have hl:(putK kvs k v).length<=sizeLine:=by have:=Gq kvs k v;lia
 refine wpAny_dictSet_pairs (hsz:=hz) (JZ ry) dd λh' dd' hs=>h _ ?_;have he:∃q,h'.get? a=some q:=let⟨q,_,_,hq,_⟩:=dd';⟨q,hq⟩;exact IY I (by rw[e];exact True.intro) hs he (M9 hl hd (rel.put k rv) dd')
end
theorem Pu{pos:Pos}{it:Value}(I:Nat->Shared->Prop)
 (turn:∀n s,I n s->wpAny (model prog w) A (pyNext it) (λr s1=>match r with
   |none=>R (.ok .next) s1
   |some v=>wpAny (model prog w) A (letOwnedTupleGo target it v) (λ_ s0=>wpAny (model prog w) A (assign target env v) (λ_ s2=>
     wpAny (model prog w) A (forIn ifs true λc r=>if r=true then do let ok<-isTrue c env (eval c env);pure (ForInStep.yield ok)else pure (ForInStep.yield r)) (λok s3=>
      if ok=true then wpAny (model prog w) A (eval kx env) (λkv s4=>wpAny (model prog w) A (eval vx env) (λvv s5=>wpAny (model prog w) A (dictSet D kv vv) (λ_ s6=>∃m,m<n/\I m s6) (λ_ _=>False) s5) (λ_ _=>False) s4) (λ_ _=>False) s3
      else∃m,m<n/\I m s3) (λ_ _=>False) s2) (λ_ _=>False) s0) (λ_ _=>False) s1) (λ_ _=>False) s)
 (n:Nat) (h:I n s):
 codeAny (model prog w) A (.compLoop (.DictComp kx vx [⟨target,iter,ifs,0⟩] scope pos) 0 it (.ref D) env) R s:=by
 refine codeAny_loop rfl I (λn s hI=>?_) n h;show wpAny _ A ((compTurn (.DictComp kx vx [⟨target,iter,ifs,0⟩] scope pos) 0 it (.ref D) env).onRaise (λx=>do noteFrame x env;theTreesLotGoes x)) _ _ s;refine wpAny_noted ?_;rw[compTurn_dict];refine wpAny_bind (wpAny_standAt (wpAny_bind (wpAny_mono (turn n s hI) (λr s1 h1=>?_) λ_ _ z=>z.elim)))
 cases r with
 |none=>exact wpAny_pure h1
 |some v=>
  refine wpAny_bind (wpAny_mono h1 (λ_ s0 h0=>wpAny_bind (wpAny_mono h0 (λ_ s2 h2=>wpAny_bind (wpAny_mono h2 (λok s3 h3=>?_) λ_ _ z=>z.elim)) λ_ _ z=>z.elim)) λ_ _ z=>z.elim)
  cases ok with
  |false=>exact wpAny_pure ⟨rfl,h3⟩
  |true=>
   exact wpAny_bind (wpAny_bind (wpAny_mono h3 (λkv s4 h4=>wpAny_bind (wpAny_holding (wpAny_mono h4 (λvv s5 h5=>wpAny_bind (wpAny_standAt (wpAny_holding (wpAny_mono h5 (λ_ s6 h6=>wpAny_pure ⟨rfl,h6⟩) λ_ _ z=>z.elim)))) λ_ _ z=>z.elim))) λ_ _ z=>z.elim))
theorem QS{pos:Pos}{use:Option (Value->Sem Unit)}
 (S:CompOk X.env.scope X.N own sel scope) (hc:X.calm=true) (hi:PI X tg iter wi)
 (hg:∀cl C s2 H2 fp,PG (A9 X own sel scope cl C s2 H2 fp) tg g) (hk:GK own.length g)
 (ht:∀cl C s2 H2 fp,PIf (A9 X own sel scope cl C s2 H2 fp) ifs tt) (he:∀cl C s2 H2 fp,PE (A9 X own sel scope cl C s2 H2 fp) kx tk) (hv:∀cl C s2 H2 fp,PE (A9 X own sel scope cl C s2 H2 fp) vx tv)
 (hs:∀x,foldedSetIterable iter X.env x=pure x) {pins:List (Addr×Obj)} {s:Shared} {σ:W2} {H:Hp} {Q:VK} {ps:Pos} (I0:Inv X pins σ H s) (h:Ik own sel wi g tt tk tv σ H Q)
 (fin:∀ (D C:Addr) (H':Hp) (s':Shared) (m:Str->Option Value),Inv X pins σ H' s'->s'.heap.Ns C m->Far X pins H' C->Q (.ref D) H'->compPost (model X.prog X.w) X.A X.xe use Qo (.ref D) C (.ok .next) s'):
 wpAny (model X.prog X.w) X.A (comprehension (.DictComp kx vx [⟨tg,iter,ifs,0⟩] scope pos) scope X.env ps newDict false (eval iter X.env) use) Qo X.xe s:=by
 obtain⟨cl,hclos,hcl,hfree⟩:=Ic (scope:=scope) (env:=X.env) λy hy e=>I0.ok.has y.1 (S.free y hy e);refine wpAny_comprehension_free (use:=use) rfl hs hclos S.kind S.names (thn (hi pins s σ H _ I0 h) λv s1 h1=>thn h1 λitv s2 h2=>?_);obtain⟨it,fp,tn,J,H2,e,I,T,st2,f2,h3⟩:=h2;subst e;clear h h1 I0;refine wpAny_newObj_type (wpAny_newFunctionEnv S.cell (by intro y hy;simp at hy) (λh1 hns1 hsb1=>?_) S.kind)
 dsimp only at hns1 hsb1⊢
 generalize hP:s2.heap.push {cls:= .type "dict",dict:=none,data:= .dict #[]}=P1 at hns1 hsb1⊢;generalize hD:s2.heap.objs.size=D at hns1 hsb1⊢;generalize hC:P1.objs.size=C at hns1 hsb1⊢;have hCD:C=D+1:=by rw[<-hC,<-hP,Heap.size_push,hD]
 have hlt:D<C:=by rw[hCD];exact Nat.lt_succ_self D
 have hDC:D≠C:=Nat.ne_of_lt hlt;have neC:∀b:Addr,b<D->b≠C:=λb hb=>Nat.ne_of_lt (Nat.lt_trans hb hlt);have neD:∀b:Addr,b<D->b≠D:=λb hb=>Nat.ne_of_lt hb;have hsD:s2.heap.objs.size<=D:=Nat.le_of_eq hD;have hsC:s2.heap.objs.size<=C:=Nat.le_trans hsD (Nat.le_of_lt hlt);have fresh:∀a,D<=a->H2 a=none:=λa ha=>I.hok.fresh (by rw[hD];exact ha);have hnD:H2 D=none:=fresh D (Nat.le_refl _);have hnC:H2 C=none:=fresh C (Nat.le_of_lt hlt);have below:∀b o,s2.heap.get? b=some o->b<D:=λb o e=>by rw[<-hD];exact Heap.lt_size e
 have keep1:∀b o,s2.heap.get? b=some o->h1.get? b=some o:=λb o e=>
  hsb1.extBut b o (neC b (below b o e)) (Heap.get?_push_of_some _ (hP▸Heap.get?_push_of_some _ e))
 have gD:h1.get? D=some {cls:= .type "dict",dict:=none,data:= .dict #[]}:=by
  refine hsb1.extBut _ _ hDC (Heap.get?_push_of_some _ ?_);rw[<-hP,<-hD];exact Heap.get?_push_size _ rfl
 obtain⟨W,⟨m0,w0⟩,turn⟩:=h3 D hnD;have fpb:∀b∈fp,b<D:=λb hb=>by obtain⟨o,e,_⟩:=T.obj _ _ st2 b hb;exact below b o e
 generalize hY:A9 X own sel scope cl C s2 H2 fp=Y;have hg:=hg cl C s2 H2 fp;have ht:=ht cl C s2 H2 fp;have he:=he cl C s2 H2 fp;have hv:=hv cl C s2 H2 fp;rw[hY]at hg ht he hv;have okY:Y.Ok:=by
  subst hY;refine⟨I.ok.mod,S.kind,I.ok.glob,I.ok.blt,?_,λx y c a b=>I.ok.inj x y c (hcl _ _ a) (hcl _ _ b),λx hx=>?_,(λ_ _ z=>nomatch z),λz=>I.ok.hd z,I.ok.frames, .inl rfl,λb hb=>⟨?_,λx c e=>(f2 b hb).2.2.2.2.1 x c (hcl _ _ e)⟩,I.bs,
   Nat.le_trans I.ok.bsz I.sz,λb o e hb=>?_,λb hb z=>?_,I.stack,I.stkFree⟩
  ·exact hsC
  ·have hx':(relabel scope X.env).names.lookup x=some .cell\/(relabel scope X.env).names.lookup x=some .free:=hx;have hf:scope.names.lookup x=some .free:=by
    rcases hx' with z|z
    ·rcases DB z with q|q
     ·exact absurd rfl (S.cell _ (PySem.mem_of_lookup q))
     ·exact q
    ·rcases DB z with q|q<;>exact q
   exact hfree _ (PySem.mem_of_lookup hf) rfl
  ·exact neC b (fpb b hb)
  ·rcases(f2 b hb).2.2.2.1 with z|z
   ·exact I.ok.noex b o e z
   ·exact absurd (Nat.lt_of_lt_of_le (Heap.lt_size e) (Nat.le_trans I.ok.bsz z)) (Nat.lt_irrefl _)
  ·rcases List.mem_cons.mp (I.stkSub b z)with q|q
   ·exact(f2 b hb).2.1 q
   ·exact(f2 b hb).2.2.1 q
 have eo:ObjOk X.prog X.w (upd H2 D (.dK [])) h1 D (.dK []):=⟨Nat.zero_le _,beq_eq_false_iff_ne.mpr (λz=>Nat.lt_irrefl _ (by have:=I.big;rw[hD,z]at this;exact this)),[], .nil,(show s2.heap.push {cls:= .type "dict",dict:=none,data:= .dict #[]}|>.DictOf (A5 X.prog X.w) s2.heap.objs.size []from Heap.DictOf.new s2.heap)|>λz=>by rw[hD,hP]at z;exact z.at λo e=>hsb1.extBut _ _ hDC (Heap.get?_push_of_some _ e)⟩;have I1:Inv Y [] (Aa own sel σ) (upd H2 D (.dK [])) {s2 with heap:=h1,toks:=s2.toks+([]:List (Str×Value)).length}:=by
  subst hY;refine⟨okY,rfl,I.bare,Un.laid keep1 hsD hnD,⟨_,hns1,λi x v e1 e2 e3=>?_⟩,λx c e=>?_,?_,λx c e=>?_,λp hp=>absurd (show p∈([]:List (Addr×Obj))from hp) (by simp),I.hok.laid keep1 hsD eo,?_⟩
  ·obtain⟨k,j,ei,ej,es⟩:=Hq e2;subst ei;have e1':(own++sel.map λj=>X.N.getD j Str.empty)[own.length+k]? =some x:=e1;rw[List.getElem?_append_right (by lia),List.getElem?_map,show own.length+k-own.length=k by lia,ej]at e1';simp only[Option.map_some,Option.some.injEq]at e1';obtain⟨hj,hfx,hkd⟩:=S.seln j (List.mem_of_getElem? ej);have hN:X.N[j]? =some x:=by rw[<-e1',List.getD_eq_getElem?_getD,List.getElem?_eq_getElem hj];rfl
   rw[e1']at hkd hfx;obtain⟨m,_,hl⟩:=I.loc;obtain⟨u,r,lk⟩:=hl j x v hN es (.inr hkd);refine⟨u,r, .inr ⟨FG I.ok.kind hfx,?_⟩⟩;rcases lk with⟨z1,_⟩|⟨_,c,hc1,hc2⟩
   ·have z1':X.env.scope.names.lookup x=some .local:=z1;rcases hkd with q|q<;>(rw[z1']at q;cases q)
   ·obtain⟨c',q⟩:=hfree _ (PySem.mem_of_lookup hfx) rfl;have q2:=hcl _ _ q;rw[hc1]at q2
    cases q2
    exact⟨c,q,hc2.keeps keep1⟩
  ·obtain⟨u,z⟩:=I.cell x c (hcl _ _ e);exact⟨u,z.keeps keep1⟩
  ·show upd H2 D (.dK []) C=none;rw[AE (Ne.symm hDC)];exact hnC
  ·have q:=I.freeC x c (hcl _ _ e);obtain⟨u,o,z,_⟩:=I.cell x c (hcl _ _ e);rw[AE (neD c (below c o z))];exact q
  ·show(Aa own sel σ).length=(own++sel.map λj=>X.N.getD j Str.empty).length;rw[Hr];simp
 have fin:∀ (σ':W2) (H':Hp) (s':Shared),Inv Y [] σ' H' s'->Q (.ref D) H'->compPost (model X.prog X.w) X.A X.xe use Qo (.ref D) C (.ok .next) s':=by
  intro σ' H' s' I' q;subst hY;obtain⟨m,hn,_⟩:=I'.loc;have J':Inv X pins σ H' s':=I.call' I'.os I'.base I'.hok I'.bare λb hb=>⟨(f2 b hb).2.2.2.1,(f2 b hb).2.1,(f2 b hb).2.2.2.2.1,(f2 b hb).2.2.2.2.2⟩;refine fin D C H' s' m J' hn ⟨I'.free,Ne.symm (neC _ (by rw[<-hD];exact I.lt)),Nat.le_trans I.sz hsC,λx c e=>?_,λp hp=>?_⟩ q
  ·obtain⟨u,o,z,_⟩:=I.cell x c e;exact neC c (below c o z)
  ·exact neC p.1 (below p.1 p.2 (I.pin p hp).1)
 have stat:∀ {H':Hp},(∀b∈fp,H' b=none)->∀b∈fp,BF Y [] H' b:=fun{H'} hn b hb=>by
  subst hY;refine⟨hn b hb,neC b (fpb b hb),λz=>?_, .inl hb,λx c e=>(f2 b hb).2.2.2.2.1 x c (hcl _ _ e),λp hp=>absurd (show p∈([]:List (Addr×Obj))from hp) (by simp)⟩;rcases List.mem_cons.mp (I.stkSub b z)with q|q
  ·exact(f2 b hb).2.1 q
  ·exact(f2 b hb).2.2.1 q
 have loop:∀s3:Shared,s3={s2 with heap:=h1,toks:=s2.toks+([]:List (Str×Value)).length}->
  codeAny (model X.prog X.w) X.A (.compLoop (.DictComp kx vx [⟨tg,iter,ifs,0⟩] scope pos) 0 (.ref it) (.ref D) (compEnvC scope cl C X.env)) (compPost (model X.prog X.w) X.A X.xe use Qo (.ref D) C) s3:=by
  rintro s3 rfl;have eP:Y.prog=X.prog:=by subst hY;rfl
  have eW:Y.w=X.w:=by subst hY;rfl
  have eA:Y.A=X.A:=by subst hY;rfl
  have eK:Y.K=X.K:=by subst hY;rfl
  have eE:Y.env=compEnvC scope cl C X.env:=by subst hY;rfl
  have eX:Y.xe=λ_ _=>False:=by subst hY;rfl
  have eC:Y.calm=true:=by subst hY;exact hc
  refine Pu (λn s'=>∃i H',Inv Y [] (Aa own sel σ) H' s'/\tn i s'.heap/\(∀b∈fp,H' b=none)/\W i n H') ?_ m0
   ⟨0,_,I1,T.keep _ _ _ st2 λb _ o e=>keep1 b o e,λb hb=>by rw[AE (neD b (fpb b hb))];exact(f2 b hb).1,w0⟩
  rintro n s4 ⟨i,H4,I4,st4,fr4,w4⟩;rcases turn i n H4 w4 with⟨stop,q⟩|⟨go,step⟩
  ·have dn:=T.done Y eP eW eK eC i [] s4 _ H4 (λ_ _=>False) I4 (stat fr4) st4 stop;rw[eA]at dn;refine thn dn λr s5 ⟨hr,I5⟩=>?_;subst hr;exact fin _ _ _ I5 q
  ·have im:=T.item Y eP eW eK eC i [] s4 _ H4 (λ_ _=>False) I4 (stat fr4) st4 go;rw[eA]at im;refine thn im λr s5 ⟨u,hr,h5⟩=>?_;subst hr;refine thn h5 λ_ s6 ⟨x,H6,I6,r6,y6,st6,fr6⟩=>?_;have I6':=I6.pinned (stat fr6) (T.obj _ _ st6);have back:∀ {σ7:W2} {H7:Hp} {s7:Shared} {k:Nat},Inv Y ([]++Cv fp s6.heap) σ7 H7 s7->σ7.length=(Aa own sel σ).length->(∀j,own.length<=j->σ7[j]? =(Aa own sel σ)[j]?)->(∃m',m'<n/\W (i+1) m' H7)->
    ∃m',m'<n/\∃i H',Inv Y [] (Aa own sel σ) H' s7/\tn i s7.heap/\(∀b∈fp,H' b=none)/\W i m' H':=fun{σ7 H7 s7 k} I7 l7 k7 w7=>by
    obtain⟨m',hm,w7⟩:=w7;refine⟨m',hm,i+1,H7,I7.unpinned.weak l7.symm λj v e=>?_,T.keep _ _ _ st6 λb hb o e=>(I7.pin (b,o) (List.mem_append_right _ (List.mem_append_right _ (Cr hb e)))).1,λb hb=>?_,w7⟩
    ·by_cases hj:j<own.length
     ·rw[FY hj]at e;cases e
     ·rw[k7 j (Nat.le_of_not_lt hj)];exact e
    ·obtain⟨o,e,d⟩:=T.obj _ _ st6 b hb;exact(I7.pin (b,o) (List.mem_append_right _ (List.mem_append_right _ (Cr hb e)))).2.1
   have ga:=hg _ s6 _ H6 x u _ I6' r6 (hk _ _ _ _ (step x H6 y6));rw[eP,eW,eA,eE,eX]at ga;refine thn ga λ_ s7 ⟨σ7,H7,I7,q7,l7,k7⟩=>?_;have ta:=ht _ s7 σ7 H7 _ I7 q7;rw[eP,eW,eA,eE,eX]at ta;refine thn ta λb s8 ⟨H8,I8,q8⟩=>?_
   cases b with
   |false=>
    rw[if_neg Bool.false_ne_true]at q8⊢;exact back (k:=0) I8 l7 k7 q8
   |true=>
    rw[if_pos rfl]at q8⊢;have ea:=he _ s8 σ7 H8 _ I8 q8;rw[eP,eW,eA,eE,eX]at ea;refine thn ea λkv s9 ⟨x9,H9,I9,r9,q9⟩=>?_;have va:=hv _ s9 σ7 H9 _ I9 q9;rw[eP,eW,eA,eE,eX]at va;refine thn va λv s10 ⟨x10,H10,I10,r10,kvs,k,hD10,ek,hz10,q10⟩=>?_;subst ek;have aa:=RG (X:=Y) (A:=X.A) (E:=λ_ _=>False) I10 hD10 r9 r10 hz10 (Q:=λ_ s'=>∃H',Inv Y ([]++Cv fp s6.heap) σ7 H' s'/\∃m',m'<n/\W (i+1) m' H') λs' I'=>⟨_,I',q10⟩;rw[eP,eW]at aa;exact thn aa λ_ s11 ⟨H11,I11,q11⟩=>back (k:=0) I11 l7 k7 q11
 exact codeAny_compStart_dict (loop _ rfl) (T.self X.A 0 _ _ _ (T.keep _ _ _ st2 λb _ o e=>keep1 b o e) (loop _ rfl))
theorem Rx{pos:Pos}
 (S:CompOk X.env.scope X.N own sel scope) (hc:X.calm=true) (hi:PI X tg iter wi)
 (hg:∀cl C s2 H2 fp,PG (A9 X own sel scope cl C s2 H2 fp) tg g) (hk:GK own.length g)
 (ht:∀cl C s2 H2 fp,PIf (A9 X own sel scope cl C s2 H2 fp) ifs tt) (he:∀cl C s2 H2 fp,PE (A9 X own sel scope cl C s2 H2 fp) kx tk) (hv:∀cl C s2 H2 fp,PE (A9 X own sel scope cl C s2 H2 fp) vx tv)
 (hs:∀x,foldedSetIterable iter X.env x=pure x:=by intro _;rfl):
 PE X (.DictComp kx vx [⟨tg,iter,ifs,0⟩] scope pos) (Ik own sel wi g tt tk tv):=by
 intro pins s σ H Q I h;show wpAny _ X.A (comprehension (.DictComp kx vx [⟨tg,iter,ifs,0⟩] scope pos) scope X.env _ newDict false (eval iter X.env)) _ _ s;refine QS (use:=none) S hc hi hg hk ht he hv hs I h λD C H' s' m I' hn f q=>?_;exact⟨m,hn,λh' k=>⟨.ref D,H',I'.far f k,rfl,q⟩⟩
def NI(J:W3)(own:List Str)(sel:List Nat)(σ:W2)(g:TG)(tt:TT)(tk tv:TE)(Q:VK)(H1:Hp):Prop:=∀D,H1 D=none->
 ∃W:Nat->Nat->Hp->Prop,(∃m,W 0 m (upd H1 D (.dK [])))/\∀i m H2,W i m H2->
  (J.stop i H2/\Q (.ref D) H2)\/(J.go i H2/\∀x H3,J.yld i H2 x H3->g x (Aa own sel σ) H3 λσ4 H4=>tt σ4 H4 λb H5=>
    if b=true then tk σ4 H5 λkv H6=>tv σ4 H6 λv H7=>∃ (kvs:List (Key×V)) (k:Key),H7 D=some (.dK kvs)/\kv=kV k/\kvs.length<sizeLine/\∃m',m'<m/\W (i+1) m' (upd H7 D (.dK (putK kvs k v)))
    else∃m',m'<m/\W (i+1) m' H5)
theorem TH{Q:VK}(h:wi σ H λJ H1=>NI J own sel σ g tt tk tv Q H1):Ik own sel wi g tt tk tv σ H Q:=h
def CDW(D:Addr)(n:Nat)(Pv:Nat->List (Key×V)->Hp->Prop)(i m:Nat)(H:Hp):Prop:=m=n-i/\i<=n/\∃kvs,H D=some (.dK kvs)/\Pv i kvs H
theorem SY{J:W3}{Q:VK}(Pv:Addr->Nat->List (Key×V)->Hp->Prop)(h0:∀D,H1 D=none->Pv D 0 [] (upd H1 D (.dK [])))
 (hgo:∀D i kvs H,H1 D=none->i<n->H D=some (.dK kvs)->Pv D i kvs H->J.go i H) (hst:∀D kvs H,H1 D=none->H D=some (.dK kvs)->Pv D n kvs H->J.stop n H/\Q (.ref D) H)
 (hs:∀D i kvs H x H3,H1 D=none->i<n->H D=some (.dK kvs)->Pv D i kvs H->J.yld i H x H3->g x (Aa own sel σ) H3 λσ4 H4=>tt σ4 H4 λb H5=>
   if b=true then tk σ4 H5 λkv H6=>tv σ4 H6 λv H7=>∃ (kvs:List (Key×V)) (k:Key),H7 D=some (.dK kvs)/\kv=kV k/\kvs.length<sizeLine/\∃m',m'<n-i/\CDW D n (Pv D) (i+1) m' (upd H7 D (.dK (putK kvs k v)))
   else∃m',m'<n-i/\CDW D n (Pv D) (i+1) m' H5):NI J own sel σ g tt tk tv Q H1:=by
 intro D hD;refine⟨CDW D n (Pv D),⟨n,by simp,Nat.zero_le _,[],AJ,h0 D hD⟩,?_⟩;rintro i m H2 ⟨rfl,hi,kvs,hy,p⟩
 by_cases hlt:i<n
 ·exact .inr ⟨hgo D i kvs H2 hD hlt hy p,λx H3 y=>hs D i kvs H2 x H3 hD hlt hy p y⟩
 ·have e:i=n:=by lia
  subst e;exact .inl (hst D kvs H2 hD hy p)
open PySem.SeqAt
def UL(k:Int):Value->Bool
 | .int i _=>i==k
 |_=>false
def rIndexI:V->List V->Hp->VK->Prop:=λx vs H Q=>∃l,∃ns:List Int,∃k:Int,∃j:Nat,x= .ref l/\vs=[.int k]/\H l=some (.lst (ns.map V.int))/\ns[j]? =some k/\(∀m,m<j->ns[m]? ≠some k)/\ns.length<=1000/\Q (.int j) H
theorem Ll:∀ {ns:List Int} {us:List Value},Vals (ns.map V.int) us->us.length=ns.length/\∀ (m:Nat) (h:m<us.length) (h':m<ns.length),∃t,us[m]= .int ns[m] t
 |[],_, .nil=>⟨rfl,λm h=>absurd h (Nat.not_lt_zero _)⟩
 |_::_,_, .cons r t=>by
  obtain⟨a,b⟩:=Ll t;refine⟨by simp[a],λm h h'=>?_⟩
  cases m with
  |zero=>exact r
  |succ m=>exact b m (by simpa using h) (by simpa using h')
theorem Qw:MtM X "list.index" rIndexI:=by
 intro pins s σ H x vs v us Q I rx rv h;obtain⟨l,ns,k,j,rfl,rfl,hH,hj,hno,hz,q⟩:=h
 cases rx
 obtain⟨u,rfl,ru⟩:=rv.one;obtain⟨t,rfl⟩:∃t,u=Value.int k t:=ru;obtain⟨z,its,n,r,hl,e⟩:=I.lstM hH;obtain⟨el,ev⟩:=Ll r;obtain⟨hlt,ej⟩:=List.getElem?_eq_some_iff.mp hj;refine call_meets F.slot_list_index ⟨_,e,rfl⟩ F.entry_list_index (F.args_list_index_2 _ _) (list_indexAt l _ n none #[] (.int k t) (UL k) j (by simpa[el]using hlt) (by lia) ?_ ?_) ⟨e,λy hy=>?_,?_⟩
 ·obtain⟨t2,e2⟩:=ev j (by lia) hlt;rw[List.getElem_toArray,e2,ej];exact beq_self_eq_true k
 ·intro m hm hmj;have hm':m<ns.length:=by simpa[el]using hm
  obtain⟨t2,e2⟩:=ev m (by lia) hm';have:=hno m hmj;rw[List.getElem?_eq_getElem hm']at this;rw[List.getElem_toArray,e2];exact beq_eq_false_iff_ne.mpr λz=>this (by rw[z])
 ·obtain⟨m,hm,rfl⟩:=List.getElem_of_mem (show y∈its by simpa using hy);obtain⟨t2,e2⟩:=ev m hm (by lia);rw[e2];exact EqAt.int_int _ _ _ _
 ·exact⟨.int j,H,I.tok _,⟨_,rfl⟩,q⟩
theorem Rc{Q:VK}{l:Addr}{k:Int}(h1:H l=some (.lst (ns.map V.int)))(h2:ns[j]? =some k)(h3:∀m,m<j->ns[m]? ≠some k)(h4:ns.length<=1000)(h:Q (.int j) H):rIndexI (.ref l) [.int k] H Q:=⟨l,ns,k,j,rfl,rfl,h1,h2,h3,h4,h⟩
end L2
namespace BrS
variable{T a:Addr}{o:HO}{vs xs:List V}
abbrev P1(k:Nat)(a:List Nat):Nat->Nat->Int:=PP (a.map (plw (ones k)))
theorem Dj(k:Nat)(a:List Nat):tbl (P1 k a) k 0 (a.map (plw (ones k))).length=W4 k a:=by
 unfold tbl W4;rw[if_pos (Nat.zero_le _),Nat.sub_zero,List.length_map]
def Jt(vs:List V)(k:Int)(a:List Nat):Prop:=vs=[.int k,tx a]/\1<=k/\k<=4/\Ab k a=true
def FJ(cs:Cs):Sp:=λvs H Q E=>∃k a,Jt vs k a/\((W4 k.toNat a=0/\Ref E cs.NoFilling H)\/(W4 k.toNat a≠0/\
 ∀ (T p s:Addr) (ad:Nat->Addr) (H0 H':Hp),Same H H'->H' T=some (.tup [.ref p, .ref s])->Pls H' p (a.map (plw (ones k.toNat)))->Tb H0 H' s ad (a.map (plw (ones k.toNat))).length (tbl (P1 k.toNat a) k.toNat)->Q (.ref T) H'))
def Prl(H:Hp)(vs:List V)(L:List (Nat×Nat)):Prop:=vs.length=L.length/\∀ (m:Nat) (x:Nat×Nat),L[m]? =some x->∃T:Addr,vs[m]? =some (V.ref T)/\H T=some (.tup [.int x.1, .int x.2])
def C0(k:Nat)(a:List Nat):List (Nat×Nat):=(prs a.length).filter λx=>decide (pr (P1 k a) k x.1 x.2*rst (P1 k a) k a.length x.1 x.2=W4 k a)
def Gp(cs:Cs):Sp:=λvs H Q E=>∃k a,Jt vs k a/\((W4 k.toNat a=0/\Ref E cs.NoFilling H)\/(W4 k.toNat a≠0/\
 ∀ (D:Addr) (vs:List V) (H':Hp),H D=none->Same H H'->H' D=some (.lst vs)->Prl H' vs (C0 k.toNat a)->Q (.ref D) H'))
def atB(k:Nat)(a:List Nat)(i b:Nat):Int:=tbl (Pat (P1 k a) i b) k 0 a.length
def kvB(k:Nat)(a:List Nat)(i n:Nat):List (Key×V):=((List.range n).filter λb=>decide (0<atB k a i b)).map λb=>((Sum.inr ⟨#[brs.getD b 0]⟩:Key),V.int (atB k a i b))
theorem Prl.same(h:Prl H vs L)(s:Same H H'):Prl H' vs L:=⟨h.1,λm x hx=>let⟨T,a,b⟩:=h.2 m x hx;⟨T,a,s _ _ b⟩⟩
theorem Prl.lst(h:Prl H vs L)(ha:H a=some (.lst xs)):Prl (upd H a o) vs L:=⟨h.1,λm x hx=>by
 obtain⟨T,e,b⟩:=h.2 m x hx;exact⟨T,e,by rw[AE (CF b ha (λz=>by cases z))];exact b⟩⟩
theorem Prl.more{s e:Nat}(h:Prl H vs L)(b:H T=some (.tup [.int (s:Int), .int (e:Int)])):Prl H (vs++[.ref T]) (L++[(s,e)]):=by
 refine⟨by rw[List.length_append,List.length_append,h.1];rfl,λi x hx=>?_⟩
 by_cases c:i<L.length
 ·rw[List.getElem?_append_left c]at hx;obtain⟨T',b1,b2⟩:=h.2 i x hx;exact⟨T',by rw[List.getElem?_append_left (by rw[h.1];exact c)];exact b1,b2⟩
 ·rw[List.getElem?_append_right (by lia)]at hx;have hi:i=L.length:=by
   have:=(List.getElem?_eq_some_iff.mp hx).1;simp at this;lia
  subst hi;rw[Nat.sub_self]at hx
  cases hx
  exact⟨T,by rw[List.getElem?_append_right (by rw[h.1];exact Nat.le_refl _),h.1,Nat.sub_self];rfl,b⟩
theorem Pp(f:α->Bool){L:List α}{x:α}(h:L[n]? =some x):(L.take (n+1)).filter f=if f x=true then(L.take n).filter f++[x]else(L.take n).filter f:=by
 rw[List.take_add_one,h,List.filter_append]
 by_cases e:f x=true
 ·rw[if_pos e];congr 1;show List.filter f [x]=[x];rw[List.filter_cons_of_pos e];rfl
 ·rw[if_neg e];have:List.filter f (some x).toList=[]:=by
   show List.filter f [x]=[];rw[List.filter_cons_of_neg e];rfl
  rw[this,List.append_nil]
theorem TY(hn:n<=40):(prs n).length<=1700:=by
 have:=LH n n 0 (Nat.le_refl _) (Nat.zero_le _) hn;rw[LI]at this;exact this
def Ip(cs:Cs):Sp:=λvs H Q E=>∃ (k:Int) (a:List Nat) (i:Nat),vs=[.int k,tx a, .int (i:Int)]/\1<=k/\k<=4/\Ab k a=true/\i<a.length/\((W4 k.toNat a=0/\Ref E cs.NoFilling H)\/(W4 k.toNat a≠0/\
 ∀ (D:Addr) (H':Hp),H D=none->Same H H'->H' D=some (.dK (kvB k.toNat a i (2*k.toNat)))->Q (.ref D) H'))
theorem LR(k:Nat)(a:List Nat)(i n:Nat):kvB k a i (n+1)=if 0<atB k a i n then kvB k a i n++[((Sum.inr ⟨#[brs.getD n 0]⟩:Key),V.int (atB k a i n))]else kvB k a i n:=by
 unfold kvB;rw[List.range_succ,List.filter_append,List.map_append]
 by_cases e:0<atB k a i n
 ·rw[if_pos e,List.filter_cons_of_pos (by simpa using e)];rfl
 ·rw[if_neg e,List.filter_cons_of_neg (by simpa using e)];simp
theorem MF{k:Nat}{a:List Nat}(hn:n<8):Bu (kvB k a i n) (Sum.inr ⟨#[brs.getD n 0]⟩:Key)=none:=by
 unfold Bu;rw[Option.map_eq_none_iff,List.find?_eq_none];intro p hp;unfold kvB at hp;obtain⟨b,hb,rfl⟩:=List.mem_map.mp hp;have hb:=List.mem_range.mp (List.mem_filter.mp hb).1;intro z;have z:=of_decide_eq_true z;have z2:(⟨#[brs.getD b 0]⟩:Str)=⟨#[brs.getD n 0]⟩:=Sum.inr.inj z;have z3:brs.getD b 0=brs.getD n 0:=by
  have:=congrArg (λs:Str=>s.cps.toList) z2;simpa using this
 have:=Ig b (by lia) n hn z3;lia
theorem MG(k:Nat)(a:List Nat)(i n:Nat):(kvB k a i n).length<=n:=by
 unfold kvB;rw[List.length_map];refine Nat.le_trans (List.length_filter_le _ _) ?_;rw[List.length_range];exact Nat.le_refl _
def DW(k:Nat)(a:List Nat)(i:Nat):Option Nat:=(List.range (2*k)).find? λb=>decide (atB k a i b=W4 k a)
def BC(k:Nat)(a:List Nat)(i:Nat):Option (Nat×Nat):=if a.getD i 0=63 then(DW k a i).map λb=>(i,b)else none
def Au(k:Nat)(a:List Nat):List (Nat×Nat):=(List.range a.length).filterMap (BC k a)
def Sll(H:Hp)(vs:List V)(L:List (Nat×Nat)):Prop:=vs.length=L.length/\∀ (m:Nat) (x:Nat×Nat),L[m]? =some x->∃T:Addr,vs[m]? =some (V.ref T)/\H T=some (.tup [.int x.1,tx [brs.getD x.2 0]])
theorem Sll.same(h:Sll H vs L)(s:Same H H'):Sll H' vs L:=⟨h.1,λm x hx=>let⟨T,a,b⟩:=h.2 m x hx;⟨T,a,s _ _ b⟩⟩
theorem Sll.lst(h:Sll H vs L)(ha:H a=some (.lst xs)):Sll (upd H a o) vs L:=⟨h.1,λm x hx=>by
 obtain⟨T,e,b⟩:=h.2 m x hx;exact⟨T,e,by rw[AE (CF b ha (λz=>by cases z))];exact b⟩⟩
theorem Sll.more{s e:Nat}(h:Sll H vs L)(b:H T=some (.tup [.int (s:Int),tx [brs.getD e 0]])):Sll H (vs++[.ref T]) (L++[(s,e)]):=by
 refine⟨by rw[List.length_append,List.length_append,h.1];rfl,λi x hx=>?_⟩
 by_cases c:i<L.length
 ·rw[List.getElem?_append_left c]at hx;obtain⟨T',b1,b2⟩:=h.2 i x hx;exact⟨T',by rw[List.getElem?_append_left (by rw[h.1];exact c)];exact b1,b2⟩
 ·rw[List.getElem?_append_right (by lia)]at hx;have hi:i=L.length:=by
   have:=(List.getElem?_eq_some_iff.mp hx).1;simp at this;lia
  subst hi;rw[Nat.sub_self]at hx
  cases hx
  exact⟨T,by rw[List.getElem?_append_right (by rw[h.1];exact Nat.le_refl _),h.1,Nat.sub_self];rfl,b⟩
def FF(cs:Cs):Sp:=λvs H Q E=>∃k a,Jt vs k a/\((W4 k.toNat a=0/\Ref E cs.NoFilling H)\/(W4 k.toNat a≠0/\
 ∀ (D:Addr) (vs:List V) (H':Hp),H D=none->Same H H'->H' D=some (.lst vs)->Sll H' vs (Au k.toNat a)->Q (.ref D) H'))
theorem Re(m:Nat)(f:Nat->Int):rw2 m f=((List.range m).map f).map V.int:=by unfold rw2;rw[List.map_map];rfl
theorem Ho(c:Int):∀ns:List Int,inV (.int c) (ns.map V.int)=decide (c∈ns)
 |[]=>by simp[inV]
 |n::ns=>by
  have ih:=Ho c ns;rw[List.map_cons]
  by_cases e:c=n
  ·subst e;simp[inV,eqV]
  ·unfold inV at ih⊢;rw[List.any_cons,ih];simp[eqV,e,Ne.symm e]
theorem Kl{k:Nat}{a:List Nat}(h:DW k a i=some b):atB k a i b=W4 k a/\b<2*k/\∀m,m<b->atB k a i m≠W4 k a:=by
 unfold DW at h;rw[List.find?_range_eq_some]at h;obtain⟨h1,h2,h3⟩:=h;refine⟨of_decide_eq_true h1,List.mem_range.mp h2,λm hm z=>?_⟩;have:=h3 m hm;rw[decide_eq_true z]at this
 cases this
theorem Km{k:Nat}{a:List Nat}(h:DW k a i=none):∀b,b<2*k->atB k a i b≠W4 k a:=λb hb z=>by
 unfold DW at h;rw[List.find?_eq_none]at h;exact h b (List.mem_range.mpr hb) (decide_eq_true z)
theorem Qc(k:Nat)(a:List Nat)(n:Nat):(List.range (n+1)).filterMap (BC k a)=(List.range n).filterMap (BC k a)++(BC k a n).toList:=by
 rw[List.range_succ,List.filterMap_append]
 cases h:BC k a n<;>simp[h]
end BrS
namespace BrI
variable{v:List Nat}{e s:Nat}
theorem Ei{f:Nat->Int}:∀ {n:Nat},(∀i,i<n->0<=f i)->(0<sm n f↔∃i,i<n/\0<f i)
 |0,_=>⟨λh=>absurd h (by simp[sm]),λ⟨i,h,_⟩=>absurd h (Nat.not_lt_zero _)⟩
 |n+1,h=>by
  have ih:=Ei (f:=f) (n:=n) λi hi=>h i (by lia);have h1:=A7 (f:=f) n λi hi=>h i (by lia);have h2:=h n (by lia);rw[sm]
  constructor
  ·intro q
   by_cases e:0<f n
   ·exact⟨n,by lia,e⟩
   ·obtain⟨i,hi,hf⟩:=ih.mp (by lia);exact⟨i,by lia,hf⟩
  ·rintro⟨i,hi,hf⟩
   by_cases e:i=n
   ·subst e;lia
   ·have:=ih.mpr ⟨i,by lia,hf⟩;lia
theorem B2{x:Int}(hx:0<=x)(hy:0<=y):0<x*y↔0<x/\0<y:=by
 constructor
 ·intro h;refine⟨?_,?_⟩
  ·by_cases e:x=0
   ·subst e;simp at h
   ·lia
  ·by_cases e:y=0
   ·subst e;simp at h
   ·lia
 ·rintro⟨a,b⟩;exact Int.mul_pos a b
def Fits(P:Nat->Nat->Int)(i:Nat)(v:List Nat):Prop:=∀j,j<v.length->0<P (i+j) (v.getD j 0)
theorem fit_cons:Fits P i (b::v)↔0<P i b/\Fits P (i+1) v:=by
 constructor
 ·intro h;refine⟨h 0 (by simp),λj hj=>?_⟩;have:=h (j+1) (by simpa using hj);rw[show i+1+j=i+(j+1) by lia];exact this
 ·rintro⟨h1,h2⟩ j hj
  cases j with
  |zero=>exact h1
  |succ j=>
   have:=h2 j (by simpa using hj);rw[show i+(j+1)=i+1+j by lia];exact this
theorem Fu(P:Nat->Nat->Int)(i:Nat):Fits P i []:=λj hj=>absurd hj (Nat.not_lt_zero _)
section
variable{k:Nat}
theorem Eu(h0:∀i b,0<=P i b):∀ (m i:Nat) (st:List Nat),(∀o∈st,o<k)->(0<cv P k m i st↔∃v:List Nat,v.length=m/\go k st v=some []/\Fits P i v)
 |0,i,[],_=>⟨λ_=>⟨[],rfl,Aq _,Fu P i⟩,λ_=>by simp[cv]⟩
 |0,i,o::s,_=>by
  refine⟨λh=>absurd h (by simp[cv]),?_⟩;rintro⟨v,hv,hg,_⟩;have:v=[]:=List.length_eq_zero_iff.mp hv;subst this;rw[Aq]at hg
  cases hg
 |m+1,i,st,hst=>by
  have nn:∀i st,0<=cv P k m i st:=λi st=>D8 h0 m i st;have key:0<cv P k (m+1) i st↔(∃p,p<k/\0<P i (2*p)/\0<cv P k m (i+1) (p::st))\/(∃o s,st=o::s/\0<P i (2*o+1)/\0<cv P k m (i+1) s):=by
   have hs:=Ei (f:=λp=>P i (2*p)*cv P k m (i+1) (p::st)) (n:=k) λp _=>Int.mul_nonneg (h0 _ _) (nn _ _);have hsn:=A7 (f:=λp=>P i (2*p)*cv P k m (i+1) (p::st)) k λp _=>Int.mul_nonneg (h0 _ _) (nn _ _);have h1:(0<sm k λp=>P i (2*p)*cv P k m (i+1) (p::st))↔∃p,p<k/\0<P i (2*p)/\0<cv P k m (i+1) (p::st):=by
    rw[hs]
    constructor
    ·rintro⟨p,hp,q⟩;exact⟨p,hp,(B2 (h0 _ _) (nn _ _)).mp q⟩
    ·rintro⟨p,hp,q⟩;exact⟨p,hp,(B2 (h0 _ _) (nn _ _)).mpr q⟩
   cases st with
   |nil=>
    rw[Bs,h1];exact⟨.inl,λz=>z.elim id λ⟨o,s,e,_⟩=>nomatch e⟩
   |cons o s=>
    have h2:=B2 (h0 i (2*o+1)) (nn (i+1) s);have h3:=Int.mul_nonneg (h0 i (2*o+1)) (nn (i+1) s);rw[Bz]
    constructor
    ·intro z
     by_cases e:0<sm k λp=>P i (2*p)*cv P k m (i+1) (p::o::s)
     ·exact .inl (h1.mp e)
     ·exact .inr ⟨o,s,rfl,h2.mp (by lia)⟩
    ·rintro(z|⟨o',s',e,z⟩)
     ·have:=h1.mpr z;lia
     ·cases e
      have:=h2.mpr z;lia
  rw[key]
  constructor
  ·rintro(⟨p,hp,h1,h2⟩|⟨o,s,rfl,h1,h2⟩)
   ·obtain⟨v,hv,hg,hf⟩:=(Eu h0 m (i+1) (p::st) (λo ho=>by rcases List.mem_cons.mp ho with rfl|ho;exact hp;exact hst o ho)).mp h2;exact⟨2*p::v,by simp[hv],by rw[Dm _ _ hp];exact hg,fit_cons.mpr ⟨h1,hf⟩⟩
   ·have ho:=hst o List.mem_cons_self;obtain⟨v,hv,hg,hf⟩:=(Eu h0 m (i+1) s (λx hx=>hst x (List.mem_cons_of_mem _ hx))).mp h2;exact⟨(2*o+1)::v,by simp[hv],by rw[Dg _ _ ho];exact hg,fit_cons.mpr ⟨h1,hf⟩⟩
  ·rintro⟨v,hv,hg,hf⟩
   cases v with
   |nil=>cases hv
   |cons b v=>
    obtain⟨f1,f2⟩:=fit_cons.mp hf;rw[A0]at hg
    cases en:nx k st b with
    |none=>rw[en]at hg;cases hg
    |some s1=>
     rw[en]at hg;have hg:go k s1 v=some []:=hg;obtain⟨hb,⟨e1,e2⟩|⟨e1,e2⟩⟩:=BR en
     ·refine .inl ⟨b/2,by lia,by rw[show 2*(b/2)=b by lia];exact f1,?_⟩;rw[<-e2];exact(Eu h0 m (i+1) s1 (λo ho=>by rw[e2]at ho;rcases List.mem_cons.mp ho with rfl|ho;lia;exact hst o ho)).mpr ⟨v,by simpa using hv,hg,f2⟩
     ·refine .inr ⟨b/2,s1,e2,by rw[show 2*(b/2)+1=b by lia];exact f1,?_⟩;exact(Eu h0 m (i+1) s1 (λo ho=>hst o (by rw[e2];exact List.mem_cons_of_mem _ ho))).mpr ⟨v,by simpa using hv,hg,f2⟩
end
theorem E5{k:Nat}(h:Rg k v)(st:List Nat):go k st v=some st:=by
 have:=Je v [] [] st h;simpa using this
theorem Ht{k:Nat}:∀ (w st:List Nat),go k st w=some []->∃v w0,w=v++w0/\Rg k v/\((st=[]/\w0=[])\/∃o r w',st=o::r/\w0=(2*o+1)::w'/\go k r w'=some []):=by
 intro w
 induction hn:w.length using Nat.strongRecOn generalizing w with
 |_ n ih=>
  intro st h
  cases w with
  |nil=>
   rw[Aq]at h
   cases h
   exact⟨[],[],rfl,Aq _, .inl ⟨rfl,rfl⟩⟩
  |cons b w=>
   rw[A0]at h
   cases en:nx k st b with
   |none=>rw[en]at h;cases h
   |some s1=>
    rw[en]at h;have h:go k s1 w=some []:=h;obtain⟨hb,⟨e1,e2⟩|⟨e1,e2⟩⟩:=BR en
    ·subst e2;obtain⟨v,w0,ew,hv,z⟩:=ih w.length (by rw[<-hn];simp) w rfl _ h;rcases z with⟨z,_⟩|⟨o,r,w',ez,ew0,hg⟩
     ·cases z
     ·cases ez
      have hl:w'.length<n:=by rw[<-hn,ew,ew0];simp;lia
      obtain⟨v2,w2,ew2,hv2,z2⟩:=ih w'.length hl w' rfl _ hg;refine⟨b::v++(2*(b/2)+1)::v2,w2,?_,?_,z2⟩
      ·rw[ew,ew0,ew2];simp
      ·have hk:b/2<k:=by lia
       have eb:b=2*(b/2):=by lia
       unfold Rg;rw[BX];have a1:go k [] (b::v)=some [b/2]:=by
        have h9:go k [] (2*(b/2)::v)=some [b/2]:=by
         rw[Dm _ _ hk];exact E5 hv [b/2]
        rw[<-eb]at h9;exact h9
       rw[a1];show go k [b/2] _=some [];rw[Dg _ _ hk];exact hv2
    ·exact⟨[],b::w,rfl,Aq _, .inr ⟨b/2,s1,w,e2,by rw[show 2*(b/2)+1=b by lia],h⟩⟩
theorem M2{k:Nat}:∀ (u:List Nat) (o:Nat) (r:List Nat),go k [] u=some (o::r)->∃u0 v,u=u0++2*o::v/\go k [] u0=some r/\Rg k v/\o<k:=by
 intro u
 induction hn:u.length using Nat.strongRecOn generalizing u with
 |_ n ih=>
  intro o r h;rcases List.eq_nil_or_concat u with rfl|⟨u',b,rfl⟩
  ·rw[Aq]at h;cases h
  ·rw[List.concat_eq_append,BX]at h;have hl:u'.length<n:=by rw[<-hn];simp
   cases e:go k [] u' with
   |none=>rw[e]at h;cases h
   |some s1=>
    rw[e]at h;have h:go k s1 [b]=some (o::r):=h;rw[A0]at h
    cases en:nx k s1 b with
    |none=>rw[en]at h;cases h
    |some s2=>
     rw[en]at h;have h:go k s2 []=some (o::r):=h;rw[Aq]at h
     cases h
     obtain⟨hb,⟨e1,e2⟩|⟨e1,e2⟩⟩:=BR en
     ·cases e2
      exact⟨u',[],by rw[show 2*(b/2)=b by lia,List.concat_eq_append],e,Aq _,by lia⟩
     ·subst e2;have hk:b/2<k:=by lia
      obtain⟨u1,v1,eu1,g1,r1,_⟩:=ih u'.length hl u' rfl _ _ e;have hl1:u1.length<n:=by rw[eu1]at hl;simp at hl;lia
      obtain⟨u0,v0,eu0,g0,r0,hk0⟩:=ih u1.length hl1 u1 rfl _ _ g1;refine⟨u0,v0++(2*(b/2)::v1++[b]),?_,g0,?_,hk0⟩
      ·rw[List.concat_eq_append,eu1,eu0];simp
      ·unfold Rg;rw[BX,show go k [] v0=some []from r0];show go k [] (2*(b/2)::v1++[b])=some [];rw[List.cons_append,Dm _ _ hk,BX,E5 r1 [b/2]];show go k [b/2] [b]=some [];have h9:go k [b/2] [2*(b/2)+1]=some []:=by rw[Dg _ _ hk,Aq]
       rw[show 2*(b/2)+1=b by lia]at h9;exact h9
theorem Ct:∀ (a b:List Nat) (i:Nat),Fits P i (a++b)↔Fits P i a/\Fits P (i+a.length) b
 |[],b,i=>⟨λh=>⟨Fu P i,h⟩,λh=>h.2⟩
 |x::a,b,i=>by
  rw[List.cons_append,fit_cons,fit_cons,Ct a b (i+1),List.length_cons,show i+1+a.length=i+(a.length+1) by lia];exact⟨λ⟨p,q,r⟩=>⟨⟨p,q⟩,r⟩,λ⟨⟨p,q⟩,r⟩=>⟨p,q,r⟩⟩
section
variable{k:Nat}
theorem Cc(h0:∀i b,0<=P i b)(h:i<=j):0<tbl P k i j↔∃v:List Nat,v.length=j-i/\Rg k v/\Fits P i v:=by
 unfold tbl;rw[if_pos h];exact Eu h0 (j-i) i [] (λ_ z=>nomatch z)
theorem B0(h0:∀i b,0<=P i b)(i j:Nat):0<=tbl P k i j:=by
 unfold tbl
 split
 ·exact D8 h0 _ _ _
 ·exact Int.le_refl _
theorem JB(h0:∀i b,0<=P i b)(i j:Nat):0<pr P k i j↔∃p,p<k/\0<P i (2*p)/\0<P j (2*p+1):=by
 unfold pr;rw[Ei λp _=>Int.mul_nonneg (h0 _ _) (h0 _ _)]
 constructor
 ·rintro⟨p,hp,q⟩;exact⟨p,hp,(B2 (h0 _ _) (h0 _ _)).mp q⟩
 ·rintro⟨p,hp,q⟩;exact⟨p,hp,(B2 (h0 _ _) (h0 _ _)).mpr q⟩
theorem Em(h0:∀i b,0<=P i b)(i j:Nat):0<=pr P k i j:=by
 unfold pr;exact A7 k λp _=>Int.mul_nonneg (h0 _ _) (h0 _ _)
theorem Eb(h0:∀i b,0<=P i b)(u j:Nat):0<=out P k n u j:=by
 unfold out;exact A7 (n+1) λs _=>Int.mul_nonneg (D9 h0 _ _ _) (B0 h0 _ _)
theorem IT(h0:∀i b,0<=P i b)(u j:Nat):0<out P k n u j↔∃s,s<=n/\0<Oo P k n u s/\0<tbl P k (j+1) s:=by
 have on:∀s,0<=Oo P k n u s:=λs=>D9 h0 _ _ _;unfold out;rw[Ei λs _=>Int.mul_nonneg (on s) (B0 h0 _ _)]
 constructor
 ·rintro⟨s,hs,q⟩;exact⟨s,by lia,(B2 (on s) (B0 h0 _ _)).mp q⟩
 ·rintro⟨s,hs,q⟩;exact⟨s,by lia,(B2 (on s) (B0 h0 _ _)).mpr q⟩
def Ou(P:Nat->Nat->Int)(k n t j:Nat):Prop:=∃u w st:List Nat,u.length=t/\w.length=n-j/\Fits P 0 u/\Fits P j w/\go k [] u=some st/\((st=[]/\j=n)\/∃o r w',st=o::r/\w=(2*o+1)::w'/\go k r w'=some [])
theorem Ud(h0:∀i b,0<=P i b){t:Nat}(h:t<=n):0<Oo P k n t j↔(j=n/\0<tbl P k 0 t)\/∃u,u<n/\0<tbl P k (u+1) t/\0<pr P k u j/\0<out P k n u j:=by
 have hn:∀u,0<=tbl P k (u+1) t*(pr P k u j*out P k n u j):=λu=>Int.mul_nonneg (B0 h0 _ _) (Int.mul_nonneg (Em h0 _ _) (Eb h0 _ _));have hs:=Ei (f:=λu=>tbl P k (u+1) t*(pr P k u j*out P k n u j)) (n:=n) λu _=>hn u;have hq:=A7 (f:=λu=>tbl P k (u+1) t*(pr P k u j*out P k n u j)) n λu _=>hn u;have ht:0<=tbl P k 0 t:=B0 h0 _ _;have hi:∀u,0<tbl P k (u+1) t*(pr P k u j*out P k n u j)↔0<tbl P k (u+1) t/\0<pr P k u j/\0<out P k n u j:=λu=>by
  rw[B2 (B0 h0 _ _) (Int.mul_nonneg (Em h0 _ _) (Eb h0 _ _)),B2 (Em h0 _ _) (Eb h0 _ _)]
 rw[EA h]
 constructor
 ·intro z
  by_cases e:0<sm n (λu=>tbl P k (u+1) t*(pr P k u j*out P k n u j))
  ·obtain⟨u,hu,q⟩:=hs.mp e;exact .inr ⟨u,hu,(hi u).mp q⟩
  ·left
   by_cases ej:j=n
   ·rw[if_pos ej]at z;exact⟨ej,by lia⟩
   ·rw[if_neg ej]at z;lia
 ·rintro(⟨ej,z⟩|⟨u,hu,q⟩)
  ·rw[if_pos ej];lia
  ·have:=hs.mpr ⟨u,hu,(hi u).mpr q⟩
   split<;>lia
theorem V1(h0:∀i b,0<=P i b):∀ (t j:Nat),t<=j->j<=n->(0<Oo P k n t j↔Ou P k n t j):=by
 intro t
 induction t using Nat.strongRecOn with
 |_ t ih=>
  intro j htj hjn;rw[Ud h0 (by lia)]
  constructor
  ·rintro(⟨rfl,z⟩|⟨u,hu,z1,z2,z3⟩)
   ·obtain⟨v,hv,hr,hf⟩:=(Cc h0 (Nat.zero_le t)).mp z;exact⟨v,[],[],by lia,by simp,hf,Fu _ _,hr, .inl ⟨rfl,rfl⟩⟩
   ·have hut:u+1<=t:=by
     apply Classical.byContradiction;intro q;rw[AY (by lia)]at z1;lia
    obtain⟨v1,hv1,hr1,hf1⟩:=(Cc h0 hut).mp z1;obtain⟨p,hp,a1,a2⟩:=(JB h0 u j).mp z2;obtain⟨s,hs,b1,b2⟩:=(IT h0 u j).mp z3;have hjs:j+1<=s:=by
     apply Classical.byContradiction;intro q;rw[AY (by lia)]at b2;lia
    obtain⟨u0,w0,st0,l1,l2,f1,f2,g,c⟩:=(ih u (by lia) s (by lia) hs).mp b1;obtain⟨v2,hv2,hr2,hf2⟩:=(Cc h0 hjs).mp b2;refine⟨u0++2*p::v1,(2*p+1)::(v2++w0),p::st0,by simp;lia,by simp;lia,?_,?_,?_, .inr ⟨p,st0,v2++w0,rfl,rfl,?_⟩⟩
    ·rw[Ct,fit_cons,l1,Nat.zero_add];exact⟨f1,a1,hf1⟩
    ·rw[fit_cons,Ct,hv2,show j+1+(s-(j+1))=s by lia];exact⟨a2,hf2,f2⟩
    ·rw[BX,g];show go k st0 (2*p::v1)=_;rw[Dm _ _ hp];exact E5 hr1 _
    ·rw[BX,E5 hr2 st0];show go k st0 w0=some [];rcases c with⟨rfl,rfl⟩|⟨o,r,w',rfl,rfl,gw⟩
     ·have:w0=[]:=List.length_eq_zero_iff.mp (by lia);subst this;exact Aq _
     ·rw[Dg _ _ (M3 (st:=[]) (by simp) g o List.mem_cons_self)];exact gw
  ·rintro⟨u,w,st,l1,l2,f1,f2,g,c⟩;rcases c with⟨rfl,rfl⟩|⟨o,r,w',rfl,rfl,gw⟩
   ·exact .inl ⟨rfl,(Cc h0 (Nat.zero_le t)).mpr ⟨u,by lia,g,f1⟩⟩
   ·right
    obtain⟨u0,v,rfl,g0,hr,ho⟩:=M2 u o r g;obtain⟨v2,w0,rfl,hr2,c2⟩:=Ht w' r gw;rw[List.length_append,List.length_cons]at l1;rw[List.length_cons,List.length_append]at l2;rw[Ct,fit_cons,Nat.zero_add]at f1;rw[fit_cons,Ct]at f2;obtain⟨f1a,f1b,f1c⟩:=f1;obtain⟨f2a,f2b,f2c⟩:=f2;refine⟨u0.length,by lia,(Cc h0 (by lia)).mpr ⟨v,by lia,hr,f1c⟩,(JB h0 _ _).mpr ⟨o,ho,f1b,f2a⟩,(IT h0 _ _).mpr ⟨j+1+v2.length,by lia,(ih u0.length (by lia) _ (by lia) (by lia)).mpr ⟨u0,w0,r,rfl,by lia,f1a,f2c,g0,?_⟩,(Cc h0 (by lia)).mpr ⟨v2,by lia,hr2,f2b⟩⟩⟩;rcases c2 with⟨rfl,rfl⟩|⟨o',r',w'',rfl,rfl,hg⟩
    ·exact .inl ⟨rfl,by simp at l2;lia⟩
    ·exact .inr ⟨o',r',w'',rfl,rfl,hg⟩
end
theorem Lu(f:Nat->Int):∀k,sm (2*k) f=sm k (λp=>f (2*p))+sm k (λp=>f (2*p+1))
 |0=>by simp[sm]
 |k+1=>by
  rw[show 2*(k+1)=2*k+1+1 by lia,sm,sm,Lu f k,sm,sm];lia
theorem Ir(hi:i<n)(hj:j<n)(hij:i≠j)(h:∀x,x<n->0<=f x):f i+f j<=sm n f:=by
 have e:sm n f=sm n (λx=>if x=i then f x else 0)+sm n (λx=>if x=i then 0 else f x):=by
  rw[<-CJ];exact AQ n λx _=>by split<;>lia
 have e1:sm n (λx=>if x=i then f x else 0)=f i:=(B9 (f:=λx=>if x=i then f x else 0) hi (λx _ hx=>if_neg hx)).trans (if_pos rfl);have e2:=JR (f:=λx=>if x=i then 0 else f x) hj (λx hx=>by
  show(0:Int)<=if x=i then 0 else f x
  split
  ·exact Int.le_refl _
  ·exact h x hx)
 have e3:(if j=i then 0 else f j)=f j:=if_neg λz=>hij z.symm;simp only[e3]at e2;lia
theorem NE(P:Nat->Nat->Int){k:Nat}(h:i<n):sm (2*k) (λb=>tbl (Pat P i b) k 0 n)=tbl P k 0 n:=by
 rw[Lu,FM P h];have e1:sm k (λp=>tbl (Pat P i (2*p)) k 0 n)=sm n (λe=>pr P k i e*(tbl P k (i+1) e*out P k n i e)):=by
  rw[AQ k λp hp=>MZ P h hp,CV];refine AQ n λe _=>?_;unfold pr;rw[<-CU]
 have e2:sm k (λp=>tbl (Pat P i (2*p+1)) k 0 n)=sm n (λu=>pr P k u i*(tbl P k (u+1) i*out P k n u i)):=by
  rw[AQ k λp hp=>Le P h hp,CV];refine AQ n λu _=>?_;unfold pr;rw[<-CU]
 rw[e1,e2];lia
theorem JK(h0:∀i b,0<=P i b)(i b x y:Nat):0<=Pat P i b x y:=by
 unfold Pat
 split
 ·exact Int.le_refl _
 ·exact h0 x y
theorem NC(h0:∀i b,0<=P i b){k:Nat}(hi:i<n):0<tbl (Pat P i b) k 0 n↔∃v:List Nat,v.length=n/\Rg k v/\Fits P 0 v/\v.getD i 0=b:=by
 rw[Cc (JK h0 i b) (Nat.zero_le n)]
 constructor
 ·rintro⟨v,hv,hr,hf⟩;have hvi:v.getD i 0=b:=by
   have:=hf i (by lia);rw[Nat.zero_add]at this;apply Classical.byContradiction;intro z;rw[Dz P i b z]at this;lia
  refine⟨v,by lia,hr,λj hj=>?_,hvi⟩;have:=hf j hj;rw[Nat.zero_add]at this⊢
  by_cases e:j=i
  ·subst e;rw[hvi,Ex]at this;rw[hvi];exact this
  ·rw[Ef P i b j _ e]at this;exact this
 ·rintro⟨v,hv,hr,hf,hvi⟩;refine⟨v,by lia,hr,λj hj=>?_⟩;have:=hf j hj;rw[Nat.zero_add]at this⊢
  by_cases e:j=i
  ·subst e;rw[hvi,Ex];rw[hvi]at this;exact this
  ·rw[Ef P i b j _ e];exact this
theorem Ua(h0:∀i b,0<=P i b){k:Nat}(hi:i<n)(hb:b<2*k)(h:tbl (Pat P i b) k 0 n=tbl P k 0 n){l:List Nat}(hl:l.length=n)(hr:Rg k l)(hf:Fits P 0 l):l.getD i 0=b:=by
 apply Classical.byContradiction;intro z;have hx:l.getD i 0<2*k:=Cz l [] [] hr _ (by rw[List.getD_eq_getElem?_getD,List.getElem?_eq_getElem (by lia)];exact List.getElem_mem (by lia));have h1:=(NC h0 (k:=k) (b:=l.getD i 0) hi).mpr ⟨l,hl,hr,hf,rfl⟩;have h2:=Ir (f:=λb=>tbl (Pat P i b) k 0 n) hb hx (λe=>z e.symm) (λx _=>B0 (JK h0 i x) _ _);rw[NE P hi,h]at h2;lia
def PairAt(k:Nat)(l:List Nat)(s e:Nat):Prop:=∃p u v w,p<k/\l=u++2*p::(v++(2*p+1)::w)/\u.length=s/\s+1+v.length=e/\Rg k v
theorem PairAt.lt{k:Nat}{l:List Nat}(h:PairAt k l s e):s<e/\e<l.length/\(e-s)%2=1:=by
 obtain⟨p,u,v,w,_,rfl,hu,he,hv⟩:=h;have:=(F5 v [] [] hv).2;simp at this⊢;lia
theorem Tr{k:Nat}{l:List Nat}(h:Rg k l)(hs:s<l.length):(∃e,PairAt k l s e)\/∃u,PairAt k l u s:=by
 obtain⟨st,h1,h2⟩:=IW h s;have hd:=List.drop_eq_getElem_cons hs;have hl:l=l.take s++l.drop s:=(List.take_append_drop s l).symm;have htl:(l.take s).length=s:=by rw[List.length_take];lia
 generalize l[s]=b at*
 rw[hd,A0]at h2
 cases en:nx k st b with
 |none=>rw[en]at h2;cases h2
 |some s1=>
  rw[en]at h2;have h2:go k s1 (l.drop (s+1))=some []:=h2;obtain⟨hb,⟨e1,e2⟩|⟨e1,e2⟩⟩:=BR en
  ·subst e2;obtain⟨v,w0,ew,hv,z⟩:=Ht _ _ h2;rcases z with⟨z,_⟩|⟨o,r,w',ez,ew0,hg⟩
   ·cases z
   ·cases ez
    refine .inl ⟨s+1+v.length,b/2,l.take s,v,w',by lia,?_,htl,rfl,hv⟩;rw[show 2*(b/2)=b by lia]at ew0⊢;rw[hd,ew,ew0]at hl;exact hl
  ·subst e2;obtain⟨u0,v,eu,g0,hv,ho⟩:=M2 _ _ _ h1;refine .inr ⟨u0.length,b/2,u0,v,l.drop (s+1),ho,?_,rfl,?_,hv⟩
   ·rw[hd,eu]at hl;rw[show 2*(b/2)+1=b by lia];simpa using hl
   ·rw[eu]at htl;simp at htl;lia
theorem Ts{k:Nat}{u w:List Nat}{p:Nat}(hp:p<k)(hv:Rg k v)(h:Rg k (u++2*p::(v++(2*p+1)::w))):∃st,go k [] u=some st/\go k st w=some []:=by
 unfold Rg at h;rw[BX]at h
 cases e:go k [] u with
 |none=>rw[e]at h;cases h
 |some st=>
  rw[e]at h;have h:go k st (2*p::(v++(2*p+1)::w))=some []:=h;rw[Dm _ _ hp,BX,E5 hv (p::st)]at h;have h:go k (p::st) ((2*p+1)::w)=some []:=h;rw[Dg _ _ hp]at h;exact⟨st,rfl,h⟩
theorem Mn(h0:∀i b,0<=P i b){k:Nat}(s e:Nat):0<=rst P k n s e:=Int.mul_nonneg (B0 h0 _ _) (Eb h0 _ _)
theorem LM{k:Nat}(h0:∀i b,0<=P i b){l:List Nat}(hl:l.length=n)(hr:Rg k l)(hf:Fits P 0 l)(h:PairAt k l s e):0<pr P k s e*rst P k n s e:=by
 obtain⟨p,u,v,w,hp,rfl,hu,he,hv⟩:=h;obtain⟨st,g1,g2⟩:=Ts hp hv hr;obtain⟨v2,w0,rfl,hr2,c2⟩:=Ht w st g2;rw[Ct,fit_cons,Ct,fit_cons,Ct,Nat.zero_add,hu,he]at hf;obtain⟨f1,f2,f3,f4,f5,f6⟩:=hf;simp only[List.length_append,List.length_cons]at hl;rw[B2 (Em h0 _ _) (Mn h0 _ _)];unfold rst;rw[B2 (B0 h0 _ _) (Eb h0 _ _)];refine⟨(JB h0 _ _).mpr ⟨p,hp,f2,f4⟩,(Cc h0 (by lia)).mpr ⟨v,by lia,hv,f3⟩,(IT h0 _ _).mpr ⟨e+1+v2.length,by lia,(V1 h0 _ _ (by lia) (by lia)).mpr ⟨u,w0,st,hu,by lia,f1,f6,g1,?_⟩,(Cc h0 (by lia)).mpr ⟨v2,by lia,hr2,f5⟩⟩⟩;rcases c2 with⟨rfl,rfl⟩|⟨o,r,w',rfl,rfl,hg⟩
 ·exact .inl ⟨rfl,by simp at hl;lia⟩
 ·exact .inr ⟨o,r,w',rfl,rfl,hg⟩
theorem KP{k:Nat}(h0:∀i b,0<=P i b)(hs:s<n)(he:e<n)(h:pr P k s e*rst P k n s e=tbl P k 0 n){l:List Nat}(hl:l.length=n)(hr:Rg k l)(hf:Fits P 0 l):PairAt k l s e:=by
 have hw:tbl P k 0 n=sm n (λu=>pr P k u s*rst P k n u s)+sm n (λe=>pr P k s e*rst P k n s e):=FM (k:=k) P hs;have nn:∀x y,0<=pr P k x y*rst P k n x y:=λx y=>Int.mul_nonneg (Em h0 _ _) (Mn h0 _ _);have g0:=A7 (f:=λu=>pr P k u s*rst P k n u s) n λu _=>nn u s;have g1:=JR (f:=λe=>pr P k s e*rst P k n s e) he (λj _=>nn s j);rcases Tr hr (s:=s) (by lia)with⟨e',hp⟩|⟨u,hp⟩
 ·have hpos:=LM h0 hl hr hf hp
  by_cases ee:e'=e
  ·subst ee;exact hp
  ·exfalso;have he':=hp.lt;have:=Ir (f:=λe=>pr P k s e*rst P k n s e) he (show e'<n by lia) (λz=>ee z.symm) (λj _=>nn s j)
   try simp only at this
   lia
 ·exfalso;have hpos:=LM h0 hl hr hf hp;have hu:=hp.lt;have:=JR (f:=λu=>pr P k u s*rst P k n u s) (show u<n by lia) (λj _=>nn j s)
  try simp only at this
  lia
theorem Ej:∀b,b<8->sg (brs.getD b 0)=if b%2=0 then 1 else -1:=by decide
theorem Jd{k:Nat}(hk:k<=4):∀ {l st s:List Nat},go k st l=some s->hg (brt l)=(s.length:Int)-st.length
 |[],st,s,h=>by rw[Aq]at h;cases h;show(0:Int)=_;lia
 |b::l,st,s,h=>by
  rw[A0]at h;obtain⟨s1,h1,h2⟩:=Option.bind_eq_some_iff.mp h;have ih:=Jd hk h2;show sg (brs.getD b 0)+hg (brt l)=_;obtain⟨hb,⟨e1,rfl⟩|⟨e1,rfl⟩⟩:=BR h1
  ·rw[Ej b (by lia),if_pos e1,ih,List.length_cons];lia
  ·rw[Ej b (by lia),if_neg (by lia),ih,List.length_cons];lia
theorem Ed(l:List Nat):(brt l).length=l.length:=by unfold brt;rw[List.length_map]
theorem Fw(a b:List Nat):brt (a++b)=brt a++brt b:=by unfold brt;rw[List.map_append]
theorem JE(a b:List Nat):ht (brt (a++b)) a.length=hg (brt a):=by
 unfold ht;rw[Fw,List.take_left' (Ed a)]
theorem PairAt.pr{k:Nat}(hk:k<=4){l:List Nat}(h:PairAt k l s e):Pr (brt l) s e:=by
 have hlt:=h.lt;obtain⟨p,u,v,w,hp,rfl,hu,he,hv⟩:=h;have h0:ht (brt (u++2*p::(v++(2*p+1)::w))) s=hg (brt u):=by rw[<-hu];exact JE _ _
 have key:∀j,j<=v.length->ht (brt (u++2*p::(v++(2*p+1)::w))) (s+1+j)=hg (brt u)+1+hg (brt (v.take j)):=λj hj=>by
  have e1:u++2*p::(v++(2*p+1)::w)=(u++2*p::v.take j)++(v.drop j++(2*p+1)::w):=by
   have e0:v.take j++(v.drop j++(2*p+1)::w)=v++(2*p+1)::w:=by rw[<-List.append_assoc,List.take_append_drop]
   rw[List.append_assoc,List.cons_append,e0]
  have e2:(u++2*p::v.take j).length=s+1+j:=by rw[List.length_append,List.length_cons,List.length_take];lia
  rw[e1,<-e2,JE,Fw,FP];show _+(sg (brs.getD (2*p) 0)+hg (brt (v.take j)))=_;rw[Ej (2*p) (by lia),if_pos (by lia)];lia
 refine⟨hlt.1,by rw[Ed];exact hlt.2.1,?_,λm h1 h2=>?_⟩
 ·have e1:u++2*p::(v++(2*p+1)::w)=(u++2*p::(v++[2*p+1]))++w:=by simp
  have e2:(u++2*p::(v++[2*p+1])).length=e+1:=by simp;lia
  rw[h0,e1,<-e2,JE,Fw,FP];show _+(sg (brs.getD (2*p) 0)+hg (brt (v++[2*p+1])))=_;rw[Fw,FP];have e3:hg (brt v)=0:=by have:=Jd hk hv;simpa using this
  have e4:hg (brt [2*p+1])= -1:=by
   show sg (brs.getD (2*p+1) 0)+0= -1;rw[Ej (2*p+1) (by lia),if_neg (by lia)];rfl
  rw[e3,e4,Ej (2*p) (by lia),if_pos (by lia)];lia
 ·have:=key (m-(s+1)) (by lia);rw[show s+1+(m-(s+1))=m by lia]at this;rw[h0,this];obtain⟨st,g1,_⟩:=IW hv (m-(s+1));have:=Jd hk g1;simp at this;lia
section
variable{k d:Nat}
theorem Kz(h2:∀x b,i<=x->P' x b=P (x+d) b){x y:Nat}(hx:i<=x):tbl P' k x y=tbl P k (x+d) (y+d):=by
 unfold tbl
 by_cases z:x<=y
 ·rw[if_pos z,if_pos (by lia),show y+d-(x+d)=y-x by lia];exact Hx d _ _ _ λj b h _=>h2 j b (by lia)
 ·rw[if_neg z,if_neg (by lia)]
theorem NK(h1:∀x b,x<i->P' x b=P x b){x y:Nat}(hy:y<=i):tbl P' k x y=tbl P k x y:=by
 unfold tbl
 by_cases z:x<=y
 ·rw[if_pos z,if_pos z];exact Hy _ _ _ λj b h1' h2'=>h1 j b (by lia)
 ·rw[if_neg z,if_neg z]
theorem NH(hi:i<=n')(h1:∀x b,x<i->P' x b=P x b)(h2:∀x b,i<=x->P' x b=P (x+d) b):∀ (f u j:Nat),u<=i->i<=j->Of P' k n' f u j=Of P k (n'+d) f u (j+d)
 |0,_,_,_,_=>rfl
 |f+1,u,j,hu,hj=>by
  rw[Of,Of];congr 1
  ·by_cases e:j=n'
   ·rw[if_pos e,if_pos (by lia)];exact NK h1 hu
   ·rw[if_neg e,if_neg (by lia)]
  ·rw[IM n' d (λx hx=>by rw[AY (P:=P) (i:=x+1) (j:=u) (by lia)];simp)];refine AQ n' λx hx=>?_
   by_cases z:x<u
   ·rw[NK h1 (x:=x+1) hu];have e1:pr P' k x j=pr P k x (j+d):=by
     unfold pr;exact AQ k λp _=>by rw[h1 x _ (by lia),h2 j _ hj]
    rw[e1];congr 2;rw[Ds (n:=n'+d+1) (a:=d) (m:=n'+1) (by lia) (λe he z=>by
     rcases z with z|z
     ·rw[AY (P:=P) (i:=j+d+1) (j:=e) (by lia)];simp
     ·lia)]
    refine AQ (n'+1) λs hs=>?_
    by_cases y:j+1<=s
    ·rw[NH hi h1 h2 f x s (by lia) (by lia),Kz h2 (x:=j+1) (by lia),Nat.add_comm d s,show j+1+d=j+d+1 by lia]
    ·rw[AY (P:=P') (i:=j+1) (j:=s) (by lia),AY (P:=P) (i:=j+d+1) (j:=d+s) (by lia),Int.mul_zero,Int.mul_zero]
   ·rw[AY (P:=P') (i:=x+1) (j:=u) (by lia),AY (P:=P) (i:=x+1) (j:=u) (by lia),Int.zero_mul,Int.zero_mul]
theorem Mb{f t:Nat}(h:t<f):∀m,Of P k n f t j=Of P k n (f+m) t j
 |0=>rfl
 |m+1=>by rw[Mb h m,Ij (f+m) t j (by lia)];rfl
theorem Tu(hi:i<=n')(hd:j+1=i+d)(h1:∀x b,x<i->P' x b=P x b)(h2:∀x b,i<=x->P' x b=P (x+d) b):tbl P' k 0 n'=out P k (n'+d) i j:=by
 rw[<-HS (P:=P') (n:=n') i hi];unfold out;rw[Ds (n:=n'+d+1) (a:=d) (m:=n'+1) (by lia) (λe he z=>by
  rcases z with z|z
  ·rw[AY (P:=P) (i:=j+1) (j:=e) (by lia)];simp
  ·lia)]
 refine AQ (n'+1) λt ht=>?_
 by_cases z:i<=t
 ·unfold Oo;rw[NH hi h1 h2 (n'+1) i t (Nat.le_refl _) z,Kz h2 (x:=i) (Nat.le_refl _),Nat.add_comm d t,hd,Mb (P:=P) (n:=n'+d) (f:=n'+1) (t:=i) (j:=t+d) (by lia) d,show n'+1+d=n'+d+1 by lia]
 ·rw[AY (P:=P') (i:=i) (j:=t) (by lia),AY (P:=P) (i:=j+1) (j:=d+t) (by lia),Int.mul_zero,Int.mul_zero]
end
end BrI
namespace L2
variable{kvs:List (Key×V)}{ws:List (Key×Value)}{P:Nat->Value->Prop}{d:PyData}{x:V}{Q:VK}
theorem Kx[DecidableEq κ]{k:κ}:∀ {kvs:List (κ×V)},(kvs.map (·.1)).Nodup->(k,x)∈kvs->Bu kvs k=some x
 |[],_,h=>nomatch h
 |(k2,y)::r,hn,h=>by
  rw[List.map_cons,List.nodup_cons]at hn;unfold Bu
  by_cases e:k2=k
  ·subst e;rw[List.find?_cons_of_pos (by simp)];rcases List.mem_cons.mp h with z|z
   ·cases z;rfl
   ·exact absurd (List.mem_map.mpr ⟨_,z,rfl⟩) hn.1
  ·rw[List.find?_cons_of_neg (by simpa using e)];rcases List.mem_cons.mp h with z|z
   ·cases z;exact absurd rfl e
   ·exact Kx hn.2 z
theorem KZ{F:α->β->Prop}:∀ {l:List α} {m:List β} {i:Nat} {x:α} {y:β},Paired F l m->l[i]? =some x->m[i]? =some y->F x y
 |_,_,i,_,_, .nil,h,_=>by simp at h
 |_,_,0,_,_, .cons r _,h1,h2=>by cases h1;cases h2;exact r
 |_,_,i+1,_,_, .cons _ t,h1,h2=>KZ t (by simpa using h1) (by simpa using h2)
theorem MR(r2:KV kvs ws)(hn:(kvs.map (·.1)).Nodup):∀ {ks:List (Key×V)} {us:List (Key×Value)},KV ks us->(∀p∈ks,p∈kvs/\∃i,p.2= .int i)->W.KeqHits A s ws us true
 |[],[],_,_=> .nil
 |[],_::_,r,_=>by cases r
 |_::_,[],r,_=>by cases r
 |(k,x)::ks,(k2,u)::us,r,h=>by
  cases r with
  |cons h1 h2=>
   obtain⟨e,rx⟩:=h1;have e:k=k2:=e;subst e;obtain⟨hm,i,ei⟩:=h (k,x) List.mem_cons_self;have ei:x= .int i:=ei;subst ei;obtain⟨y,hy,ry⟩:=RelO.some_of (v:=V.int i) (o:=valueAt ws k) (by rw[<-Kx hn hm];exact r2.val k);obtain⟨t,rfl⟩:=(show∃t,u=Value.int i t from rx);obtain⟨t2,rfl⟩:=(show∃t,y=Value.int i t from ry);have he:SeqAt.EqAt A s (.int i t) (.int i t2) true:=by
    have:=SeqAt.EqAt.int_int (A:=A) (s:=s) i t i t2;rwa[show(i==i)=true from by simp]at this
   exact .hit hy he (MR r2 hn h2 λp hp=>h p (List.mem_cons_of_mem _ hp))
section
def WU(K:W.Frag):R2:=λx y H Q=>∃ (d e:Addr) (kvs:List (Key×V)),x= .ref d/\y= .ref e/\Rd H d (.dK kvs)/\Rd H e (.dK kvs)/\(kvs.map (·.1)).Nodup/\(∀p∈kvs,∃i,p.2= .int i)/\Q (.bl true) H
theorem Tz(K:W.Frag)(hu:X.A.units<cLine):OpR X (compareOp .Eq) (WU K):=by
 intro pins s σ H x y v u Q I rx ry ⟨d,e,kvs,e1,e2,h1,h2,hn,hi,q⟩;subst e1 e2
 cases rx
 cases ry
 obtain⟨_,hd1,vs,r1,o1⟩:=D7 I.hok h1;obtain⟨_,hd2,ws,r2,o2⟩:=D7 I.hok h2;have l1:=r1.length;have l2:=r2.length;refine W.keq_eq (knd:=A5 X.prog X.w) (r:=true) hd1 hd2 o1 o2 hu (λ_=>MR r2 hn r1 λp hp=>⟨hp,hi p hp⟩) ⟨.bl _,H,I,rfl,?_⟩;have eb:(vs.length==ws.length&&true)=true:=by rw[<-l1,<-l2];simp
 rw[eb];exact q
def rLenD:List V->Hp->VK->Prop:=λxs H Q=>∃ (d:Addr) (kvs:List (Key×V)),xs=[.ref d]/\Rd H d (.dK kvs)/\Q (.int kvs.length) H
theorem RJ:CallR X (.builtin "len") rLenD:=by
 intro pins s σ H xs us Q I r ⟨d,kvs,e,hD,q⟩;subst e;obtain⟨u,rfl,ru⟩:=vals1 r
 cases ru
 obtain⟨z,hd,vs,rel,dd⟩:=D7 I.hok hD;have hl:=rel.length;have hs:sizeLine=16777216:=sizeLine_eq;refine call_len_dict hd dd (by lia) ⟨.int kvs.length,H,I.tok _,⟨_,by rw[hl]⟩,q⟩
theorem Jz(ns:List Int):∀j,preSum (λi=>ns.getD i 0) j=(ns.take j).sum
 |0=>rfl
 |j+1=>by
  rw[preSum,Jz ns j,List.take_add_one,List.sum_append];congr 1
  cases h:ns[j]? <;>simp[List.getD_eq_getElem?_getD,h]
theorem So{T:String}{d:Addr}{Q:Value->Shared->Prop}(S:PySem.W.KdlSrc prog w T r d n P OK)(hd:A.handled=none)(ok:OK s.heap)(f:Nat->Int)(hf:∀ (i:Nat) (v:Value),P i v->∃t:Tok,v= .int (f i) t)
 (q:∀ (h':Heap) (tk:Nat) (t':Tok),(∀b o,s.heap.get? b=some o->h'.get? b=some o)->Q (.int (preSum f n) t') {s with heap:=h',toks:=tk}):wpAny (model prog w) A (call (.builtin "sum") [.ref r]) Q E s:=by
 obtain⟨o,W2,it,W,st⟩:=S.iter A.in1 s hd ok;have sz:(s.heap.push o).objs.size=s.heap.objs.size+1:=size_push' ..;refine PySem.call_sum_walkAnyS (it _ _ ⟨s.heap.objs.size,_,_,_,n,P,_,f,rfl,W.toS,st,λb hb=>?_,hf,λs' t' m=>?_⟩)
 ·have h2:=(S.there _ ok).2;show b<(s.heap.push o).objs.size;rw[sz];rcases List.mem_cons.mp hb with e|hb
  ·exact Nat.lt_succ_of_le (Nat.le_of_eq e)
  ·exact Nat.lt_succ_of_lt (by rw[List.mem_singleton.mp hb];exact h2)
 ·rw[Moved.eq_with m];refine q s'.heap s'.toks t' λb u e=>m.heap b u (λz=>?_) (Heap.get?_push_of_some _ e);exact absurd (Heap.lt_size e) (by rw[List.mem_singleton.mp z];exact Nat.lt_irrefl _)
def NL(te:TE):TE:=λσ H Q=>te σ H λv H1=>∃ (d:Addr) (kvs:List (Key×V)) (ns:List Int),v= .ref d/\Rd H1 d (.dK kvs)/\kvs.map (·.2)=ns.map V.int/\Q (.int ns.sum) H1
variable{ap cp pos:Pos}
theorem Tg(hmo:X.mg "sum"=none)(hc:X.calm=true)(he:PE X e te)(hgo:Gl X "sum":=by rfl)(hb:attributeBase e "values" X.env (eval e X.env)=eval e X.env:=by rfl)(hl:(ap.endLine==cp.line)=true:=by rfl)
 (h2:starEach [.Call (.Attribute e "values" ap) [] [] cp] X.env=[(false,eval (.Call (.Attribute e "values" ap) [] [] cp) X.env)]:=by rfl):PE X (.Call (.Name "sum" sp) [.Call (.Attribute e "values" ap) [] [] cp] [] pos) (NL te):=by
 intro pins s σ H Q I h;refine wpAny_Call_Name_kw (CB I hgo hmo PyProof.Rows.boot_sum ?_);refine PyProof.Rows.callWith_builtin1 ?_ h2 rfl;rw[h2];show wpAny _ _ (spliced [(false,eval (.Call (.Attribute e "values" ap) [] [] cp) X.env)]) _ _ _;refine Calls.spliced_cons ?_;refine wpAny_Call_method0_late hb hl (thn (he pins s σ H _ I h) λv s1 ⟨x,H1,I1,r1,q1⟩=>?_);obtain⟨d,kvs,ns,rfl,hD,hv,q⟩:=q1
 cases r1
 obtain⟨t1,t2,hd⟩:=Vh I1 (.inl ⟨kvs,hD⟩);obtain⟨z,_,vs,rel,dd⟩:=D7 I1.hok hD;refine⟨"dict","dict.values",PySem.F.plainAttrs_dict,PySem.F.slot_dict_values,PySem.F.type_dict_values,t1,t2,Calls.callWith_builtin rfl (PySem.evalArgs_none ?_)⟩;refine call_meetsIn PySem.F.slot_dict_values dd.typeIs PySem.F.entry_dict_values (PySem.F.args_dict_values_1 _) (meets_dict_values (A5 X.prog X.w) d hd) ⟨⟨vs,dd⟩,Calls.spliced_nil ?_⟩;obtain⟨ep,hat⟩:=dd.dictAt;have kp:∀b o,s1.heap.get? b=some o->(s1.heap.push {cls:= .type "dict_values",data:= .fields #[.ref d]}).get? b=some o:=λb o z=>Heap.get?_push_of_some _ z;have hvl:vs.length=ns.length:=by
  rw[<-rel.length];have:=congrArg List.length hv;simpa using this
 refine So (W.kdl_values (knd:=A5 X.prog X.w) (kvs:=vs) (ep:=ep)) (I1.ok.hd hc) ⟨⟨_,Heap.get?_push_size _ rfl,rfl,rfl⟩,hat.push _⟩ (λi=>ns.getD i 0) (λi v hv2=>?_) λh' tk t' kp2=>?_
 ·obtain⟨k,hk⟩:=hv2;have hi:i<kvs.length:=by rw[rel.length];exact(List.getElem?_eq_some_iff.mp hk).1
  have e1:kvs[i]? =some kvs[i]:=List.getElem?_eq_getElem hi;have e2:(kvs.map (·.2))[i]? =some kvs[i].2:=by rw[List.getElem?_map,e1];rfl
  have rv:=KZ rel e1 hk;rw[hv,List.getElem?_map]at e2;obtain⟨m,hm1,hm2⟩:=Option.map_eq_some_iff.mp e2;have rv2:=rv.2;rw[<-hm2]at rv2;obtain⟨t,rfl⟩:=(show∃t,v=Value.int m t from rv2);exact⟨t,by simp[List.getD_eq_getElem?_getD,hm1]⟩
 ·have I2:Inv X pins σ H1 {s1 with heap:=h',toks:=tk}:=I1.kept λb o z=>kp2 b o (kp b o z);refine⟨.int ns.sum,H1,I2,⟨t',?_⟩,q⟩;rw[Jz,hvl,List.take_length]
theorem Uk{σ:W2}(h:te σ H λv H1=>∃ (d:Addr) (kvs:List (Key×V)) (ns:List Int),v= .ref d/\Rd H1 d (.dK kvs)/\kvs.map (·.2)=ns.map V.int/\Q (.int ns.sum) H1):NL te σ H Q:=h
end
def GI(d:PyData):Prop:=d.canLay0=true/\d.depth<=150
def Mp(f:Bool->Bool):R2:=λx y H Q=>∃ (dx dy:PyData) (p q:Addr),Sd p H x dx/\Sd q H y dy/\GI dx/\dy.canLay0=true/\Q (.bl (f (PyData.eqv dx dy))) H
theorem Room.deep{k:Nat}(hr:Room k A){e:PyData}(h:d.depth<=150):A.units+min d.depth e.depth<cLine:=by
 have h1:=hr.un;have h2:min d.depth e.depth<=d.depth:=Nat.min_le_left _ _;lia
theorem LN{k:Nat}(hr:Room k X.A):OpR X (compareOp .NotEq) (Mp not):=by
 intro pins s σ H x y v u Q I rx ry ⟨dx,dy,p,q,h1,h2,o1,o2,h⟩;obtain⟨as,r1,_⟩:=h1.reads I rx;obtain⟨bs,r2,_⟩:=h2.reads I ry;exact SeqAt.compareNe_reads r1 r2 o1.1 o2 (hr.deep o1.2) ⟨.bl _,H,I,rfl,h⟩
theorem Lw{y:V}{q:Addr}(h1:Sd p H x d)(h2:Sd q H y d)(ok:GI d)(h:Q (.bl false) H):Mp not x y H Q:=⟨d,d,p,q,h1,h2,ok,ok.1,by rw[SeqAt.eqv_refl d ok.1];exact h⟩
end L2
namespace BrI
theorem Ci{k:Nat}(hk:k<=4)(hi:i<a.length)(hb:b<2*k):P1 k a i b=if okc (a.getD i 0) b=true then 1 else 0:=by
 have h1:(ones k).length=2*k:=List.length_replicate;have h2:=V0 (ws:=ones k) (a:=a) (i:=i) (b:=b) hi (by rw[h1];lia) (by rw[h1];exact hb);have h3:(ones k).getD b 0=1:=by rw[List.getD_eq_getElem?_getD,List.getElem?_replicate,if_pos hb];rfl
 rw[h3]at h2;rw[show P1 k a i b=_ from h2];unfold okc
 by_cases e1:a.getD i 0=63
 ·rw[if_pos e1,if_pos (decide_eq_true (.inl e1))]
 ·rw[if_neg e1]
  by_cases e2:a.getD i 0=brs.getD b 0
  ·rw[if_pos e2,if_pos (decide_eq_true (.inr e2))]
  ·rw[if_neg e2,if_neg (λz=>(of_decide_eq_true z).elim e1 e2)]
theorem CD{k:Nat}(hk:k<=4)(a:List Nat):∀i b,0<=P1 k a i b:=λi b=>(Ay (λl hl=>(BN hk l hl).2) i b).1
theorem Fq{l:List Nat}(h:i<l.length):l.getD i 0∈l:=by rw[List.getD_eq_getElem?_getD,List.getElem?_eq_getElem h];exact List.getElem_mem h
theorem MP{k:Nat}(hk:k<=4){l:List Nat}(hl:l.length=a.length)(hb:∀b∈l,b<2*k):Fits (P1 k a) 0 l↔Mt a l:=by
 constructor
 ·intro h i hi;have:=h i hi;rw[Nat.zero_add,Ci hk (by lia) (hb _ (Fq hi))]at this;apply Classical.byContradiction;intro z;rw[if_neg z]at this;lia
 ·intro h i hi;rw[Nat.zero_add,Ci hk (by lia) (hb _ (Fq hi)),if_pos (h i hi)]
  decide
theorem EM{k:Nat}(hk:k<=4){l:List Nat}:l∈BM k a↔l.length=a.length/\Rg k l/\Fits (P1 k a) 0 l:=by
 rw[mem_ress]
 constructor
 ·rintro⟨h1,h2,h3⟩;exact⟨h2,h1,(MP hk h2 (Cz l [] [] h1)).mpr h3⟩
 ·rintro⟨h2,h1,h3⟩;exact⟨h1,h2,(MP hk h2 (Cz l [] [] h1)).mp h3⟩
theorem Na{k:Nat}:∀ {bs:List Nat} {i:Nat} {st:List Nat},Fi k a i st bs->go k st bs=some []/\Fits (P1 k a) i bs
 |[],i,st,h=>by
  obtain⟨_,rfl⟩:=h;exact⟨Aq _,Fu _ _⟩
 |b::bs,i,st,h=>by
  obtain⟨h1,h2,h3,h4⟩:=h;obtain⟨g1,g2⟩:=Na h4;refine⟨?_,fit_cons.mpr ⟨by rw[show P1 k a i b=1 from h2];decide,g2⟩⟩;rw[A0];have e:nx k st b=some (stb st b):=by
   unfold stb
   by_cases c:b%2=0
   ·rw[if_pos c];exact JY h1 (.inl ⟨c,rfl⟩)
   ·obtain⟨s',rfl⟩:=h3 (by lia);rw[if_neg c];exact JY h1 (.inr ⟨by lia,rfl⟩)
  rw[e];exact g1
theorem US{k:Nat}(hk:k<=4){bs:List Nat}(h:Fi k a 0 [] bs):bs∈BM k a:=by
 obtain⟨h1,h2⟩:=Na h;exact(EM hk).mpr ⟨by have:=h.len;lia,h1,h2⟩
theorem Jf{k:Nat}(hk:k<=4):∀ {bs:List Nat} {i:Nat} {st:List Nat},i+bs.length=a.length->go k st bs=some []->Fits (P1 k a) i bs->Fi k a i st bs
 |[],i,st,hl,h,_=>by
  rw[Aq]at h
  cases h
  exact⟨hl,rfl⟩
 |b::bs,i,st,hl,h,hf=>by
  rw[List.length_cons]at hl;rw[A0]at h;obtain⟨s1,h1,h2⟩:=Option.bind_eq_some_iff.mp h;obtain⟨f1,f2⟩:=fit_cons.mp hf;have hP:pa_ k a i b=1:=by
   rcases E4 (k:=k) (a:=a) hk (i:=i) (b:=b) (by lia)with z|z
   ·have f1:0<pa_ k a i b:=f1;lia
   ·exact z
  obtain⟨hb,⟨e1,rfl⟩|⟨e1,rfl⟩⟩:=BR h1
  ·refine⟨hb,hP,λz=>by lia,?_⟩;unfold stb;rw[if_pos e1];exact Jf hk (by lia) h2 f2
  ·refine⟨hb,hP,λ_=>⟨s1,rfl⟩,?_⟩;unfold stb;rw[if_neg (by lia)];exact Jf hk (by lia) h2 f2
theorem L6{k:Nat}(hk:k<=4){l:List Nat}(h:l∈BM k a):Fi k a 0 [] l:=by
 obtain⟨h1,h2,h3⟩:=(EM hk).mp h;exact Jf hk (by lia) h2 h3
theorem M8:∀ {b c:List Nat},Ear b c->b<c
 |x::b,y::c,h=>by
  rcases h with h|⟨rfl,h⟩
  ·exact List.cons_lt_cons_iff.mpr (.inl h)
  ·exact List.cons_lt_cons_iff.mpr (.inr ⟨rfl,M8 h⟩)
 |[],_,h=>h.elim
 |_::_,[],h=>h.elim
theorem MD{k:Nat}(hk:k<=4)(ha:a.length<=40){n:Int}(h0:0<=n)(h1:n<W4 k a){bs:List Nat}(hn:NF k a 0 [] n bs)(hl:bs.length=a.length):bs∈BM k a:=
 US hk (NF.fl hk ha (by lia) (by simp) h0 (by unfold W;rw[Nat.sub_zero];exact h1) hn)
theorem R6{k:Nat}(hk:k<=4)(ha:a.length<=40){bs:List Nat}(hn:NF k a 0 [] 0 bs)(hl:bs.length=a.length):∀l∈BM k a,¬l<bs:=λl h z=>by
 have hf:=L6 hk h;have hll:=hf.len;obtain⟨p1,p2,p3⟩:=hf.pos hk ha (by simp)
 by_cases e:BrS.num k a 0 [] l=0
 ·rw[e]at p1;have:=NF.uniq hk ha (by lia) hn p1;subst this;exact List.lt_irrefl _ z
 ·exact List.lt_irrefl _ (List.lt_trans z (M8 (NF.ear hk ha (by lia) hn p1 (by lia))))
theorem Lj:∀ {l:List Nat} {s:Nat},(∀j,j<l.length->P (s+j) (l.getD j 0)=1)->wtl P s l=1
 |[],s,_=>by rw[wtl]
 |b::l,s,h=>by
  have h0:P s b=1:=h 0 (by simp);rw[wtl,h0,Int.one_mul];refine Lj λj hj=>?_;have:=h (j+1) (by simpa using hj);rw[show s+1+j=s+(j+1) by lia];exact this
theorem best_one{k:Nat}(hk:k<=4){l:List Nat}(hl:l∈BM k a)(hf:∀m∈BM k a,¬m<l){o:O}(h:Best (Dn k 0 a.length) (wtl (P1 k a) 0) o):o=some (1,l):=by
 have one:∀m∈BM k a,wtl (P1 k a) 0 m=1:=λm hm=>by
  obtain⟨h1,h2,h3⟩:=mem_ress.mp hm;refine Lj λj hj=>?_;rw[Nat.zero_add,Ci hk (by lia) (Cz m [] [] h1 _ (Fq hj)),if_pos (h3 j hj)]
 refine h.uniq ⟨?_,one l hl,by decide,λm hm=>?_⟩
 ·obtain⟨h1,h2,h3⟩:=mem_ress.mp hl;exact⟨h1,by lia⟩
 ·have hml:m.length=a.length:=by have:=hm.2;lia
  by_cases c:Mt a m
  ·have:m∈BM k a:=mem_ress.mpr ⟨hm.1,hml,c⟩;exact .inr ⟨one m this,hf m this⟩
  ·left
   have:∃i,i<m.length/\¬okc (a.getD i 0) (m.getD i 0)=true:=Classical.byContradiction λz=>c λi hi=>Classical.byContradiction λy=>z ⟨i,hi,y⟩;obtain⟨i,hi,hn⟩:=this;rw[Kw (i:=i) hi (by rw[Nat.zero_add,Ci hk (by lia) (Cz m [] [] hm.1 _ (Fq hi)),if_neg hn])]
   decide
theorem CZ(k:Nat)(a:List Nat):tbl (P1 k a) k 0 a.length=W4 k a:=by
 have:=Dj k a;rwa[List.length_map]at this
theorem Vu{k:Nat}(hk:k<=4)(a:List Nat):0<=W4 k a:=by rw[<-CZ];exact B0 (CD hk a) _ _
theorem F6{k:Nat}(hk:k<=4)(a:List Nat)(i b:Nat):0<=atB k a i b:=B0 (JK (CD hk a) i b) _ _
theorem NB{k:Nat}(hi:i<a.length):sm (2*k) (atB k a i)=W4 k a:=by rw[<-CZ];exact NE (P1 k a) hi
theorem Si{k:Nat}(hk:k<=4)(hi:i<a.length)(hb:b<2*k)(h:atB k a i b=W4 k a){l:List Nat}(hl:l∈BM k a):l.getD i 0=b:=by
 obtain⟨h1,h2,h3⟩:=(EM hk).mp hl;exact Ua (CD hk a) hi hb (by rw[CZ];exact h) h1 h2 h3
theorem JW(k:Nat)(a:List Nat)(i b:Nat):P1 k a i b=(((a[i]?).map (plw (ones k))).getD []).getD b 0:=by
 show((a.map (plw (ones k))).getD i []).getD b 0=_;have:(a.map (plw (ones k))).getD i []=((a[i]?).map (plw (ones k))).getD []:=by rw[List.getD_eq_getElem?_getD,List.getElem?_map]
 rw[this]
theorem Fl{k:Nat}{c:List Nat}(h:a[i]? =c[j]?):P1 k a i b=P1 k c j b:=by rw[JW,JW,h]
theorem UV{k:Nat}(hk:k<=4)(hi:i<a.length)(hb:b<2*k)(ho:okc (a.getD i 0) b=true):W4 k (a.take i++(brs.getD b 0::a.drop (i+1)))=atB k a i b:=by
 have hl:(a.take i++(brs.getD b 0::a.drop (i+1))).length=a.length:=by simp;lia
 rw[<-CZ,hl];unfold atB tbl;rw[if_pos (Nat.zero_le _),if_pos (Nat.zero_le _)];refine Ko _ _ _ (by simp) λj c _ hj hc=>?_;have hj:j<a.length:=by lia
 have htl:(a.take i).length=i:=by rw[List.length_take];lia
 by_cases e:j=i
 ·subst e;have hg:(a.take j++(brs.getD b 0::a.drop (j+1))).getD j 0=brs.getD b 0:=by
   rw[List.getD_eq_getElem?_getD,List.getElem?_append_right (by lia),htl,Nat.sub_self];rfl
  rw[Ci hk (by lia) hc,hg]
  by_cases z:c=b
  ·subst z;rw[Ex,Ci hk hj hc,if_pos ho,if_pos (show okc (brs.getD c 0) c=true from decide_eq_true (Or.inr rfl))]
  ·rw[Dz _ _ _ z,if_neg];intro q;rcases of_decide_eq_true q with q|q
   ·exact Vx b (by lia) q
   ·exact z (Ig _ (by lia) _ (by lia) q).symm
 ·rw[Ef _ _ _ _ _ e];refine Fl ?_
  by_cases z:j<i
  ·rw[List.getElem?_append_left (by lia),List.getElem?_take_of_lt z]
  ·rw[List.getElem?_append_right (by lia),htl,show j-i=(j-i-1)+1 by lia,List.getElem?_cons_succ,List.getElem?_drop,show i+1+(j-i-1)=j by lia]
theorem Vy{k:Nat}(hk:k<=4)(hi:i<a.length)(hb:b<2*k)(ho:¬okc (a.getD i 0) b=true):atB k a i b=0:=by
 have h:=F6 hk a i b;apply Classical.byContradiction;intro z;obtain⟨v,hv,hr,hf,e⟩:=(NC (CD hk a) (k:=k) (b:=b) hi).mp (show 0<atB k a i b by lia);have:=hf i (by lia);rw[Nat.zero_add,e,Ci hk hi hb,if_neg ho]at this;lia
theorem UX{k:Nat}(hij:i<=j)(hj:j<a.length):W4 k (a.take i++a.drop (j+1))=out (P1 k a) k a.length i j:=by
 have hl:(a.take i++a.drop (j+1)).length=a.length-(j+1-i):=by simp;lia
 have htl:(a.take i).length=i:=by rw[List.length_take];lia
 rw[<-CZ,hl];have:=Tu (P:=P1 k a) (P':=P1 k (a.take i++a.drop (j+1))) (k:=k) (n':=a.length-(j+1-i)) (i:=i) (d:=j+1-i) (j:=j) (by lia) (by lia) (λx b hx=>Fl (by rw[List.getElem?_append_left (by lia),List.getElem?_take_of_lt hx])) (λx b hx=>Fl (by rw[List.getElem?_append_right (by lia),htl,List.getElem?_drop,show j+1+(x-i)=x+(j+1-i) by lia]));rw[this,show a.length-(j+1-i)+(j+1-i)=a.length by lia]
theorem UW{k:Nat}(hij:i<j)(hj:j<a.length):W4 k ((a.take j).drop (i+1))=tbl (P1 k a) k (i+1) j:=by
 have hl:((a.take j).drop (i+1)).length=j-(i+1):=by simp;lia
 rw[<-CZ,hl];unfold tbl;rw[if_pos (Nat.zero_le _),if_pos (by lia),Nat.sub_zero,Hx (P:=P1 k a) (P':=P1 k ((a.take j).drop (i+1))) (i+1) (j-(i+1)) 0 [] (λx b _ hx=>Fl (by rw[List.getElem?_drop,List.getElem?_take_of_lt (by lia),Nat.add_comm])),Nat.zero_add]
theorem IQ:∀n,(List.range n).filter (λx=>decide (x=b))=if b<n then [b]else []
 |0=>by simp
 |n+1=>by
  rw[List.range_succ,List.filter_append,IQ n]
  by_cases e:n=b
  ·subst e;simp
  ·by_cases c:b<n
   ·rw[if_pos c,if_pos (by lia)];simp[e]
   ·rw[if_neg c,if_neg (by lia)];simp[e]
theorem UH{k:Nat}(hk:k<=4)(hi:i<a.length)(hc:W4 k a≠0):(kvB k a i (2*k)).length=1↔∃b,b<2*k/\atB k a i b=W4 k a:=by
 have hs:=NB (k:=k) hi;have nn:=λb=>F6 hk a i b;have hcn:=Vu hk a;unfold kvB;rw[List.length_map]
 constructor
 ·intro h;obtain⟨b,hb⟩:=List.length_eq_one_iff.mp h;have hm:∀x,x<2*k->(0<atB k a i x↔x=b):=λx hx=>by
   have:x∈(List.range (2*k)).filter (λb=>decide (0<atB k a i b))↔x=b:=by rw[hb];simp
   rw[List.mem_filter,List.mem_range,decide_eq_true_eq]at this;exact⟨λz=>this.mp ⟨hx,z⟩,λz=>(this.mpr z).2⟩
  have hbm:b∈(List.range (2*k)).filter (λb=>decide (0<atB k a i b)):=by rw[hb];simp
  have hb2:b<2*k:=List.mem_range.mp (List.mem_filter.mp hbm).1;refine⟨b,hb2,?_⟩;rw[<-hs];exact(B9 hb2 λx hx hne=>by
   have h1:=nn x;have h2:¬0<atB k a i x:=λz=>hne ((hm x hx).mp z);lia).symm
 ·rintro⟨b,hb,e⟩;have:(List.range (2*k)).filter (λx=>decide (0<atB k a i x))=(List.range (2*k)).filter (λx=>decide (x=b)):=by
   refine List.filter_congr λx hx=>?_;have hx:=List.mem_range.mp hx;rw[decide_eq_decide]
   constructor
   ·intro z;apply Classical.byContradiction;intro ne;have:=Ir (f:=atB k a i) hb hx (λq=>ne q.symm) (λx _=>nn x);lia
   ·rintro rfl;lia
  rw[this,IQ,if_pos hb];rfl
theorem ME{k:Nat}(hk:k<=4):∀n,(((List.range n).filter λb=>decide (0<atB k a i b)).map λb=>atB k a i b).sum=sm n (atB k a i)
 |0=>rfl
 |n+1=>by
  have:=F6 hk a i n;rw[List.range_succ,List.filter_append,List.map_append,List.sum_append,ME hk n,sm]
  by_cases e:0<atB k a i n
  ·simp[e]
  ·have:atB k a i n=0:=by lia
   simp[this]
def duP(k:Nat)(a:List Nat)(th:Nat->Nat)(i:Nat):Option (Nat×Nat):=if i<th i/\pr (P1 k a) k i (th i)*rst (P1 k a) k a.length i (th i)=W4 k a then some (i,th i)else none
theorem MO(f:α->Option β):∀l:List α,l.filterMap f=l.flatMap λx=>(f x).toList
 |[]=>rfl
 |x::l=>by
  rw[List.filterMap_cons,List.flatMap_cons,MO f l]
  cases f x<;>rfl
theorem J5(p:β->Bool)(f:α->List β):∀l:List α,(l.flatMap f).filter p=l.flatMap λx=>(f x).filter p
 |[]=>rfl
 |x::l=>by rw[List.flatMap_cons,List.flatMap_cons,List.filter_append,J5 p f l]
theorem Kk{f g:α->List β}:∀ {l:List α},(∀x∈l,f x=g x)->l.flatMap f=l.flatMap g
 |[],_=>rfl
 |x::l,h=>by rw[List.flatMap_cons,List.flatMap_cons,h x List.mem_cons_self,Kk λy hy=>h y (List.mem_cons_of_mem _ hy)]
theorem RX{k:Nat}(hk:k<=4){l:List Nat}(hl:l∈BM k a)(ht:∀i,i<a.length->Pr (brt l) i (th i)\/Pr (brt l) (th i) i):C0 k a=(List.range a.length).filterMap (duP k a th):=by
 obtain⟨h1,h2,h3⟩:=(EM hk).mp hl;unfold C0 prs;rw[J5,MO];refine Kk λs hs=>?_;have hs:=List.mem_range.mp hs;have sure:∀e,e<a.length->pr (P1 k a) k s e*rst (P1 k a) k a.length s e=W4 k a->PairAt k l s e/\e=th s:=λe he h=>by
  have hp:=KP (CD hk a) hs he (by rw[CZ];exact h) h1 h2 h3;refine⟨hp,?_⟩;rcases ht s hs with z|z
  ·exact Ms (hp.pr hk) z
  ·exact(Mr (hp.pr hk) z).elim
 rw[List.filter_map];unfold duP
 by_cases c:s<th s/\pr (P1 k a) k s (th s)*rst (P1 k a) k a.length s (th s)=W4 k a
 ·rw[if_pos c];have hth:th s<a.length:=by
   rcases ht s hs with z|z
   ·have:=z.2.1;rw[Ed]at this;lia
   ·have:=z.1;lia
  obtain⟨hp,_⟩:=sure _ hth c.2;have hlt:=hp.lt;have hq:(λq=>decide (pr (P1 k a) k (s,s+1+2*q).1 (s,s+1+2*q).2*rst (P1 k a) k a.length (s,s+1+2*q).1 (s,s+1+2*q).2=W4 k a))=((λx:Nat×Nat=>decide (pr (P1 k a) k x.1 x.2*rst (P1 k a) k a.length x.1 x.2=W4 k a))∘λq=>(s,s+1+2*q)):=rfl;have e1:(List.range ((a.length-s)/2)).filter ((λx:Nat×Nat=>decide (pr (P1 k a) k x.1 x.2*rst (P1 k a) k a.length x.1 x.2=W4 k a))∘λq=>(s,s+1+2*q))=(List.range ((a.length-s)/2)).filter (λq=>decide (q=(th s-s-1)/2)):=by
   refine List.filter_congr λq hq=>?_;have hq:=List.mem_range.mp hq;show decide (pr (P1 k a) k s (s+1+2*q)*rst (P1 k a) k a.length s (s+1+2*q)=W4 k a)=_;rw[decide_eq_decide]
   constructor
   ·intro z;have:=(sure _ (by lia) z).2;lia
   ·intro z;rw[show s+1+2*q=th s by lia];exact c.2
  rw[e1,IQ,if_pos (by lia),List.map_cons,List.map_nil,show s+1+2*((th s-s-1)/2)=th s by lia];rfl
 ·rw[if_neg c];have e1:(List.range ((a.length-s)/2)).filter ((λx:Nat×Nat=>decide (pr (P1 k a) k x.1 x.2*rst (P1 k a) k a.length x.1 x.2=W4 k a))∘λq=>(s,s+1+2*q))=[]:=by
   rw[List.filter_eq_nil_iff];intro q hq;have hq:=List.mem_range.mp hq;show¬decide (pr (P1 k a) k s (s+1+2*q)*rst (P1 k a) k a.length s (s+1+2*q)=W4 k a)=true;rw[decide_eq_true_eq];intro z;obtain⟨_,e⟩:=sure _ (by lia) z;exact c ⟨by lia,by rw[<-e];exact z⟩
  rw[e1];rfl
end BrI
namespace BrS
variable{c:Bool}{D:Ends}{x:Int}{kvs:List (Key×V)}{xs:List V}{v:V}{σ:W2}
theorem GC{k:Nat}(hk:k<=4)(a:List Nat):∀i b,P1 k a i b<=1:=λi b=>by
 by_cases h:i<a.length
 ·rcases E4 (k:=k) (a:=a) hk (i:=i) (b:=b) h with z|z
  ·rw[show P1 k a i b=0 from z];decide
  ·rw[show P1 k a i b=1 from z];decide
 ·rw[JW,List.getElem?_eq_none (by lia)];show([]:List Int).getD b 0<=1;simp
theorem SR:((5:Int)^40).natAbs<2^1920:=by decide +kernel
theorem LT{k:Nat}(hk:k<=4)(h:∀i b,0<=P i b/\P i b<=1)(hn:n<=40):0<=tbl P k 0 n/\tbl P k 0 n<=5^40:=by
 obtain⟨b1,b2⟩:=FZ (P:=P) (k:=k) (c:=1) (by decide) (λi b=>(h i b).1) (λi b=>(h i b).2) n 0 [];unfold tbl;rw[if_pos (Nat.zero_le _),Nat.sub_zero];refine⟨b1,Int.le_trans b2 (Int.le_trans (Fn (by lia) (show((k:Int)+1)*1<=5 by lia) n) (Fm (by decide) hn))⟩
theorem Di{k:Nat}(hk:k<=4)(ha:a.length<=40):0<=W4 k a/\W4 k a<=5^40:=by
 rw[<-CZ];exact LT hk (λi b=>⟨CD hk a i b,GC hk a i b⟩) ha
theorem Sj{k:Nat}(hk:k<=4)(ha:a.length<=40)(i b:Nat):0<=atB k a i b/\atB k a i b<=5^40:=
 LT hk (Wd (by decide) (λx y=>⟨CD hk a x y,GC hk a x y⟩) i b) ha
theorem KM(h:0<=x/\x<=5^40):x.natAbs<2^1920:=by
 have:=SR;lia
theorem Dp(h:0<=x/\x<=5^40):x.natAbs<big:=by
 have h1:=KM h;exact Nat.lt_of_lt_of_le h1 (by unfold big;exact Nat.pow_le_pow_right (by decide) (by decide))
theorem DO(h:x.natAbs<1000):x.natAbs<big:=Nat.lt_of_lt_of_le h (by unfold big;decide +kernel)
theorem Va{k:Nat}(hn:n<=8):((kvB k a i n).map (·.1)).Nodup:=by
 unfold kvB List.Nodup;rw[List.map_map,List.pairwise_map];have h:((List.range n).filter λb=>decide (0<atB k a i b)).Pairwise (· ≠ ·):=List.Pairwise.filter _ List.nodup_range;refine h.imp_of_mem fun{x y} hx hy hne z=>?_;have hx:=List.mem_range.mp (List.mem_filter.mp hx).1;have hy:=List.mem_range.mp (List.mem_filter.mp hy).1;have z2:(⟨#[brs.getD x 0]⟩:Str)=⟨#[brs.getD y 0]⟩:=Sum.inr.inj z;have z3:brs.getD x 0=brs.getD y 0:=by
  have:=congrArg (λs:Str=>s.cps.toList) z2;simpa using this
 exact hne (Ig _ (by lia) _ (by lia) z3)
theorem UI{k:Nat}:∀p∈kvB k a i n,∃x,p.2= .int x:=λp hp=>by
 unfold kvB at hp;obtain⟨b,_,rfl⟩:=List.mem_map.mp hp;exact⟨_,rfl⟩
theorem SE(k:Nat)(a:List Nat)(i n:Nat):(kvB k a i n).map (·.2)=(((List.range n).filter λb=>decide (0<atB k a i b)).map λb=>atB k a i b).map V.int:=by
 unfold kvB;rw[List.map_map,List.map_map];rfl
theorem Vk(h:∀H',Same H H'->D.nx (σ.set i (some v)) H')(h1:c=true->∀N:VK,(∀H',Same H H'->N v H')->te σ H N)(h2:c=false->σ[i]? =some (some v)):if c=true then Ck te (BY i) D σ H else tNext D σ H:=by
 cases c with
 |true=>rw[if_pos rfl];exact h1 rfl _ h
 |false=>
  rw[if_neg Bool.false_ne_true];have es:σ.set i (some v)=σ:=by
   apply List.ext_getElem?;intro j
   by_cases hj:i=j
   ·subst hj;have h2:=h2 rfl;rw[List.getElem?_set_self (List.getElem?_eq_some_iff.mp h2).1,h2]
   ·rw[List.getElem?_set_ne hj]
  have:=h H (Same.refl H);rw[es]at this;exact this
theorem Vl{d:Addr}{key:Key}(hd:H d=some (.dK kvs))(hl:kvs.length<sizeLine)(e1:σ[i]? =some (some (.ref d)))(e2:σ[j]? =some (some (kV key)))(e3:σ[m]? =some (some v))(h:∀H',H'=(if c=true then upd H d (.dK (putK kvs key v))else H)->D.nx σ H'):if c=true then JV (Ah i) (Ah j) (Ah m) D σ H else tNext D σ H:=by
 cases c with
 |true=>
  rw[if_pos rfl];exact Mm (GA e3 (GA e1 (GA e2 ⟨d,_,rfl,DPut.k hd hl,h _ rfl⟩)))
 |false=>
  rw[if_neg Bool.false_ne_true];exact h H rfl
theorem RB{t b:Int}(ht:0<=t)(hb:0<b):t/gcI t b*b=t*(b/gcI t b):=by
 have hg:=Fs (t:=t) hb;have h1:gcI t b∣t:=by
  have:=Int.natCast_dvd_natCast.mpr (Nat.gcd_dvd_right b.toNat t.toNat);rwa[Int.toNat_of_nonneg ht]at this
 have h2:gcI t b∣b:=by
  have:=Int.natCast_dvd_natCast.mpr (Nat.gcd_dvd_left b.toNat t.toNat);rwa[Int.toNat_of_nonneg (Int.le_of_lt hb)]at this
 generalize gcI t b=g at*
 obtain⟨x,rfl⟩:=h1;obtain⟨y,rfl⟩:=h2;have hne:g≠0:=by lia
 rw[Int.mul_ediv_cancel_left _ hne,Int.mul_ediv_cancel_left _ hne,Int.mul_left_comm,Int.mul_assoc]
theorem LV{t g:Int}(h:0<=t/\t<=5^40)(hg:0<g):0<=t/g/\t/g<=5^40:=⟨Int.ediv_nonneg h.1 (Int.le_of_lt hg),Int.le_trans (Int.ediv_le_self g h.1) h.2⟩
theorem KD{k:Int}(k1:1<=k)(k4:k<=4){l:List Nat}(ha:a.length<=40)(h:l∈BM k.toNat a):Rt (brt l)/\Ab k (brt l)=true/\(brt l).length=a.length:=by
 have hk:k.toNat<=4:=by lia
 have hf:=L6 hk h;have hl:=hf.len;have hll:=hf.l;rw[List.drop_zero]at hll;have h2:=Q7 hk (bs:=l) (by lia) hll.lt;rw[show((k.toNat:Nat):Int)=k by lia]at h2;exact⟨hf.run hk (by simp),h2,by rw[Ed];lia⟩
theorem LL(h:IsPart a xs):∃th:Nat->Nat,∀i,i<a.length->xs[i]? =some (.int (th i:Int))/\(Pr a i (th i)\/Pr a (th i) i):=
 have h:∀i,∃p:Nat,i<a.length->xs[i]? =some (.int (p:Int))/\(Pr a i p\/Pr a p i):=λi=>by
  by_cases c:i<a.length
  ·obtain⟨p,hp⟩:=h.2 i c;exact⟨p,λ_=>hp⟩
  ·exact⟨0,λz=>absurd z c⟩
 ⟨λi=>Classical.choose (h i),λi hi=>Classical.choose_spec (h i) hi⟩
theorem FU{k:Nat}(h:(i,b)∈Au k a):i<a.length/\a.getD i 0=63/\b<2*k/\atB k a i b=W4 k a:=by
 unfold Au at h;obtain⟨j,hj,e⟩:=List.mem_filterMap.mp h;have hj:=List.mem_range.mp hj;unfold BC at e
 by_cases c:a.getD j 0=63
 ·rw[if_pos c]at e;obtain⟨b',hb,e2⟩:=Option.map_eq_some_iff.mp e
  cases e2
  obtain⟨h1,h2,_⟩:=Kl hb;exact⟨hj,c,h2,h1⟩
 ·rw[if_neg c]at e;cases e
theorem RW{k:Nat}(hk:k<=4){e:Nat}(h:(i,e)∈C0 k a):i<a.length/\e<a.length/\∀l∈BM k a,PairAt k l i e:=by
 unfold C0 at h;obtain⟨h1,h2⟩:=List.mem_filter.mp h;have hm:=IS h1;have h2:=of_decide_eq_true h2;have hm1:i<e:=hm.1;have hm2:e<a.length:=hm.2;refine⟨by lia,hm2,λl hl=>?_⟩;obtain⟨g1,g2,g3⟩:=(EM hk).mp hl;exact KP (CD hk a) (by lia) hm2 (by rw[CZ];exact h2) g1 g2 g3
theorem Vw{l:List Nat}(h:i<l.length):(brt l)[i]? =some (brs.getD (l.getD i 0) 0):=by
 unfold brt;rw[List.getElem?_map,List.getElem?_eq_getElem h,List.getD_eq_getElem?_getD (l:=l),List.getElem?_eq_getElem h];rfl
theorem Ml:∀ {vs:List V} {ds:List PyData},vs.length=ds.length->(∀ (m:Nat) (v:V) (d:PyData),vs[m]? =some v->ds[m]? =some d->Sd p H v d)->Sds p H vs ds
 |[],[],_,_=> .nil
 |[],_::_,h,_=>by cases h
 |_::_,[],h,_=>by cases h
 |v::vs,d::ds,h,f=> .cons (f 0 v d rfl rfl) (Ml (by simpa using h) λm v d h1 h2=>f (m+1) v d h1 h2)
def prD(L:List (Nat×Nat)):List PyData:=L.map λx=> .tuple [.int x.1, .int x.2]
theorem Prl.sds{vs:List V}(h:Prl H vs L)(hp:H p=some (.lst xs)):Sds p H vs (prD L):=by
 refine Ml (by rw[h.1];unfold prD;rw[List.length_map]) λm v d h1 h2=>?_;unfold prD at h2;rw[List.getElem?_map]at h2;obtain⟨x,hx,rfl⟩:=Option.map_eq_some_iff.mp h2;obtain⟨T,e,g⟩:=h.2 m x hx;rw[h1]at e
 cases e
 exact .tup g (CF g hp λz=>by cases z) (.cons (.sc (.int _)) (.cons (.sc (.int _)) .nil))
theorem Mu:∀L:List (Nat×Nat),PyData.canLayAll0 (prD L)=true/\PyData.depthAll (prD L)<=2
 |[]=>by simp[prD,PyData.canLayAll0,PyData.depthAll]
 |x::L=>by
  obtain⟨h1,h2⟩:=Mu L;have e:prD (x::L)= .tuple [.int x.1, .int x.2]::prD L:=rfl;rw[e];refine⟨by rw[PyData.canLayAll0,h1];simp[PyData.canLay0,PyData.canLayAll0],?_⟩;rw[PyData.depthAll];refine Nat.max_le.mpr ⟨by simp[PyData.depth,PyData.depthAll],h2⟩
theorem TZ(L:List (Nat×Nat)):GI (.list (prD L)):=by
 obtain⟨h1,h2⟩:=Mu L;refine⟨by rw[PyData.canLay0];exact h1,?_⟩;rw[PyData.depth];lia
theorem Uh{l:List Nat}(h:∀b∈l,b<8):PyData.strOk ⟨(brt l).toArray⟩=true:=by
 unfold PyData.strOk brt;simp only[List.all_toArray,List.all_map,List.all_eq_true];intro b hb;have:=h b hb;have:b=0\/b=1\/b=2\/b=3\/b=4\/b=5\/b=6\/b=7:=by lia
 rcases this with rfl|rfl|rfl|rfl|rfl|rfl|rfl|rfl<;>decide
theorem R0{i:Int}{l:List Nat}(h:∀b∈l,b<8):GI (.tuple [.int i, .str ⟨(brt l).toArray⟩]):=by
 refine⟨?_,by simp[PyData.depth,PyData.depthAll]⟩;simp only[PyData.canLay0,PyData.canLayAll0,Uh h,Bool.and_self]
theorem Ma:∀ {xs ys:List Int},xs.Pairwise (· < ·)->ys.Pairwise (· < ·)->(∀k,k∈xs↔k∈ys)->xs=ys
 |[],[],_,_,_=>rfl
 |[],y::ys,_,_,h=>absurd ((h y).mpr List.mem_cons_self) (by simp)
 |x::xs,[],_,_,h=>absurd ((h x).mp List.mem_cons_self) (by simp)
 |x::xs,y::ys,h1,h2,h=>by
  rw[List.pairwise_cons]at h1 h2;have e:x=y:=by
   rcases List.mem_cons.mp ((h x).mp List.mem_cons_self)with z|z
   ·exact z
   ·rcases List.mem_cons.mp ((h y).mpr List.mem_cons_self)with w|w
    ·exact w.symm
    ·have:=h1.1 y w;have:=h2.1 x z;lia
  subst e;rw[Ma h1.2 h2.2 λk=>?_]
  constructor
  ·intro z;have:=h1.1 k z;rcases List.mem_cons.mp ((h k).mp (List.mem_cons_of_mem _ z))with w|w
   ·lia
   ·exact w
  ·intro z;have:=h2.1 k z;rcases List.mem_cons.mp ((h k).mpr (List.mem_cons_of_mem _ z))with w|w
   ·lia
   ·exact w
def plS(L:List (Nat×Nat)):List Int:=L.map λx=>(x.1:Int)
theorem RV(k:Nat)(a:List Nat):(plS (Au k a)).Pairwise (· < ·):=by
 unfold plS Au;rw[List.pairwise_map,List.pairwise_filterMap];refine List.pairwise_lt_range.imp fun{x y} h p hp q hq=>?_;have e:∀ {i:Nat} {p:Nat×Nat},BC k a i=some p->p.1=i:=fun{i p} h=>by
  unfold BC at h
  split at h
  ·obtain⟨b,_,rfl⟩:=Option.map_eq_some_iff.mp h;rfl
  ·cases h
 rw[e hp,e hq];lia
theorem K1(k:Nat)(a:List Nat):(Au k a).length<=a.length:=by
 unfold Au;have:=List.length_filterMap_le (BC k a) (List.range a.length);rwa[List.length_range]at this
theorem Sn{k:Nat}(hi:i<a.length)(h6:a.getD i 0=63):(i:Int)∈plS (Au k a)↔∃b,b<2*k/\atB k a i b=W4 k a:=by
 constructor
 ·intro h;unfold plS at h;obtain⟨⟨j,b⟩,hm,e⟩:=List.mem_map.mp h;obtain⟨_,_,h1,h2⟩:=FU hm;have e:(j:Int)=(i:Int):=e;have:j=i:=by lia
  subst this;exact⟨b,h1,h2⟩
 ·rintro⟨b,h1,h2⟩
  cases hf:DW k a i with
  |none=>exact absurd h2 (Km hf b h1)
  |some b'=>
   refine List.mem_map.mpr ⟨(i,b'),List.mem_filterMap.mpr ⟨i,List.mem_range.mpr hi,?_⟩,rfl⟩;unfold BC;rw[if_pos h6,hf];rfl
theorem Sk{k:Nat}(hk:k<=4)(hi:i<a.length)(hc:W4 k a≠0)(h6:a.getD i 0=63):decide (((kvB k a i (2*k)).length:Int)=1)=decide ((i:Int)∈plS (Au k a)):=by
 rw[decide_eq_decide,Sn hi h6,<-UH hk hi hc];lia
def K4:Sp:=λvs H Q _=>∃ (k:Int) (a:List Nat),vs=[.int k,tx a]/\1<=k/\k<=4/\Ab k a=true/\W4 k.toNat a=0/\∀H',Same H H'->Q (.bl true) H'
def KS:Sp:=λvs H Q _=>∃ (k:Int) (a:List Nat) (i:Nat),vs=[.int k,tx a, .int (i:Int), .int (W4 k.toNat a)]/\1<=k/\k<=4/\Ab k a=true/\i<a.length/\W4 k.toNat a≠0/\∀H',Same H H'->Q (.bl true) H'
def Jv:Sp:=λvs H Q _=>∃ (k:Int) (a:List Nat) (i j:Nat),vs=[.int k,tx a, .int (i:Int), .int (j:Int)]/\1<=k/\k<=4/\Ab k a=true/\i<j/\j<a.length/\∀H',Same H H'->Q (.int (pr (P1 k.toNat a) k.toNat i j*rst (P1 k.toNat a) k.toNat a.length i j)) H'
def K3:Sp:=λvs H Q _=>∃ (k:Int) (a:List Nat),vs=[.int k,tx a, .int (W4 k.toNat a)]/\1<=k/\k<=4/\Ab k a=true/\W4 k.toNat a≠0/\∀H',Same H H'->Q (.bl true) H'
def J9:Sp:=λvs H Q _=>∃ (k:Int) (a:List Nat) (i b:Nat) (wv:V),vs=[.int k,tx a,wv, .int (i:Int),tx [brs.getD b 0]]/\1<=k/\k<=4/\Ab k a=true/\WOk H k wv (ones k.toNat)/\i<a.length/\b<2*k.toNat/\W4 k.toNat a≠0/\
 ∀T H',Same H H'->H' T=some (.tup [.int (atB k.toNat a i b/gcI (atB k.toNat a i b) (W4 k.toNat a)), .int (W4 k.toNat a/gcI (atB k.toNat a i b) (W4 k.toNat a))])->Q (.ref T) H'
end BrS
namespace Bk
variable{f:Addr}{ps:List Str}{P:List Value->Prop}{K:Params->W.Frag}{q:Program}{sp:Sp}{st:Stmt}
def top(i:Nat):Stmt:=PySem.Challenge.pw_bracketrows_k30_whole_sure_in_long_rows.main.body.getD i (.Pass ⟨0,0,0,0⟩)
abbrev HB:Stmt:=top 16
abbrev Gj:Stmt:=top 17
abbrev FT:Stmt:=top 18
abbrev Gn:Stmt:=top 19
abbrev Gi:Stmt:=top 20
abbrev HP:Stmt:=top 21
abbrev Gz:Stmt:=top 22
abbrev EJ:Stmt:=top 24
abbrev GZ:Stmt:=top 25
abbrev FL:Stmt:=top 26
abbrev FR:Stmt:=top 27
abbrev Gs:Stmt:=top 28
abbrev Gr:Stmt:=top 29
abbrev Gb:Stmt:=top 30
abbrev GW:Stmt:=top 31
abbrev FC:Stmt:=top 32
abbrev Hv:Stmt:=top 34
abbrev FE:Stmt:=top 35
abbrev FD:Stmt:=top 36
abbrev FH:Stmt:=top 37
abbrev IZ:Stmt:=top 39
abbrev C9:Stmt:=inClass (top 40) 0
abbrev Da:Stmt:=inClass (top 40) 1
abbrev C8:Stmt:=inClass (top 40) 2
abbrev Dc:Stmt:=inClass (top 40) 3
abbrev DC:Stmt:=inClass (top 40) 4
abbrev Gh:Stmt:=top 41
abbrev HC:Stmt:=top 43
abbrev Gf:Stmt:=top 44
abbrev FB:Stmt:=top 46
abbrev Ga:Stmt:=top 47
abbrev Gm:Stmt:=top 48
abbrev G0:Stmt:=top 49
abbrev GY:Stmt:=top 50
abbrev Gg:Stmt:=top 51
abbrev GV:Stmt:=top 52
abbrev E9:Stmt:=top 53
abbrev FA:Stmt:=top 54
abbrev Gu:Stmt:=top 55
abbrev Gc:Stmt:=top 56
abbrev HN:Stmt:=top 57
abbrev Hw:Stmt:=top 58
abbrev G8:Stmt:=top 60
abbrev HA:Stmt:=top 61
abbrev Gv:Stmt:=top 62
abbrev FS:Stmt:=top 63
abbrev G9:Stmt:=top 64
abbrev GX:Stmt:=top 65
abbrev Ge:Stmt:=top 66
abbrev DA:Stmt:=top 67
abbrev DU:Stmt:=top 68
structure Txt (K:W.Frag) (mg:Str->Option Value) (aK:Addr) (cs:Cs) (aC:Addr):Prop where
 n_all:mg "all"=none
 n_bool:mg "bool"=none
 n_enumerate:mg "enumerate"=none
 n_int:mg "int"=none
 n_isinstance:mg "isinstance"=none
 n_len:mg "len"=none
 n_list:mg "list"=none
 n_range:mg "range"=none
 n_set:mg "set"=none
 n_sorted:mg "sorted"=none
 n_str:mg "str"=none
 n_sum:mg "sum"=none
 n_zip:mg "zip"=none
 g_OPENING:∃u,mg "OPENING"=some u/\RelV (tx [40,91,123,60]) u
 g_CLOSING:∃u,mg "CLOSING"=some u/\RelV (tx [41,93,125,62]) u
 g_KINDS:∃u,mg "KINDS"=some u/\RelV (.ref aK) u
 t_KINDS:∀H,SqT K H aK [tx [40,41],tx [91,93],tx [123,125],tx [60,62]]
 g_BRACKETS:∃u,mg "BRACKETS"=some u/\RelV (tx [40,41,91,93,123,125,60,62]) u
 g_UNKNOWN:∃u,mg "UNKNOWN"=some u/\RelV (tx [63]) u
 g_MOST_SIGNS:∃u,mg "MOST_SIGNS"=some u/\RelV (.int 40) u
 c_NoKinds:mg "NoKinds"=some (.ref cs.NoKinds)
 e_NoKinds:ECls K cs.NoKinds
 c_NoLine:mg "NoLine"=some (.ref cs.NoLine)
 e_NoLine:ECls K cs.NoLine
 c_NotRight:mg "NotRight"=some (.ref cs.NotRight)
 e_NotRight:ECls K cs.NotRight
 c_NoNumber:mg "NoNumber"=some (.ref cs.NoNumber)
 e_NoNumber:ECls K cs.NoNumber
 c_NoWeights:mg "NoWeights"=some (.ref cs.NoWeights)
 e_NoWeights:ECls K cs.NoWeights
 c_NoPlace:mg "NoPlace"=some (.ref cs.NoPlace)
 e_NoPlace:ECls K cs.NoPlace
 c_NoFilling:mg "NoFilling"=some (.ref cs.NoFilling)
 e_NoFilling:ECls K cs.NoFilling
 c_Course:mg "Course"=some (.ref aC)
 cl_Course:Cls K aC
 no_at:NoAttr K aC "at"
 no_closings:NoAttr K aC "closings"
 no_places:NoAttr K aC "places"
 no_rests:NoAttr K aC "rests"
 no_sums:NoAttr K aC "sums"
 mm_NoFilling:W.mroIn K cs.NoFilling (.ref cs.NoFilling)=some true
section
variable{P:Program}{K:W.Frag}{cs:Cs}{k:Nat}
local macro_rules | `(tactic| walk_at"s") => `(tactic| first
  | with_reducible refine WA ?_
  | with_reducible refine WR ?_
  | with_reducible refine Uq ?_
  | ((with_reducible refine GA (v := ?v) ?e ?_); (case e => exact rfl))
  | with_reducible refine s_c ?_
  | with_reducible refine Wl ?_
  | with_reducible refine Wn ?_
  | with_reducible refine Uj ?_
  | with_reducible refine CO ?_
  | with_reducible refine U9 ?_
  | with_reducible refine TK ?_
  | with_reducible refine S0 ?_
  | with_reducible refine V7 ?_
  | with_reducible refine s_try0 ?_
  | with_reducible refine U7 ?_
  | with_reducible refine WD ?_
  | with_reducible refine Wo ?_
  | with_reducible refine WB ?_
  | with_reducible refine WI ?_
  | with_reducible refine V6 ?_
  | with_reducible refine U5 ?_
  | with_reducible refine Up ?_
  | with_reducible refine U6 ?_
  | with_reducible refine s_break ?_
  | with_reducible refine U1 ?_
  | with_reducible refine TF ?_
  | with_reducible refine U0 ?_
  | with_reducible refine Wh ?_
  | with_reducible refine WE ?_
  | with_reducible refine WK ?_
  | with_reducible refine WT ?_
  | with_reducible refine Wk ?_
  | with_reducible refine WC ?_
  | with_reducible refine VB ?_
  | with_reducible refine s_orV ?_
  | with_reducible refine Uo ?_
  | with_reducible refine V8 ?_
  | with_reducible refine TJ ?_
  | with_reducible refine Ui ?_
  | with_reducible refine s_truN ?_
  | with_reducible refine VC ?_
  | with_reducible refine Ul ?_
  | with_reducible refine WO ?_
  | with_reducible refine WM ?_
  | with_reducible refine s_eqB ?_
  | with_reducible refine WG ?_
  | with_reducible refine WF ?_
  | with_reducible refine WH ?_
  | with_reducible refine WJ ?_
  | with_reducible refine RZ ?_
  | with_reducible refine Wi ?_
  | with_reducible refine Rb ?_
  | with_reducible refine Um ?_
  | with_reducible refine S3 ?_
  | with_reducible refine s_max ?_
  | with_reducible refine s_min ?_
  | with_reducible refine Uw ?_
  | with_reducible refine s_intI ?_
  | with_reducible refine Wp ?_
  | with_reducible refine WP ?_
  | with_reducible refine WL ?_
  | with_reducible refine S9 ?_
  | with_reducible refine s_irng2 ?_
  | with_reducible refine S8 ?_
  | with_reducible refine VA ?_
  | with_reducible refine TB ?_
  | with_reducible refine Uv ?_
  | with_reducible refine S6 ?_
  | with_reducible refine Ux ?_
  | with_reducible refine TC ?_
  | with_reducible refine Uy ?_
  | with_reducible refine U8 ?_
  | with_reducible refine s_rev ?_
  | with_reducible refine s_revI ?_
  | with_reducible refine s_irev ?_
  | with_reducible refine V5 ?_
  | ((with_reducible refine s_irevT ?e ?_); (case e => first | assumption | exact small (by lia)))
  | ((with_reducible refine s_revT ?e ?_); (case e => first | assumption | exact small (by lia)))
  | with_reducible refine V4 ?_
  | with_reducible refine Mm ?_
  | with_reducible refine s_dget ?_
  | with_reducible refine Uk ?_
  | with_reducible refine Sy ?_
  | with_reducible refine NR ?_
  | with_reducible refine s_sset ?_
  | with_reducible refine s_iziS ?_
  | with_reducible refine s_iziT ?_
  | with_reducible refine Us ?_
  | with_reducible refine Ut ?_
  | with_reducible refine U2 ?_
  | with_reducible refine U3 ?_
  | with_reducible refine U4 ?_
  | ((with_reducible refine WQ (x := ?x) ?e ?_); (case e => exact rfl))
  | with_reducible refine D4 ?_
  | ((with_reducible refine Wm ?e ?_); (case e => exact rfl))
  | ((with_reducible refine S7 ?e ?_); (case e => exact rfl))
  | ((with_reducible refine AN (xs := ?xs) (v := ?v) ?h ?e ?_); (case h => assumption); (case e => exact rfl))
  | ((with_reducible refine Wj ?e ?_); (case e => first | (exact (show (0 : Int) < _ by lia)) | (exact ⟨by lia, by lia⟩) | (exact ⟨by decide, by decide, by decide⟩)))
  | ((with_reducible refine Ur ?e ?_); (case e => first | exact .inl ⟨by lia, by lia⟩ | exact .inr ⟨by lia, by lia⟩))
  | ((with_reducible refine Iw ?e ?_); (case e => first | assumption | exact small (by lia)))
  | ((with_reducible refine DM ?e ?_); (case e => first | exact small (by lia) | exact small (by simp only [List.length_append, List.length_cons, List.length_nil]; lia)))
  | ((with_reducible refine V9 ?e ?_); (case e => first | assumption | exact small (by lia) | exact small (by simp only [List.length_append, List.length_cons, List.length_nil]; lia)))
  )
local macro_rules | `(tactic| ext) => `(tactic| repeat (walk_at"s"))
local macro_rules | `(tactic| show $e:term) => `(tactic| (ext;refine $e))
theorem scM(a:sc.kind= .function:=by rfl)(b:sc.isCoroutine=false:=by rfl)(c:sc.isGenerator=false:=by rfl)(d:N.Nodup:=by decide +kernel)(e:N.take ps.length=ps:=by rfl)(f:∀x∈ps,sc.names.lookup x=some .local\/sc.names.lookup x=some .cell:=by decide +kernel)(g:∀y∈sc.names,y.2≠ .free:=by decide +kernel):FnScope N ps sc:=⟨a,b,c,d,e,f,g⟩
theorem PY:FnScope ["thing"] ["thing"] (AK HB):=scM
theorem Pj(F:Fun K "is_whole" "is_whole" HB f fd)(T:Txt K mg aK cs aC):FnOk P w K mg base CX0 (k+1) f fd ["thing"] (DG K):=by
 refine F.ok PY (λvs H Q E h=>?_) (λcdv A outer s H vs Q E hr h=>?_)
 ·obtain⟨x,T',rfl,_⟩:=h;rfl
 obtain⟨x,ty,rfl,hT,hp,q⟩:=h;refine⟨_,(AF (AR (Er (Ae (ES K) rfl T.n_isinstance PyProof.Rows.boot_isinstance (AA (pv 0) (AA (E3 T.n_int PyProof.Rows.boot_int) AB))) (Eo (VO (Ae (ES K) rfl T.n_isinstance PyProof.Rows.boot_isinstance (AA (pv 0) (AA (E3 T.n_bool PyProof.Rows.boot_bool) AB)))))))),?_⟩;ext;have hp':ty="NoneType"\/ty="bool"\/ty="int"\/ty="str"\/ty="list"\/ty="tuple"\/ty="dict":=by simpa[B6]using hp
 rcases hp' with rfl|rfl|rfl|rfl|rfl|rfl|rfl
 ·refine BE (b:=false) hT (by with_unfolding_all rfl) (CO (EF ?_));exact q
 ·refine BE (b:=true) hT (by with_unfolding_all rfl) (CO (EE ?_));show BE (b:=true) hT (by with_unfolding_all rfl) (CO ?_);exact q
 ·refine BE (b:=true) hT (by with_unfolding_all rfl) (CO (EE ?_));show BE (b:=false) hT (by with_unfolding_all rfl) (CO ?_);exact q
 ·refine BE (b:=false) hT (by with_unfolding_all rfl) (CO (EF ?_));exact q
 ·refine BE (b:=false) hT (by with_unfolding_all rfl) (CO (EF ?_));exact q
 ·refine BE (b:=false) hT (by with_unfolding_all rfl) (CO (EF ?_));exact q
 ·refine BE (b:=false) hT (by with_unfolding_all rfl) (CO (EF ?_));exact q
theorem Os:FnScope ["k"] ["k"] (AK Gj):=scM
theorem Oy(F:Fun K "check_kinds" "check_kinds" Gj f fd)(T:Txt K mg aK cs aC)(uj:FnU P w K mg base k "is_whole" ["thing"] (DG K)):FnOk P w K mg base (CXE P w) (k+1) f fd ["k"] (K5 K cs):=by
 refine F.okE Os (λvs H Q E h=>?_) (λcdv A outer s H vs Q E hr h=>?_)
 ·rcases h with⟨x,rfl,_⟩|⟨v,rfl,_⟩<;>rfl
 refine⟨_,(AF (Ac (PW.pt (Bf (Be (BU K (AV uj hr (AA (pv 0) AB)))) (Bo (Be (Hi GD GD AC (pv 0) (Ae (Ar K) rfl T.n_len PySem.boot_len (AA (BK T.g_KINDS) AB))))))) (AF (CT T.e_NoKinds T.c_NoKinds hr.hd Ce (AA (Ap (l:=[116,104,101,32,110,117,109,98,101,114,32,111,102,32,107,105,110,100,115,32,105,115,32,97,32,119,104,111,108,101,32,110,117,109,98,101,114,32,102,114,111,109,32,49,32,116,111,32,52]) (by decide +kernel)) AB))) Ad)),?_⟩;rcases h with⟨x,rfl,h1,h2,q⟩|⟨v,rfl,⟨ty,hT,hp,hi⟩,r⟩
 ·show HE ?_;show ifq rfl ?_;show ifp (decide_eq_true h1) ?_;show BA (.inr (T.t_KINDS H)) ?_;show ifq (by simp;lia) ?_;ext;exact q
 ·show⟨v,ty,rfl,hT,hp,?_⟩;ext
  by_cases e:ty="int"
  ·subst e;obtain⟨i,rfl⟩:=hT.int_of rfl
   ·have hi:=hi i rfl;rw[decide_eq_true rfl];refine ifq rfl ?_;ext
    by_cases h1:1<=i
    ·refine ifp (decide_eq_true h1) ?_;show BA (.inr (T.t_KINDS H)) ?_;show ifp (by simp;lia) ?_;ext;exact⟨small (by decide),λy hy=>r y H (Same.refl H) hy⟩
    ·refine ifq (decide_eq_false h1) ?_;show ifp rfl ?_;ext;exact⟨small (by decide),λy hy=>r y H (Same.refl H) hy⟩
  ·rw[decide_eq_false e];refine ifp rfl ?_;show ifp rfl ?_;ext;exact⟨small (by decide),λy hy=>r y H (Same.refl H) hy⟩
theorem yw:FnScope ["k","thing","signs"] ["k","thing"] (AK FT):=scM
theorem QG(F:Fun K "is_line" "is_line" FT f fd)(T:Txt K mg aK cs aC)(y8:FnUE P w K mg base k "check_kinds" ["k"] (K5 K cs)):FnOk P w K mg base (CXE P w) (k+1) f fd ["k","thing"] (II K cs):=by
 refine F.okE yw (λvs H Q E h=>?_) (λcdv A outer s H vs Q E hr h=>?_)
 ·rcases h with⟨kk,x,rfl,_⟩|⟨kv,v,rfl,_⟩<;>rfl
 refine⟨_,(AD (Al (AZ y8 hr BJ (AA (pv 0) AB))) (AD (Ac (PW.pt (Bf (Be (BU K (Ae (ES K) rfl T.n_isinstance PyProof.Rows.boot_isinstance (AA (pv 1) (AA (E3 T.n_str PyProof.Rows.boot_str) AB))))) (Bo (AW DT (Ae (Ar K) rfl T.n_len PySem.boot_len (AA (pv 1) AB)) (BK T.g_MOST_SIGNS) (AS _))))) (AF (AR Cg)) Ad) (AD (AO (i:=2) yw.nd rfl (Or.inr rfl) (AG AX (AG AX (Bw (B1 K) (BK T.g_OPENING) B5 (Bl (pv 0))) (Bw (B1 K) (BK T.g_CLOSING) B5 (Bl (pv 0)))) (BK T.g_UNKNOWN))) (AF (AR (Ae (Kr K rfl) rfl T.n_all PyProof.Rows.boot_all (AA (Bb (own:=["sign"]) (sel:=[2]) (A4 (osc:=(AK FT)) (N:=["k","thing","signs"]) (by decide +kernel)) rfl (F3 (pv 1)) (λ_ _ _ _ _=>(AU (i:=0) (show(["sign","signs"]:List Str).Nodup from by decide +kernel) rfl (Or.inl rfl))) (Ak (by decide)) (λ_ _ _ _ _=>BQ) (λ_ _ _ _ _=>(BG (DN K) (pv 0) (pv 1) (by with_unfolding_all rfl)))) AB))))))),?_⟩;rcases h with⟨kk,x,rfl,h1,h2,hx⟩|⟨kv,v,rfl,hk,r⟩
 rotate_left
 ·ext;exact .inr ⟨kv,rfl,hk,r.pass (Same.refl H)⟩
 ·show .inl (Q3 h1 h2 ?_);ext;rcases hx with⟨a,rfl,ha,q⟩|⟨ty,hT,hp,hs,q⟩
  ·refine BE (b:=true) (TyOf.str _) (by with_unfolding_all rfl) ?_;show ifq rfl ?_;show ifd (λhc=>?_) (λhc=>?_)
   ·ext;have e:Ab kk a=false:=by unfold Ab;rw[decide_eq_false (by lia),Bool.false_and]
    have:=q H (Same.refl H);rw[e]at this;exact this
   ·ext;rw[CL _ (by lia),CL _ (by lia)];have l1:((([40,91,123,60]:List Nat)).take kk.toNat).length<=4:=by rw[List.length_take];exact Nat.min_le_right _ _
    have l2:((([41,93,125,62]:List Nat)).take kk.toNat).length<=4:=by rw[List.length_take];exact Nat.min_le_right _ _
    first|refine DM (small (by lia)) ?_ |skip
    ext
    first|refine DM (small (by rw[List.length_append,List.length_singleton];lia)) ?_ |skip
    show DK (n:=a.length) (λD i ys H'=>ys=((a.take i).map λc=>V.bl (decide (c∈sgn kk)))/\SameBut1 D H H') (λD hD=>⟨rfl,SameBut1.of (AL hD _)⟩) (λD i ys H' _ hi _ _=>by simpa[Its]using hi) (λD ys H' hD hD' hl ⟨e,sH⟩=>⟨by simp[Its],?_⟩) ?_
    ·rw[List.take_length]at e;subst e;have hS:SqL K H' D ((a.map λc=>decide (c∈sgn kk)).map V.bl):=by
      rw[List.map_map];exact SqL.of hD'
     refine JU hS ?_;have e2:((a.map λc=>decide (c∈sgn kk)).all id)=Ab kk a:=by
      unfold Ab;rw[decide_eq_true (by lia),Bool.true_and,List.all_map]
      rfl
     rw[e2];exact q H' λb o z=>sH b o z (AT z hD)
    ·rintro D i ys H' x H3 hD hi hD' hl ⟨e,sH⟩ ⟨rfl,c,ec,rfl⟩;have ec':a[i]? =some c:=by simpa using ec
     show BY 0 (tx [c]) _ _ _;show EE ?_;show De hi (small (by lia)) hD' hl ⟨?_,sH.trans SameBut1.upd⟩;rw[e,List.take_add_one,ec'];simp only[Option.toList_some,List.map_append,List.map_cons,List.map_nil]
     rfl
  ·have hp':ty="NoneType"\/ty="bool"\/ty="int"\/ty="list"\/ty="tuple"\/ty="dict":=by
    have:ty="NoneType"\/ty="bool"\/ty="int"\/ty="str"\/ty="list"\/ty="tuple"\/ty="dict":=by simpa[B6]using hp
    rcases this with z|z|z|z|z|z|z
    ·exact .inl z
    ·exact .inr (.inl z)
    ·exact .inr (.inr (.inl z))
    ·exact absurd z hs
    ·exact .inr (.inr (.inr (.inl z)))
    ·exact .inr (.inr (.inr (.inr (.inl z))))
    ·exact .inr (.inr (.inr (.inr (.inr z))))
   have fin:W.kitOne K (.type ty) (.type "str")=some false:=by
    rcases hp' with rfl|rfl|rfl|rfl|rfl|rfl<;>with_unfolding_all rfl
   refine BE (b:=false) hT fin ?_;show ifp rfl ?_;show ifp rfl ?_;ext;exact q
theorem O5:FnScope ["k","row"] ["k","row"] (AK Gn):=scM
theorem O8(F:Fun K "check_line" "check_line" Gn f fd)(T:Txt K mg aK cs aC)(yn:FnUE P w K mg base k "is_line" ["k","thing"] (II K cs)):FnOk P w K mg base (CXE P w) (k+1) f fd ["k","row"] (BP K cs CQ):=by
 refine F.okE O5 (λvs H Q E h=>?_) (λcdv A outer s H vs Q E hr h=>?_)
 ·rcases h with⟨kk,a,rfl,_⟩|⟨kv,v,rfl,_⟩<;>rfl
 refine⟨_,(AF (Ac (Be (BU K (AZ yn hr BJ (AA (pv 0) (AA (pv 1) AB))))) (AF (CT T.e_NoLine T.c_NoLine hr.hd Ce (AA (Ap (l:=[97,32,114,111,119,32,105,115,32,97,32,116,101,120,116,32,111,102,32,97,116,32,109,111,115,116,32,102,111,114,116,121,32,98,114,97,99,107,101,116,115,32,111,102,32,116,104,101,32,107,105,110,100,115,32,116,104,101,114,101,32,97,114,101,44,32,97,110,100,32,63]) (by decide +kernel)) AB))) Ad)),?_⟩;rcases h with⟨kk,a,rfl,h1,h2,ha,q⟩|⟨kv,v,rfl,⟨hk,r⟩|⟨kk,rfl,h1,h2,hn,r⟩⟩
 ·have hl:=Az ha;show .inl (R9 h1 h2 (by lia) (λH' sH=>?_));show ifq (by rw[ha];rfl) ?_;ext;exact q H' sH
 ·ext;exact .inr ⟨kv,v,rfl,hk,r.pass (Same.refl H)⟩
 ·show QH h1 h2 hn (λH1 s1=>?_);show ifp rfl ?_;ext;exact⟨small (by decide),λy hy=>r y H1 s1 (s1.free hy)⟩
theorem Oq:FnScope ["row","i"] ["row","i"] (AK Gi):=scM
theorem Ox(F:Fun K "check_place" "check_place" Gi f fd)(T:Txt K mg aK cs aC)(uj:FnU P w K mg base k "is_whole" ["thing"] (DG K)):FnOk P w K mg base (CXE P w) (k+1) f fd ["row","i"] (Hc K cs):=by
 refine F.okE Oq (λvs H Q E h=>?_) (λcdv A outer s H vs Q E hr h=>?_)
 ·obtain⟨a,v,rfl,_⟩:=h;rfl
 refine⟨_,(AF (Ac (PW.pt (Bf (Be (BU K (AV uj hr (AA (pv 1) AB)))) (Bo (Be (Hi GD D5 AC (pv 1) (Ae (Ar K) rfl T.n_len PySem.boot_len (AA (pv 0) AB))))))) (AF (CT T.e_NoPlace T.c_NoPlace hr.hd Ce (AA (Ap (l:=[97,32,112,108,97,99,101,32,105,115,32,97,32,119,104,111,108,101,32,110,117,109,98,101,114,32,102,114,111,109,32,48,32,111,110,44,32,98,101,108,111,119,32,116,104,101,32,108,101,110,103,116,104,32,111,102,32,116,104,101,32,114,111,119]) (by decide +kernel)) AB))) Ad)),?_⟩;obtain⟨a,v,rfl,hl,⟨i,rfl,h0,h1,q⟩|⟨⟨ty,hT,hp,hi⟩,r⟩⟩:=h
 ·show HE ?_;show ifq rfl ?_;show ifp (decide_eq_true h0) ?_;show ifq (by simp;lia) ?_;ext;exact q
 ·show⟨v,ty,rfl,hT,hp,?_⟩;ext
  by_cases e:ty="int"
  ·subst e;obtain⟨i,rfl⟩:=hT.int_of rfl;have hi:=hi i rfl;rw[decide_eq_true rfl];refine ifq rfl ?_;ext
   by_cases h1:0<=i
   ·refine ifp (decide_eq_true h1) ?_;show ifp (by simp;lia) ?_;ext;exact⟨small (by decide),λy hy=>r y H (Same.refl H) hy⟩
   ·refine ifq (decide_eq_false h1) ?_;show ifp rfl ?_;ext;exact⟨small (by decide),λy hy=>r y H (Same.refl H) hy⟩
  ·rw[decide_eq_false e];refine ifp rfl ?_;show ifp rfl ?_;ext;exact⟨small (by decide),λy hy=>r y H (Same.refl H) hy⟩
theorem uJ:FnScope ["row","found","waiting","at","sign","start"] ["row"] (AK HP):=scM
theorem QE(F:Fun K "matched" "matched" HP f fd)(T:Txt K mg aK cs aC):FnOk P w K mg base CX0 (k+1) f fd ["row"] (HI):=by
 refine F.ok uJ (λvs H Q E h=>?_) (λcdv A outer s H vs Q E hr h=>?_)
 ·obtain⟨a,rfl,_⟩:=h;rfl
 obtain⟨a,rfl,ha,q,q'⟩:=h;have hu:=hr.units0;refine⟨_,(AD (AO (i:=1) uJ.nd rfl (Or.inl rfl) (AG Ax (Am (AA AC AB)) (Ae (Ar K) rfl T.n_len PySem.boot_len (AA (pv 0) AB)))) (AD (AO (i:=2) uJ.nd rfl (Or.inl rfl) (Am AB)) (AD (A2 PassesOwn.never rfl (Rq rfl T.n_enumerate (AA (pv 0) AB)) (By (n:=2) K rfl (Aj (AU (i:=3) uJ.nd rfl (Or.inl rfl)) (Aj (AU (i:=4) uJ.nd rfl (Or.inl rfl)) Bm))) (AD (Ac (AW (DN K) (pv 4) (BK T.g_OPENING) (by with_unfolding_all rfl)) (AD (Al (Bp K PySem.F.plainAttrs_list PySem.F.slot_list_append PySem.F.type_list_append CI (pv 2) (AA (pv 3) AB))) (AF Pc)) Ad) (AD (Ac (PW.pt (Bf (Be (BU K (pv 2))) (Bo (AW (Kb K) (AG AX (AH (AI K) (pv 0) (AH (AI K) (pv 2) (CC B7 AC) (λ_ _=>rfl)) (λ_ _=>rfl)) (pv 4)) (BK T.g_KINDS) (by with_unfolding_all rfl))))) (AF (AR A6)) Ad) (AD (AO (i:=5) uJ.nd rfl (Or.inl rfl) (Fk K PySem.F.plainAttrs_list PySem.F.slot_list_pop PySem.F.type_list_pop F4 (pv 2))) (AD (BV (pv 3) (CK (pv 1) (pv 5) BO)) (AF (BV (pv 5) (CK (pv 1) (pv 3) BO)))))))) (AF (AR (EU (BU K (pv 2)) A6 (pv 1))))))),?_⟩;show⟨small (show 1<=1000 by decide),λp0 hp0=>?_⟩;show DS AJ (by lia) (by lia) (small (by simp;lia)) (λfo hfo=>?_);rw[Int.toNat_natCast,WZ];show⟨small (show 0<=1000 by decide),λwa hwa=>?_⟩;ext;have sH:Same H (upd (upd (upd H p0 (.lst [.int 0])) fo (.lst (List.replicate a.length (V.int 0)))) wa (.lst [])):=(AL hp0 _).trans ((AL hfo _).trans (AL hwa _));have hfw:fo≠wa:=AT AJ hwa;have hHf:H fo=none:=(AL hp0 _).free hfo;have hHw:H wa=none:=(AL hp0 _).free ((AL hfo _).free hwa);refine UR (λi σ H'=>∃ (st ws:List Nat) (xs:List V) (o3 o4 o5:Option V),σ=[some (tx a),some (.ref fo),some (.ref wa),o3,o4,o5]/\MI a i st ws xs/\H' fo=some (.lst xs)/\H' wa=some (.lst (ws.reverse.map fun(w:Nat)=>V.int w))/\Same H H') ⟨[],[],List.replicate a.length (V.int 0),_,_,_,rfl,MI.start a (by simp),?_,AJ,sH⟩ ?_ ?_
 ·rw[AE hfw,AJ]
 ·rintro i c σ H1 tt hc ht ⟨st,ws,xs,o3,o4,o5,rfl,m,hf1,hw1,s1⟩;have hi:i<a.length:=(List.getElem?_eq_some_iff.mp hc).1;have s2:Same H1 (upd H1 tt (.tup [.int i,tx [c]])):=AL ht _;have hf2:=s2 _ _ hf1;have hw2:=s2 _ _ hw1;have hwl:ws.length<=40:=by
   have e1:=m.wk.len;have e2:=Jc m.rn;have:∀l:List Nat,hg l<=l.length:=by
    intro l
    induction l with
    |nil=>simp[hg]
    |cons d r ih=>rw[hg,List.length_cons];unfold sg;split<;>lia
   have e3:=this (a.take i);unfold BrM.ht at e2;rw[List.length_take]at e3;lia
  refine Uz (SqT.of AJ) rfl ?_;show ifd (λho=>?_) (λho=>?_)
  ·show⟨.inl ⟨rfl,_,SqL.of hw2⟩,?_⟩;show⟨wa,_, .int i,rfl,rfl,hw2,DD (by simp;lia),?_⟩;show⟨_,i::ws,xs,_,_,_,rfl,m.opens hc ho,?_,?_,?_⟩
   ·rw[AE hfw];exact hf2
   ·rw[AJ];simp
   ·intro b o z;rw[AE (AT z hHw)];exact s2 b o (s1 b o z)
  ·show Iu (SqL.of hw2) ?_;have ho:c∉opn:=ho;have hne:∀ (hn:¬ (∃w wr r,ws=w::wr/\st=c::r)),¬Rt a:=by
    intro hn hR;obtain⟨s',e⟩:=Rf hR (i+1);rw[Hg m.rn hc]at e;unfold BrM.stp at e;rw[if_neg ho]at e
    cases st with
    |nil=>cases e
    |cons d r=>
     simp only at e
     split at e
     ·rename_i hd
      cases ws with
      |nil=>have:=m.wk.len;simp at this
      |cons w wr=>exact hn ⟨w,wr,r,rfl,by rw[hd]⟩
     ·cases e
   cases ws with
   |nil=>
    refine ifp rfl ?_;ext;exact q' (hne (by rintro⟨_,_,_,z,_⟩;cases z)) _ (s1.trans s2)
   |cons w wr=>
    refine ifq (by simp) ?_;obtain⟨cw,r,hcw,hcwo,rfl,hwi⟩:=m.top;have hwa':w<a.length:=by lia
    have elast:((w::wr).reverse.map fun(w:Nat)=>V.int w)=(wr.reverse.map fun(w:Nat)=>V.int w)++[V.int w]:=by simp
    have hl2:atI ((w::wr).reverse.map fun(w:Nat)=>V.int w) (-1)=some (.int w):=by rw[elast];exact Lf _ _
    walk_at"s";walk_at"s";walk_at"s";walk_at"s";walk_at"s";walk_at"s";show AN (SqL.of hw2) hl2 ?_;refine BD (small (by lia)) (AM hcw) ?_;show Ra (.inr (T.t_KINDS _)) rfl rfl ?_;have ek:inV (tx ([cw]++[c])) [tx [40,41],tx [91,93],tx [123,125],tx [60,62]]=decide (c=clo cw):=SF hcwo;rw[ek];show ifn (λhcc=>?_) (λhcc=>?_)
    ·ext;exact q' (hne (by rintro⟨_,_,_,_,z⟩;injection z with z _;exact hcc z.symm)) _ (s1.trans s2)
    ·show⟨.inl ⟨rfl,_,SqL.of hw2⟩,?_⟩;refine⟨wa,_, .int w,rfl,rfl,hw2,?_,?_⟩
     ·rw[elast];simp
     ·ext;have hf3:(upd (upd H1 tt (.tup [.int i,tx [c]])) wa (.lst ((w::wr).reverse.map fun(w:Nat)=>V.int w).dropLast)) fo=some (.lst xs):=by rw[AE hfw];exact hf2
      have hxl:=m.len;refine BS (j:=w) hf3 (by simp[ixN];lia) ?_;show BS (j:=i) AJ (by simp[ixN];lia) ?_;show⟨r,wr,_,_,_,_,rfl,MI.closes (c:=c) (by rw[hcc];exact m) hc ho,AJ,?_,?_⟩
      ·rw[AE hfw.symm,AE hfw.symm,AJ,elast];simp
      ·intro b o z;rw[AE (AT z hHf),AE (AT z hHf),AE (AT z hHw)];exact s2 b o (s1 b o z)
 ·rintro σ H1 ⟨st,ws,xs,o3,o4,o5,rfl,m,hf1,hw1,s1⟩;have hrun:=m.rn;rw[List.take_length]at hrun;show Iu (SqL.of hw1) ?_;have hl:=m.wk.len
  cases ws with
  |nil=>
   refine ifq rfl ?_;ext
   cases st with
   |nil=>exact q hrun fo xs H1 hHf s1 hf1 m.fin
   |cons d r=>simp at hl
  |cons w wr=>
   refine ifp (by simp) ?_;show q' (λhR=>?_) H1 s1;have hR':run [] a=some []:=hR;rw[hrun]at hR'
   cases hR'
   simp at hl
theorem yu:FnScope ["k","row","found"] ["k","row"] (AK Gz):=scM
theorem Pd(F:Fun K "partners" "partners" Gz f fd)(T:Txt K mg aK cs aC)(u4:FnUE P w K mg base k "check_line" ["k","row"] (BP K cs CQ))(yo:FnU P w K mg base k "matched" ["row"] (HI)):FnOk P w K mg base (CXE P w) (k+1) f fd ["k","row"] (Jy K cs):=by
 refine F.okE yu (λvs H Q E h=>?_) (λcdv A outer s H vs Q E hr h=>?_)
 ·obtain⟨kv,v,rfl,_⟩:=h;rfl
 refine⟨_,(AD (Al (AZ u4 hr BJ (AA (pv 0) (AA (pv 1) AB)))) (AD (AO (i:=2) yu.nd rfl (Or.inl rfl) (AV yo hr (AA (pv 1) AB))) (AD (Ac (AW Cd (pv 2) A6 (AS _)) (AF (CT T.e_NotRight T.c_NotRight hr.hd Ce (AA (Ap (l:=[116,104,101,32,114,111,119,32,105,115,32,110,111,116,32,114,105,103,104,116]) (by decide +kernel)) AB))) Ad) (AF (AR (pv 2)))))),?_⟩;obtain⟨kv,v,rfl,g|⟨kk,a,rfl,rfl,h1,h2,ha,⟨hR,q⟩|⟨hn,r⟩⟩⟩:=h
 ·ext;exact .inr ⟨kv,v,rfl,g.pass (Same.refl H)⟩
 ·have hl:=Az ha;show .inl (Bh h1 h2 ha (λH1 s1=>?_));show J2 hl (λ_ r xs H2 hr2 s2 hx hP=>?_) (λhn=>absurd hR hn);show ifq rfl ?_;ext;exact q r xs H2 (s1.free hr2) (s1.trans s2) hx hP
 ·have hl:=Az ha;show .inl (Bh h1 h2 ha (λH1 s1=>?_));show J2 hl (λhR=>absurd hR hn) (λ_ H2 s2=>?_);show ifp rfl ?_;ext;exact⟨small (by decide),λy hy=>r y H2 (s1.trans s2) ((s1.trans s2).free hy)⟩
theorem OP:FnScope ["row","weights"] ["row","weights"] (AK EJ):=scM
theorem OT(F:Fun K "weighed_places" "weighed_places" EJ f fd)(T:Txt K mg aK cs aC):FnOk P w K mg base CX0 (k+1) f fd ["row","weights"] (FN K):=by
 refine F.ok OP (λvs H Q E h=>?_) (λcdv A outer s H vs Q E hr h=>?_)
 ·obtain⟨a,p,w',rfl,_⟩:=h;rfl
 obtain⟨a,p,w',rfl,ha,hp,hw,q⟩:=h;have hu:=hr.units0;refine⟨_,(AF (AR (Ry (own:=["sign"]) (sel:=[1]) (QR (osc:=(AK EJ)) (N:=["row","weights"]) (by decide +kernel)) rfl (F3 (pv 0)) (λ_ _ _ _ _=>(AU (i:=0) (show(["sign","weights"]:List Str).Nodup from by decide +kernel) rfl (Or.inr rfl))) (Ak (by decide)) (λ_ _ _ _ _=>BQ) (λ_ _ _ _ _=>(EU (AW (A3 K hu) (pv 0) (BK T.g_UNKNOWN) (AS _)) (EN (QU K) rfl T.n_list PyProof.Rows.boot_list (AA (pv 1) AB)) (Bb (own:=["bracket"]) (sel:=[0]) (SX (osc:=(AK EJ)) (N:=["sign","weights"]) rfl rfl (by decide +kernel)) rfl (F3 (Bw (B1 K) (BK T.g_BRACKETS) B5 (Bl (Ae (Ar K) rfl T.n_len PySem.boot_len (AA (pv 1) AB))))) (λ_ _ _ _ _=>(AU (i:=0) (show(["bracket","sign"]:List Str).Nodup from by decide +kernel) rfl (Or.inl rfl))) (Ak (by decide)) (λ_ _ _ _ _=>BQ) (λ_ _ _ _ _=>(EN HR rfl T.n_int PyProof.Rows.boot_int (AA (BG (A3 K hu) (pv 1) (pv 0) (AS _)) AB))))))))),?_⟩;show Lh (small (by lia)) (λD i ys H'=>∃ad:Nat->Addr,ys=(List.range i).map (λj=>V.ref (ad j))/\∀j,j<i->H' (ad j)=some (iL (plw w' (a.getD j 0)))/\ad j≠D)
  (λD _=>⟨λ_=>D,rfl,λj hj=>absurd hj (by lia)⟩) (λD i ys H1 H2 _ ⟨ad,e,h1⟩ s12=>⟨ad,e,λj hj=>⟨s12 _ _ (h1 j hj).1 (h1 j hj).2,(h1 j hj).2⟩⟩)
  (λD ys H' hD hy _ sH ⟨ad,e,h1⟩=>?_) ?_
 ·subst e;refine q D H' hD sH ⟨ad,by rw[List.length_map];exact hy,λi hi=>?_⟩;rw[List.length_map]at hi;have eg:(a.map (plw w')).getD i []=plw w' (a.getD i 0):=by
   simp only[List.getD_eq_getElem?_getD,List.getElem?_map,List.getElem?_eq_getElem hi];rfl
  rw[eg];exact(h1 i hi).1
 ·rintro D i ys H' R hD hi hy hl sH ⟨ad,e,h1⟩ r;have fin:∀l H6,H' l=none->Same H' H6->H6 l=some (iL (plw w' (a.getD i 0)))->R (.ref l) H6:=by
   intro l H6 hl' s6 h6;have hlD:l≠D:=λz=>by rw[z,hy]at hl';cases hl'
   refine r _ _ s6 ⟨λj=>if j=i then l else ad j,?_,λj hj=>?_⟩
   ·subst e;rw[List.range_succ,List.map_append];congr 1
    ·refine List.map_congr_left λj hj=>?_;have:=List.mem_range.mp hj;show V.ref (ad j)=V.ref (if j=i then l else ad j);rw[if_neg (by lia)]
    ·simp
   ·by_cases ej:j=i
    ·subst ej;simp only[if_true];exact⟨h6,hlD⟩
    ·simp only[if_neg ej];obtain⟨a1,a2⟩:=h1 j (by lia);exact⟨s6 _ _ a1,a2⟩
  show ifd (λhc=>?_) (λhc=>?_)
  ·show S5 (sH.seq hp) (λl hl'=>?_);refine fin l _ hl' (AL hl' _) ?_;have e63:a.getD i 0=63:=by simpa using hc
   rw[AJ];unfold plw;rw[if_pos e63]
  ·have n63:¬ (a.getD i 0=63):=by simpa using hc
   show BA (.inl (sH.seq hp)) ?_;ext;have el:(((w'.map V.int).length:Nat):Int)=(w'.length:Int):=by rw[List.length_map]
   rw[el,CL _ (by lia),Int.toNat_natCast];show RR (λb=> .int (if a.getD i 0=b then 1 else 0)) (small (by rw[List.length_take];exact Nat.le_trans (Nat.min_le_right _ _) (by decide))) (λD2 H2 hD2 s2 h2=>?_) (λi2 c H2 R2 hc2 s2 r2=>?_)
   ·refine fin D2 H2 hD2 s2 ?_;rw[h2];unfold plw;rw[if_neg n63];show some (HO.lst _)=some (HO.lst (List.map V.int (List.map _ _)));rw[List.map_map]
    rfl
   ·ext;have eb:(if(decide ([a.getD i 0]=[c]))=true then(1:Int)else 0)=if a.getD i 0=c then 1 else 0:=by
     by_cases z:a.getD i 0=c<;>simp[z]
    rw[eb];exact r2 H2 (Same.refl _)
theorem OQ:FnScope ["k","row"] ["k","row"] (AK GZ):=scM
theorem OW(F:Fun K "counted_places" "counted_places" GZ f fd)(T:Txt K mg aK cs aC)(uq:FnU P w K mg base k "weighed_places" ["row","weights"] (FN K)):FnOk P w K mg base CX0 (k+1) f fd ["k","row"] (EL):=by
 refine F.ok OQ (λvs H Q E h=>?_) (λcdv A outer s H vs Q E hr h=>?_)
 ·obtain⟨kk,a,rfl,_⟩:=h;rfl
 obtain⟨kk,a,rfl,h1,h2,ha,q⟩:=h;refine⟨_,(AF (AR (AV uq hr (AA (pv 1) (AA (AG Ax (Am (AA AC AB)) (AG Ax AC (pv 0))) AB))))),?_⟩;show⟨small (show 1<=1000 by decide),λz hz=>?_⟩;ext;have e2:(2*kk).toNat=2*kk.toNat:=by lia
 refine DS (xs:=[.int 1]) AJ (by lia) (by lia) (small (by rw[List.length_singleton,e2];lia)) (λp hp=>?_);ext;have ew:(List.replicate (2*kk).toNat [V.int 1]).flatten=(ones kk.toNat).map V.int:=by rw[e2,Hh]
 rw[ew]at*
 have sp:Same H (upd (upd H z (.lst [.int 1])) p (.lst ((ones kk.toNat).map V.int))):=(AL hz _).trans (AL hp _);refine Jw ha (SqL.of AJ) (by rw[List.length_replicate];lia) (λr H' hr' sH hP=>?_);exact q r H' (sp.free hr') (sp.trans sH) hP
theorem PV:FnScope ["first","last"] ["first","last"] (AK FL):=scM
theorem Pe(F:Fun K "pair_sum" "pair_sum" FL f fd)(T:Txt K mg aK cs aC):FnOk P w K mg base CX0 (k+1) f fd ["first","last"] (Eh):=by
 refine F.ok PV (λvs H Q E h=>?_) (λcdv A outer s H vs Q E hr h=>?_)
 ·obtain⟨p,q,x,y,kk,rfl,_⟩:=h;rfl
 obtain⟨p,q,x,y,kk,rfl,hp,hq,lx,ly,hk,sx,sy,r⟩:=h;have hu:=hr.units0;refine⟨_,(AF (AR (Ae (Kq K rfl) rfl T.n_sum PyProof.Rows.boot_sum (AA (Bb (own:=["opening"]) (sel:=[0,1]) (A4 (osc:=(AK FL)) (N:=["first","last"]) (by decide +kernel)) rfl (Bi rfl T.n_range (AA AC (AA (Ae (Ar K) rfl T.n_len PySem.boot_len (AA (pv 0) AB)) (AA AC AB)))) (λ_ _ _ _ _=>(AU (i:=0) (show(["opening","first","last"]:List Str).Nodup from by decide +kernel) rfl (Or.inl rfl))) (Ak (by decide)) (λ_ _ _ _ _=>BQ) (λ_ _ _ _ _=>(AG Av (AH (AI K) (pv 1) (pv 0) (λ_ _=>rfl)) (AH (AI K) (pv 2) (AG AX (pv 0) AC) (λ_ _=>rfl))))) AB)))),?_⟩;show BA (.inl (SqL.of hp)) ?_;ext;have el:(((x.map V.int).length:Nat):Int)=((2*kk:Nat):Int):=by rw[List.length_map,lx]
 rw[el];refine⟨0,((2*kk:Nat):Int),2,rfl,⟨by decide,by decide,B3 (by decide) (by decide) (by lia) (by lia)⟩,?_⟩;have er:rN 0 ((2*kk:Nat):Int) 2=kk:=by rw[CA];lia
 rw[er];refine KO (λi=> .int (x.getD (2*i) 0*y.getD (2*i+1) 0)) (small (by lia)) (λD H' hD sH hy=>?_) (λi H' R hi sH r'=>?_)
 ·have ns:SqL K H' D (((List.range kk).map λi=>x.getD (2*i) 0*y.getD (2*i+1) 0).map V.int):=by rw[List.map_map];exact SqL.of hy
  refine NQ ns ?_;rw[HG];exact r H' sH
 ·ext;have e1:(0+((i:Nat):Int)*2)=((2*i:Nat):Int):=by lia
  rw[e1];refine AN (SqL.of (sH _ _ hp)) (v:= .int (x.getD (2*i) 0)) (AM (int_at (by lia))) ?_;ext;have e2:(((2*i:Nat):Int)+1)=((2*i+1:Nat):Int):=by lia
  rw[e2];refine AN (SqL.of (sH _ _ hq)) (v:= .int (y.getD (2*i+1) 0)) (AM (int_at (by lia))) ?_;refine Aw (An (sx.at _).1 (sx.at _).2 DF) (An (sy.at _).1 (sy.at _).2 DF) ?_;exact r' H' (Same.refl _)
theorem P6:FnScope ["many"] ["many"] (AK FR):=scM
theorem QD(F:Fun K "no_sums" "no_sums" FR f fd)(T:Txt K mg aK cs aC):FnOk P w K mg base CX0 (k+1) f fd ["many"] (FW):=by
 refine F.ok P6 (λvs H Q E h=>?_) (λcdv A outer s H vs Q E hr h=>?_)
 ·obtain⟨n,rfl,_⟩:=h;rfl
 obtain⟨n,rfl,hn,q⟩:=h;have hu:=hr.units0;refine⟨_,(AF (AR (Bb (own:=["start"]) (sel:=[0]) (A4 (osc:=(AK FR)) (N:=["many"]) (by decide +kernel)) rfl (CH rfl T.n_range (AA (AG AX (pv 0) AC) AB)) (λ_ _ _ _ _=>(AU (i:=0) (show(["start","many"]:List Str).Nodup from by decide +kernel) rfl (Or.inl rfl))) (Ak (by decide)) (λ_ _ _ _ _=>BQ) (λ_ _ _ _ _=>(AG Ax (Am (AA AC AB)) (AG AX (pv 1) AC)))))),?_⟩;show⟨_,rfl,by lia,by lia,?_⟩;have en:((n:Int)+1).toNat=n+1:=by lia
 rw[en];refine ID (small (by lia)) (λD i ys H'=>∃ad:Nat->Addr,ys=(List.range i).map (λj=>V.ref (ad j))/\(∀j,j<i->H' (ad j)=some (.lst (rwl n λ_=>0))/\H (ad j)=none/\ad j≠D)/\∀j j',j<i->j'<i->ad j=ad j'->j=j')
  (λD _=>⟨λ_=>D,rfl,λj hj=>absurd hj (by lia),λj _ hj=>absurd hj (by lia)⟩) (λD i ys H1 H2 _ ⟨ad,e,h1,h2⟩ s12=>⟨ad,e,λj hj=>⟨s12 _ _ (h1 j hj).1 (h1 j hj).2.2,(h1 j hj).2⟩,h2⟩)
  (λD ys H' hD hy _ sH ⟨ad,e,h1,h2⟩=>?_) ?_
 ·subst e;exact q D ad H' ⟨hD,λi hi=>(h1 i (by lia)).2.1,λi hi=>(h1 i (by lia)).2.2,λi j hi hj=>h2 i j (by lia) (by lia),hy,λi hi=>(h1 i (by lia)).1,sH⟩
 ·rintro D i ys H' R hD hi hy hl sH ⟨ad,e,h1,h2⟩ r;show⟨small (show 1<=1000 by decide),λz hz=>?_⟩;show DS (xs:=[.int 0]) AJ (by lia) (by lia) (small (by rw[List.length_singleton,en];lia)) (λp hp=>?_);have hpz:p≠z:=λw=>by rw[w,AJ]at hp;cases hp
  have hp':H' p=none:=by rw[AE hpz]at hp;exact hp
  have hpD:p≠D:=λw=>by rw[w,hy]at hp';cases hp'
  have sp:Same H' (upd (upd H' z (.lst [.int 0])) p (.lst (List.replicate ((n:Int)+1).toNat [V.int 0]).flatten)):=(AL hz _).trans (AL hp _);refine r _ _ sp ⟨λj=>if j=i then p else ad j,?_,?_,?_⟩
  ·subst e;rw[List.range_succ,List.map_append];congr 1
   ·refine List.map_congr_left λj hj=>?_;have:=List.mem_range.mp hj;show V.ref (ad j)=V.ref (if j=i then p else ad j);rw[if_neg (by lia)]
   ·simp
  ·intro j hj
   by_cases ej:j=i
   ·subst ej;simp only[if_true];refine⟨?_,?_,hpD⟩
    ·rw[AJ,en,Rk]
    ·exact sH.free hp'
   ·simp only[if_neg ej];obtain⟨a1,a2,a3⟩:=h1 j (by lia);exact⟨sp _ _ a1,a2,a3⟩
  ·intro j j' hj hj' ee;have nq:∀j,j<i->ad j≠p:=λj hj w=>by have:=(h1 j hj).1;rw[w,hp']at this;cases this
   by_cases e1:j=i<;>by_cases e2:j'=i
   ·lia
   ·simp only[if_pos e1,if_neg e2]at ee;exact absurd ee.symm (nq j' (by lia))
   ·simp only[if_neg e1,if_pos e2]at ee;exact absurd ee (nq j (by lia))
   ·simp only[if_neg e1,if_neg e2]at ee;exact h2 j j' (by lia) (by lia) ee
theorem uv:FnScope ["places","many","sums","start","end","first_part","stop"] ["places"] (AK Gs):=scM
theorem PK(F:Fun K "span_sums" "span_sums" Gs f fd)(T:Txt K mg aK cs aC)(uV:FnU P w K mg base k "no_sums" ["many"] (FW))(uu:FnU P w K mg base k "pair_sum" ["first","last"] (Eh)):FnOk P w K mg base CX0 (k+1) f fd ["places"] (DH):=by
 refine F.ok uv (λvs H Q E h=>?_) (λcdv A outer s H vs Q E hr h=>?_)
 ·obtain⟨p,ps,kk,rfl,_⟩:=h;rfl
 obtain⟨p,ps,kk,rfl,hP,hn,hk,hl,q⟩:=h;have hu:=hr.units0;have hsm:∀l∈ps,Sm l:=λl z=>(hl l z).2;obtain⟨pa,hp0,hpa⟩:=id hP;refine⟨_,(AD (AO (i:=1) uv.nd rfl (Or.inl rfl) (Ae (Ar K) rfl T.n_len PySem.boot_len (AA (pv 0) AB))) (AD (AO (i:=2) uv.nd rfl (Or.inl rfl) (AV uV hr (AA (pv 1) AB))) (AD (A2 PassesOwn.never rfl (Bi rfl T.n_range (AA (pv 1) (AA (CC B7 AC) (AA (CC B7 AC) AB)))) (AU (i:=3) uv.nd rfl (Or.inl rfl)) (AD (BV AC (CK (AH (AI K) (pv 2) (pv 3) (λ_ _=>rfl)) (pv 3) BO)) (AF (A2 PassesOwn.never rfl (Bi rfl T.n_range (AA (AG AX (pv 3) AC) (AA (pv 1) (AA AC AB)))) (AU (i:=4) uv.nd rfl (Or.inl rfl)) (AD (AO (i:=5) uv.nd rfl (Or.inl rfl) (AG Av (AV uu hr (AA (AH (AI K) (pv 0) (pv 3) (λ_ _=>rfl)) (AA (AH (AI K) (pv 0) (pv 4) (λ_ _=>rfl)) AB))) (AH (AI K) (AH (AI K) (pv 2) (AG AX (pv 3) AC) (λ_ _=>rfl)) (pv 4) (λ_ _=>rfl)))) (AF (A2 PassesOwn.never rfl (Bi rfl T.n_range (AA (AG AX (pv 4) AC) (AA (AG AX (pv 1) AC) (AA AC AB)))) (AU (i:=6) uv.nd rfl (Or.inl rfl)) (AF (Ea (AH (AI K) (pv 2) (pv 3) (λ_ _=>rfl)) (pv 6) (EQ K) (AG Av (pv 5) (AH (AI K) (AH (AI K) (pv 2) (AG AX (pv 4) AC) (λ_ _=>rfl)) (pv 6) (λ_ _=>rfl))) DP BO))))))))) (AF (AR (pv 2)))))),?_⟩;show BA (.inl (SqL.of hp0)) ?_;have en:((((List.range ps.length).map λi=>V.ref (pa i)).length:Nat):Int)=(ps.length:Int):=by rw[List.length_map,List.length_range]
 rw[en];generalize hN:ps.length=n at*
 show KG hn (λs' ad H1 tb1=>?_);show⟨n,-1,-1,rfl,⟨by decide,by decide,KA (.inl rfl) (by lia) (by lia) (by decide) (by decide)⟩,?_⟩;have er:rN (n:Int) (-1) (-1)=n+1:=by rw[L7];lia
 rw[er];have place:∀ {H':Hp} {i:Nat},Same H H'->i<n->∃l,H' (pa i)=some (iL l)/\l.length=2*kk/\Sm l/\∀b,PP ps i b=l.getD b 0:=by
  intro H' i sH hi;have e:ps[i]? =some ps[i]:=List.getElem?_eq_getElem (by lia);have eg:ps.getD i []=ps[i]:=by rw[List.getD_eq_getElem?_getD,e];rfl
  refine⟨ps[i],?_,(hl _ (List.getElem_mem _)).1,(hl _ (List.getElem_mem _)).2,λb=>by show(ps.getD i []).getD b 0=_;rw[eg]⟩;have:=sH _ _ (hpa i (by lia));rw[eg]at this;exact this
 have pix:∀ {i:Nat},i<n->((List.range n).map λi=>V.ref (pa i))[i]? =some (.ref (pa i)):=fun{i} hi=>by rw[List.getElem?_map,List.getElem?_range hi];rfl
 refine B4 (λt σ H'=>∃o3 o4 o5 o6,σ=[some (.ref p),some (.int n),some (.ref s'),o3,o4,o5,o6]/\Tb H H' s' ad n (λi j=>if n<i+t then tbl (PP ps) kk i j else 0)) ?_ ?_ ?_
 ·exact⟨_,_,_,_,rfl,tb1.congr λi j hi hj=>by rw[if_neg (by lia)]⟩
 rotate_left
 ·rintro σ H' ⟨o3,o4,o5,o6,rfl,tb⟩;ext;exact q s' ad H' (tb.congr λi j hi hj=>by rw[if_pos (by lia)])
 rintro t σ H2 ht ⟨o3,o4,o5,o6,rfl,tb2⟩;obtain⟨st,est⟩:∃st:Nat,st+t=n:=⟨n-t,by lia⟩;have e1:((n:Int)+(t:Int)* -1)=(st:Int):=by lia
 rw[e1];show AN (SqL.of tb2.top) (AM (tb2.at (i:=st) (by lia))) ?_;show BS (tb2.row st (by lia)) (j:=st) (by rw[CY];unfold ixN;rw[if_pos (by lia),if_pos (by lia)];simp) ?_;have tb3:=(tb2.set (i:=st) (j:=st) (v:=1) (by lia)).congr (T':=λi j=>if st<i then tbl (PP ps) kk i j else if i=st then part (PP ps) kk st 0 j else 0) (λi j hi hj=>by
  by_cases h1:i=st
  ·subst h1;rw[if_neg (Nat.lt_irrefl _),if_pos rfl,Qk]
   by_cases h2:j=i
   ·rw[if_pos ⟨rfl,h2⟩,if_pos h2]
   ·rw[if_neg (λz=>h2 z.2),if_neg h2,if_neg (by lia)]
  ·rw[if_neg (λz=>h1 z.1)]
   by_cases h2:st<i
   ·rw[if_pos (by lia),if_pos h2]
   ·rw[if_neg (by lia),if_neg h2,if_neg h1])
 generalize upd H2 (ad st) _=H3 at tb3;clear tb2;show⟨_,_,2,rfl,⟨by decide,by decide,B3 (by lia) (by lia) (by lia) (by lia)⟩,?_⟩;have er2:rN ((st:Int)+1) n 2=(n-st)/2:=by rw[CA];lia
 rw[er2];refine B4 (λq' σ H'=>∃o4 o5 o6,σ=[some (.ref p),some (.int n),some (.ref s'),some (.int st),o4,o5,o6]/\Tb H H' s' ad n (λi j=>if st<i then tbl (PP ps) kk i j else if i=st then part (PP ps) kk st q' j else 0)) ?_ ?_ ?_
 ·exact⟨_,_,_,rfl,tb3⟩
 rotate_left
 ·rintro σ H' ⟨o4,o5,o6,rfl,tb⟩;show⟨_,_,_,_,rfl,tb.congr λi j hi hj=>?_⟩
  by_cases h2:st<i
  ·rw[if_pos h2,if_pos (by lia)]
  ·by_cases h1:i=st
   ·subst h1;rw[if_neg h2,if_pos rfl,if_pos (by lia)];exact Rz hj
   ·rw[if_neg h2,if_neg h1,if_neg (by lia)]
 rintro q' σ H4 hq' ⟨o4,o5,o6,rfl,tb4⟩;obtain⟨en',hen⟩:∃e:Nat,e=st+1+2*q':=⟨_,rfl⟩;have e2:((st:Int)+1+(q':Int)*2)=(en':Int):=by lia
 have hen2:en'<n:=by lia
 rw[e2];ext;obtain⟨x,hx,lx,sx,ex⟩:=place tb4.sm (show st<n by lia);obtain⟨y,hy,ly,sy,ey⟩:=place tb4.sm (show en'<n by lia);refine AN (SqL.of (tb4.sm _ _ hp0)) (AM (pix (i:=st) (by lia))) ?_;show AN (SqL.of (tb4.sm _ _ hp0)) (AM (pix (i:=en') (by lia))) ?_;show Hm hx hy lx ly hk sx sy (λH5 s5=>?_);have epr:sm kk (λo=>x.getD (2*o) 0*y.getD (2*o+1) 0)=pr (PP ps) kk st en':=by
  unfold pr;exact AQ kk λo _=>by rw[ex,ey]
 rw[epr];have tb5:=tb4.same s5;clear tb4;have e3:((st:Int)+1)=((st+1:Nat):Int):=by lia
 ext;rw[e3];refine AN (SqL.of tb5.top) (AM (tb5.at (i:=st+1) (by lia))) ?_;show AN (SqL.of (tb5.row (st+1) (by lia))) (AM (Bx (j:=en') (by lia))) ?_;have ev:(if st<st+1 then tbl (PP ps) kk (st+1) en' else if st+1=st then part (PP ps) kk st q' en' else 0)=cv (PP ps) kk (2*q') (st+1) []:=by
  rw[if_pos (by lia)];unfold tbl;rw[if_pos (by lia),show en'-(st+1)=2*q' by lia]
 rw[ev];have b1:=JC hk hsm st en';have b2:=Dy hk hsm (n:=2*q') (by lia) (st+1) [];refine Aw (An b1.1 b1.2 Dt) (An b2.1 b2.2 DL) ?_;have b3:0<=pr (PP ps) kk st en'*cv (PP ps) kk (2*q') (st+1) []:=Int.mul_nonneg b1.1 b2.1;have b4:pr (PP ps) kk st en'*cv (PP ps) kk (2*q') (st+1) []<=4*(top30*top30)*cap:=Int.mul_le_mul b1.2 b2.2 b2.1 (by decide);show⟨_,_,2,rfl,⟨by decide,by decide,B3 (by lia) (by lia) (by lia) (by lia)⟩,?_⟩;have er3:rN ((en':Int)+1) ((n:Int)+1) 2=(n+1-en')/2:=by rw[CA];lia
 rw[er3];refine B4 (λr σ H'=>∃o6,σ=[some (.ref p),some (.int n),some (.ref s'),some (.int st),some (.int en'),some (.int (pr (PP ps) kk st en'*cv (PP ps) kk (2*q') (st+1) [])),o6]/\Tb H H' s' ad n (λi j=>if st<i then tbl (PP ps) kk i j else if i=st then(if j<en'+1+2*r then part (PP ps) kk st (q'+1) j else part (PP ps) kk st q' j)else 0)) ?_ ?_ ?_
 ·refine⟨_,rfl,tb5.congr λi j hi hj=>?_⟩
  by_cases h2:st<i
  ·rw[if_pos h2,if_pos h2]
  ·rw[if_neg h2,if_neg h2]
   by_cases h1:i=st
   ·rw[if_pos h1,if_pos h1]
    by_cases h3:j<en'+1+2*0
    ·rw[if_pos h3,Ql (by lia)]
    ·rw[if_neg h3]
   ·rw[if_neg h1,if_neg h1]
 rotate_left
 ·rintro σ H' ⟨o6,rfl,tb⟩;refine⟨_,_,_,rfl,tb.congr λi j hi hj=>?_⟩
  by_cases h2:st<i
  ·rw[if_pos h2,if_pos h2]
  ·rw[if_neg h2,if_neg h2]
   by_cases h1:i=st
   ·rw[if_pos h1,if_pos h1,if_pos (by lia)]
   ·rw[if_neg h1,if_neg h1]
 rintro r σ H6 hr6 ⟨o6,rfl,tb6⟩;obtain⟨sp,hsp⟩:∃e:Nat,e=en'+1+2*r:=⟨_,rfl⟩;have e4:((en':Int)+1+(r:Int)*2)=(sp:Int):=by lia
 have hsp2:sp<=n:=by lia
 rw[e4];show AN (SqL.of tb6.top) (AM (tb6.at (i:=st) (by lia))) ?_;show Ek (SqL.of (tb6.row st (by lia))) (Bx (j:=sp) hsp2) ?_;have ev2:(if st<st then tbl (PP ps) kk st sp else if st=st then(if sp<en'+1+2*r then part (PP ps) kk st (q'+1) sp else part (PP ps) kk st q' sp)else 0)=part (PP ps) kk st q' sp:=by
  rw[if_neg (by lia),if_pos rfl,if_neg (by lia)]
 rw[ev2];have e5:((en':Int)+1)=((en'+1:Nat):Int):=by lia
 ext;rw[e5];refine AN (SqL.of tb6.top) (AM (tb6.at (i:=en'+1) (by lia))) ?_;show AN (SqL.of (tb6.row (en'+1) (by lia))) (AM (Bx (j:=sp) hsp2)) ?_;have ev3:(if st<en'+1 then tbl (PP ps) kk (en'+1) sp else if en'+1=st then(if sp<en'+1+2*r then part (PP ps) kk st (q'+1) sp else part (PP ps) kk st q' sp)else 0)=cv (PP ps) kk (sp-(en'+1)) (en'+1) []:=by
  rw[if_pos (by lia)];unfold tbl;rw[if_pos (by lia)]
 rw[ev3];have b5:=Dy hk hsm (n:=sp-(en'+1)) (by lia) (en'+1) [];refine Aw (An b3 b4 Sb) (An b5.1 b5.2 DL) ?_;refine D4 ?_;refine BS (tb6.row st (by lia)) (j:=sp) (by rw[CY];unfold ixN;rw[if_pos (by lia),if_pos (by lia)];simp) ?_;refine⟨_,rfl,(tb6.set (i:=st) (j:=sp) (by lia)).congr λi j hi hj=>?_⟩
 by_cases h1:i=st
 ·subst h1;simp only[Nat.lt_irrefl,if_false,if_true,true_and]
  by_cases h2:j=sp
  ·subst h2;rw[if_pos rfl,if_pos (by lia)];exact Qm hen (by lia) (by lia)
  ·rw[if_neg h2]
   by_cases h3:j<en'+1+2*r
   ·rw[if_pos h3,if_pos (by lia)]
   ·rw[if_neg h3]
    by_cases h4:j<en'+1+2*(r+1)
    ·rw[if_pos h4,LK (by lia),LK (by lia)]
    ·rw[if_neg h4]
 ·rw[if_neg (λz=>h1 z.1)]
  by_cases h2:st<i
  ·rw[if_pos h2,if_pos h2]
  ·rw[if_neg h2,if_neg h2,if_neg h1,if_neg h1]
theorem PC:FnScope ["sums"] ["sums"] (AK Gr):=scM
theorem PJ(F:Fun K "whole_sum" "whole_sum" Gr f fd)(T:Txt K mg aK cs aC):FnOk P w K mg base CX0 (k+1) f fd ["sums"] (CS):=by
 refine F.ok PC (λvs H Q E h=>?_) (λcdv A outer s H vs Q E hr h=>?_)
 ·obtain⟨H0,s',ad,n,T',rfl,_⟩:=h;rfl
 obtain⟨H0,s',ad,n,T',rfl,tb,q⟩:=h;refine⟨_,(AF (AR (AH (AI K) (AH (AI K) (pv 0) AC (λ_ _=>rfl)) (CC B7 AC) (λ_ _=>rfl)))),?_⟩;show AN (SqL.of tb.top) (AM (j:=0) (tb.at (Nat.zero_le _))) ?_;show AN (SqL.of (tb.row 0 (Nat.zero_le _))) (v:= .int (T' 0 n)) (Fx ?_ ?_) ?_
 ·rw[CY];lia
 ·rw[CY];exact Bx (Nat.le_refl _)
 exact q
theorem OZ:FnScope ["sums"] ["sums"] (AK Gb):=scM
theorem Oc(F:Fun K "check_filling" "check_filling" Gb f fd)(T:Txt K mg aK cs aC)(u7:FnU P w K mg base k "whole_sum" ["sums"] (CS)):FnOk P w K mg base (CXE P w) (k+1) f fd ["sums"] (Gk cs):=by
 refine F.okE OZ (λvs H Q E h=>?_) (λcdv A outer s H vs Q E hr h=>?_)
 ·obtain⟨H0,s,ad,n,T,rfl,_⟩:=h;rfl
 have hu:=hr.units0;refine⟨_,(AF (Ac (AW (A3 K hu) (AV u7 hr (AA (pv 0) AB)) AC (AS _)) (AF (CT T.e_NoFilling T.c_NoFilling hr.hd Ce (AA (Ap (l:=[116,104,101,32,114,111,119,32,104,97,115,32,110,111,32,114,105,103,104,116,32,102,105,108,108,105,110,103,44,32,111,114,32,110,111,110,101,32,116,104,97,116,32,119,101,105,103,104,115,32,109,111,114,101,32,116,104,97,110,32,48]) (by decide +kernel)) AB))) Ad)),?_⟩;obtain⟨H0,sa,ad,n,tab,rfl,tb,⟨hne,q⟩|⟨he,r⟩⟩:=h
 ·show Cq tb ?_;show ifq (decide_eq_false hne) ?_;ext;exact q
 ·show Cq tb ?_;show ifp (decide_eq_true he) ?_;ext;exact⟨small (by decide),λy hy=>r y H (Same.refl H) hy⟩
theorem u8:FnScope ["places","sums","many","outer","found","start","end","pair","within","outside","stop"] ["places","sums"] (AK GW):=scM
theorem OJ(F:Fun K "pairs_with_rest" "pairs_with_rest" GW f fd)(T:Txt K mg aK cs aC)(uV:FnU P w K mg base k "no_sums" ["many"] (FW))(uu:FnU P w K mg base k "pair_sum" ["first","last"] (Eh)):FnOk P w K mg base CX0 (k+1) f fd ["places","sums"] (FV):=by
 refine F.ok u8 (λvs H Q E h=>?_) (λcdv A outer s H vs Q E hr h=>?_)
 ·obtain⟨p,s,ps,k,ads,H0,rfl,_⟩:=h;rfl
 obtain⟨p,ss,ps,kk,ads,H0,rfl,hP,hn,hk,hl,tbS,q⟩:=h;have hu:=hr.units0;have hsm:∀l∈ps,Sm l:=λl z=>(hl l z).2;obtain⟨pa,hp0,hpa⟩:=id hP;refine⟨_,(AD (AO (i:=2) u8.nd rfl (Or.inl rfl) (Ae (Ar K) rfl T.n_len PySem.boot_len (AA (pv 0) AB))) (AD (AO (i:=3) u8.nd rfl (Or.inl rfl) (AV uV hr (AA (pv 2) AB))) (AD (BV AC (CK (AH (AI K) (pv 3) AC (λ_ _=>rfl)) (pv 2) BO)) (AD (AO (i:=4) u8.nd rfl (Or.inl rfl) (Am AB)) (AD (A2 PassesOwn.never rfl (CH rfl T.n_range (AA (pv 2) AB)) (AU (i:=5) u8.nd rfl (Or.inl rfl)) (AF (A2 PassesOwn.never rfl (Bi rfl T.n_range (AA (AG AX (pv 5) AC) (AA (pv 2) (AA AC AB)))) (AU (i:=6) u8.nd rfl (Or.inl rfl)) (AD (AO (i:=7) u8.nd rfl (Or.inl rfl) (AV uu hr (AA (AH (AI K) (pv 0) (pv 5) (λ_ _=>rfl)) (AA (AH (AI K) (pv 0) (pv 6) (λ_ _=>rfl)) AB)))) (AD (AO (i:=8) u8.nd rfl (Or.inl rfl) (AH (AI K) (AH (AI K) (pv 1) (AG AX (pv 5) AC) (λ_ _=>rfl)) (pv 6) (λ_ _=>rfl))) (AD (AO (i:=9) u8.nd rfl (Or.inl rfl) AC) (AD (A2 PassesOwn.never rfl (Bi rfl T.n_range (AA (AG AX (pv 6) AC) (AA (AG AX (pv 2) AC) (AA AC AB)))) (AU (i:=10) u8.nd rfl (Or.inl rfl)) (AD (Ea (AH (AI K) (pv 3) (AG AX (pv 6) AC) (λ_ _=>rfl)) (pv 10) (EQ K) (AG Av (AG Av (AH (AI K) (AH (AI K) (pv 3) (pv 5) (λ_ _=>rfl)) (pv 10) (λ_ _=>rfl)) (pv 7)) (pv 8)) DP BO) (AF (F2 (i:=9) u8.nd rfl (Or.inl rfl) (AG Av (AH (AI K) (AH (AI K) (pv 3) (pv 5) (λ_ _=>rfl)) (pv 10) (λ_ _=>rfl)) (AH (AI K) (AH (AI K) (pv 1) (AG AX (pv 6) AC) (λ_ _=>rfl)) (pv 10) (λ_ _=>rfl))) DP)))) (AD (Ea (AH (AI K) (pv 3) (AG AX (pv 5) AC) (λ_ _=>rfl)) (pv 6) (EQ K) (AG Av (pv 7) (pv 9)) DP BO) (AF (Al (Bp K PySem.F.plainAttrs_list PySem.F.slot_list_append PySem.F.type_list_append CI (pv 4) (AA (BW (AA (pv 5) (AA (pv 6) (AA (AG Av (pv 8) (pv 9)) AB)))) AB)))))))))))) (AF (AR (pv 4)))))))),?_⟩;show BA (.inl (SqL.of hp0)) ?_;have en:((((List.range ps.length).map λi=>V.ref (pa i)).length:Nat):Int)=(ps.length:Int):=by rw[List.length_map,List.length_range]
 rw[en];generalize hN:ps.length=n at*
 show KG hn (λs' ad H1 tb1=>?_);have place:∀ {H':Hp} {i:Nat},Same H H'->i<n->∃l,H' (pa i)=some (iL l)/\l.length=2*kk/\Sm l/\∀b,PP ps i b=l.getD b 0:=by
  intro H' i sH hi;have e:ps[i]? =some ps[i]:=List.getElem?_eq_getElem (by lia);have eg:ps.getD i []=ps[i]:=by rw[List.getD_eq_getElem?_getD,e];rfl
  refine⟨ps[i],?_,(hl _ (List.getElem_mem _)).1,(hl _ (List.getElem_mem _)).2,λb=>by show(ps.getD i []).getD b 0=_;rw[eg]⟩;have:=sH _ _ (hpa i (by lia));rw[eg]at this;exact this
 have pix:∀ {i:Nat},i<n->((List.range n).map λi=>V.ref (pa i))[i]? =some (.ref (pa i)):=fun{i} hi=>by rw[List.getElem?_map,List.getElem?_range hi];rfl
 show AN (SqL.of tb1.top) (AM (j:=0) (tb1.at (Nat.zero_le _))) ?_;show BS (tb1.row 0 (Nat.zero_le _)) (j:=n) (by rw[CY];unfold ixN;rw[if_pos (by lia),if_pos (by lia)];simp) ?_;have tb2:=tb1.set (i:=0) (j:=n) (v:=1) (Nat.zero_le _);have ok2:OkT (PP ps) kk n 0 0 0 (λa b=>if a=0/\b=n then 1 else 0):=OkT.zero λi j=>rfl;generalize upd H1 (ad 0) _=H2 at*
 show⟨small (show 0<=1000 by decide),λF0 hF0=>?_⟩;have t3:=AL hF0 (.lst []);have g3:(upd H2 F0 (.lst [])) F0=some (.lst []):=AJ;have tb3:=tb2.same t3;have hHF:H F0=none:=tb2.sm.free hF0;have nFs:F0≠s':=λz=>by rw[z,tb2.top]at hF0;cases hF0
 have nFa:∀i,i<=n->F0≠ad i:=λi hi z=>by rw[z,tb2.row i hi]at hF0;cases hF0
 have fp3:Fp (PP ps) kk n (upd H2 F0 (.lst [])) [] (BZ n 0 0):=⟨rfl,λm x hx=>by simp[BZ]at hx⟩;generalize upd H2 F0 _=H3 at*
 generalize(λa b=>if a=0/\b=n then(1:Int)else 0)=T3 at*
 clear tb1 tb2 t3;show⟨_,rfl,by lia,by lia,?_⟩;rw[Int.toNat_natCast];refine Do (λst σ H'=>∃ (T:Nat->Nat->Int) (vs:List V) (o5 o6 o7 o8 o9 o10:Option V),σ=[some (.ref p),some (.ref ss),some (.int (n:Int)),some (.ref s'),some (.ref F0),o5,o6,o7,o8,o9,o10]/\Tb H H' s' ad n T/\OkT (PP ps) kk n st 0 0 T/\H' F0=some (.lst vs)/\Fp (PP ps) kk n H' vs (BZ n st 0)) ⟨T3,[],_,_,_,_,_,_,rfl,tb3,ok2,g3,fp3⟩ ?_ ?_
 rotate_left
 ·rintro σ H4 ⟨T,vs,o5,o6,o7,o8,o9,o10,rfl,tb,_,gF,fp⟩;ext;rw[LI]at fp;exact q F0 vs H4 hHF tb.sm gF fp
 clear tb3 ok2 g3 fp3;rintro st σ H4 hst ⟨T4,vs4,o5,o6,o7,o8,o9,o10,rfl,tb4,ok4,gF4,fp4⟩;have e0:(0:Int)+(st:Int)=(st:Int):=by lia
 rw[e0];show⟨_,_,2,rfl,⟨by decide,by decide,B3 (by lia) (by lia) (by lia) (by lia)⟩,?_⟩;have er2:rN ((st:Int)+1) n 2=(n-st)/2:=by rw[CA];lia
 rw[er2];refine B4 (λq' σ H'=>∃ (T:Nat->Nat->Int) (vs:List V) (o6 o7 o8 o9 o10:Option V),σ=[some (.ref p),some (.ref ss),some (.int (n:Int)),some (.ref s'),some (.ref F0),some (.int (st:Int)),o6,o7,o8,o9,o10]/\Tb H H' s' ad n T/\OkT (PP ps) kk n st q' 0 T/\H' F0=some (.lst vs)/\Fp (PP ps) kk n H' vs (BZ n st q')) ⟨T4,vs4,_,_,_,_,_,rfl,tb4,ok4,gF4,fp4⟩ ?_ ?_
 rotate_left
 ·rintro σ H5 ⟨T,vs,o6,o7,o8,o9,o10,rfl,tb,ok,gF,fp⟩;ext;exact⟨T,vs,_,_,_,_,_,_,rfl,tb,ok.start hst,gF,by rw[VF];exact fp⟩
 clear tb4 ok4 gF4 fp4;rintro q' σ H5 hq' ⟨T5,vs5,o6,o7,o8,o9,o10,rfl,tb5,ok5,gF5,fp5⟩;obtain⟨en',hen⟩:∃e:Nat,e=st+1+2*q':=⟨_,rfl⟩;have e2:((st:Int)+1+(q':Int)*2)=(en':Int):=by lia
 have hen2:en'<n:=by lia
 rw[e2];ext;obtain⟨x,hx,lx,sx,ex⟩:=place tb5.sm (show st<n by lia);obtain⟨y,hy,ly,sy,ey⟩:=place tb5.sm (show en'<n by lia);refine AN (SqL.of (tb5.sm _ _ hp0)) (AM (pix (i:=st) (by lia))) ?_;show AN (SqL.of (tb5.sm _ _ hp0)) (AM (pix (i:=en') (by lia))) ?_;show Hm hx hy lx ly hk sx sy (λH6 s6=>?_);have epr:sm kk (λo=>x.getD (2*o) 0*y.getD (2*o+1) 0)=pr (PP ps) kk st en':=by
  unfold pr;exact AQ kk λo _=>by rw[ex,ey]
 rw[epr];have tb6:=tb5.same s6;have gF6:=s6 _ _ gF5;have fp6:=fp5.same s6;clear tb5 gF5 fp5;have e3:((st:Int)+1)=((st+1:Nat):Int):=by lia
 ext;rw[e3];refine AN (SqL.of (tb6.sm _ _ tbS.top)) (AM (tbS.at (i:=st+1) (by lia))) ?_;show AN (SqL.of (tb6.sm _ _ (tbS.row (st+1) (by lia)))) (AM (Bx (j:=en') (by lia))) ?_;have bpr:=JC hk hsm st en';have btb:0<=tbl (PP ps) kk (st+1) en'/\tbl (PP ps) kk (st+1) en'<=cap:=by
  unfold tbl;rw[if_pos (by lia)];exact Dy hk hsm (by lia) _ _
 show⟨_,_,2,rfl,⟨by decide,by decide,B3 (by lia) (by lia) (by lia) (by lia)⟩,?_⟩;have er3:rN ((en':Int)+1) ((n:Int)+1) 2=(n+1-en')/2:=by rw[CA];lia
 rw[er3];refine B4 (λr σ H'=>∃ (T:Nat->Nat->Int) (o10:Option V),σ=[some (.ref p),some (.ref ss),some (.int (n:Int)),some (.ref s'),some (.ref F0),some (.int (st:Int)),some (.int (en':Int)),some (.int (pr (PP ps) kk st en')),some (.int (tbl (PP ps) kk (st+1) en')),some (.int (sm (en'+1+2*r) λt=>Oo (PP ps) kk n st t*tbl (PP ps) kk (en'+1) t)),o10]/\Tb H H' s' ad n T/\OkT (PP ps) kk n st q' (en'+1+2*r) T/\H' F0=some (.lst vs5)/\Fp (PP ps) kk n H' vs5 (BZ n st q')) ?_ ?_ ?_
 ·refine⟨T5,o10,?_,tb6,?_,gF6,fp6⟩
  ·rw[BrC.sm_zero (en'+1+2*0) λt ht=>by rw[AY (i:=en'+1) (j:=t) (by lia),Int.mul_zero]];rfl
  ·intro i j h1 h2 h3;rw[ok5 i j h1 h2 h3];unfold ot
   by_cases e:i<=st
   ·rw[if_pos e,if_pos e]
   ·rw[if_neg e,if_neg e];congr 2
    by_cases z:st<i-1/\i-1<st+1+2*q'
    ·rw[if_pos (by lia),if_pos (by lia)]
    ·rw[if_neg (by lia),if_neg (by lia)]
 rotate_left
 ·rintro σ H7 ⟨T7,o10,rfl,tb7,ok7,gF7,fp7⟩;have eout:(sm (en'+1+2*((n+1-en')/2)) λt=>Oo (PP ps) kk n st t*tbl (PP ps) kk (en'+1) t)=out (PP ps) kk n st en':=by
   unfold out
   by_cases z:en'+1+2*((n+1-en')/2)=n+1
   ·rw[z]
   ·rw[show en'+1+2*((n+1-en')/2)=n+1+1 by lia,sm,Eg (x:=en'+1) (y:=n+1) (by lia),Int.mul_zero,Int.add_zero]
  rw[eout];have bout:=NX (ps:=ps) (k:=kk) hsm hk hn (s:=st) (e:=en') (by lia) hen2;have bout2:(out (PP ps) kk n st en').natAbs<big:=An bout.1 (Int.le_trans bout.2 (Int.mul_le_mul_of_nonneg_left (Fm (by decide) (show n-en'-1+st<=40 by lia)) (by decide))) IB;ext;rw[e3];refine AN (SqL.of tb7.top) (AM (tb7.at (i:=st+1) (by lia))) ?_;show Ek (SqL.of (tb7.row (st+1) (by lia))) (Bx (j:=en') (by lia)) ?_;show Aw (An bpr.1 bpr.2 Dt) bout2 ?_;refine D4 ?_;refine BS (tb7.row (st+1) (by lia)) (j:=en') (by rw[CY];unfold ixN;rw[if_pos (by lia),if_pos (by lia)];simp) ?_;have tb8:=tb7.set (i:=st+1) (j:=en') (v:=T7 (st+1) en'+pr (PP ps) kk st en'*out (PP ps) kk n st en') (by lia);have ok8:=ok7.fin (by lia) (v:=T7 (st+1) en'+pr (PP ps) kk st en'*out (PP ps) kk n st en') (by rw[hen]) (by lia);rw[<-hen]at ok8;have gF8:(upd H7 (ad (st+1)) (.lst ((rwl n (T7 (st+1))).set en' (.int (T7 (st+1) en'+pr (PP ps) kk st en'*out (PP ps) kk n st en'))))) F0=some (.lst vs5):=by rw[AE (nFa (st+1) (by lia))];exact gF7
  have fp8:=fp7.lst (o:= .lst ((rwl n (T7 (st+1))).set en' (.int (T7 (st+1) en'+pr (PP ps) kk st en'*out (PP ps) kk n st en')))) (tb7.row (st+1) (by lia));generalize upd H7 (ad (st+1)) _=H8 at*
  generalize(λa b=>if a=st+1/\b=en' then T7 (st+1) en'+pr (PP ps) kk st en'*out (PP ps) kk n st en' else T7 a b)=T8 at*
  show⟨.inl ⟨rfl,_,SqL.of gF8⟩,?_⟩;show Aw (An btb.1 btb.2 DL) bout2 ?_;show⟨small (show 3<=1000 by decide),λT' hT=>?_⟩;have t9:=AL hT (.tup [.int (st:Int), .int (en':Int), .int (tbl (PP ps) kk (st+1) en'*out (PP ps) kk n st en')]);have g9:(upd H8 T' (.tup [.int (st:Int), .int (en':Int), .int (tbl (PP ps) kk (st+1) en'*out (PP ps) kk n st en')])) T'=some (.tup [.int (st:Int), .int (en':Int), .int (rst (PP ps) kk n st en')]):=AJ;have tb9:=tb8.same t9;have gF9:=t9 _ _ gF8;have fp9:=fp8.same t9;have nTF:T'≠F0:=λz=>by rw[z,gF8]at hT;cases hT
  generalize upd H8 T' _=H9 at*
  show⟨F0,_,_,rfl,rfl,gF9,?_,?_⟩
  ·have:=LH n st q' (by lia) (by lia) hn;rw[fp9.1,PySem.sizeLine_eq];lia
  have up:SameBut1 F0 H9 (upd H9 F0 (.lst (vs5++[.ref T']))):=SameBut1.upd;show⟨_,_,_,_,_,_,_,rfl,tb9.but hHF nFs nFa up,ok8,AJ,?_⟩;rw[VG,<-hen];exact(fp9.lst gF9).more (up _ _ g9 nTF)
 rintro r σ H7 hr7 ⟨T7,o10,rfl,tb7,ok7,gF7,fp7⟩;obtain⟨sp,hsp⟩:∃e:Nat,e=en'+1+2*r:=⟨_,rfl⟩;have e4:((en':Int)+1+(r:Int)*2)=(sp:Int):=by lia
 have hsp2:sp<=n:=by lia
 rw[e4];have e5:((en':Int)+1)=((en'+1:Nat):Int):=by lia
 have eOo:T7 st sp=Oo (PP ps) kk n st sp:=ok7.row (by lia) hsp2 (by lia);have bOo:=V2 (ps:=ps) (k:=kk) hsm hk hn (t:=st) (j:=sp) (by lia) hsp2;have btb2:0<=tbl (PP ps) kk (en'+1) sp/\tbl (PP ps) kk (en'+1) sp<=cap:=by
  unfold tbl;rw[if_pos (by lia)];exact Dy hk hsm (by lia) _ _
 ext;rw[e5];refine AN (SqL.of tb7.top) (AM (tb7.at (i:=en'+1) (by lia))) ?_;show Ek (SqL.of (tb7.row (en'+1) (by lia))) (Bx (j:=sp) hsp2) ?_;show AN (SqL.of tb7.top) (AM (tb7.at (i:=st) (by lia))) ?_;show AN (SqL.of (tb7.row st (by lia))) (AM (Bx (j:=sp) hsp2)) ?_;rw[eOo];show Aw (An bOo.1 bOo.2 Lc) (An bpr.1 bpr.2 Dt) ?_;show Aw (An (Int.mul_nonneg bOo.1 bpr.1) (Int.mul_le_mul bOo.2 bpr.2 bpr.1 (Int.pow_nonneg (by decide))) Sa) (An btb.1 btb.2 DL) ?_;refine D4 ?_;refine BS (tb7.row (en'+1) (by lia)) (j:=sp) (by rw[CY];unfold ixN;rw[if_pos (by lia),if_pos (by lia)];simp) ?_;have tb8:=tb7.set (i:=en'+1) (j:=sp) (v:=T7 (en'+1) sp+Oo (PP ps) kk n st sp*pr (PP ps) kk st en'*tbl (PP ps) kk (st+1) en') (by lia);have ok8:=OkT.stop (r:=r) (v:=T7 (en'+1) sp+Oo (PP ps) kk n st sp*pr (PP ps) kk st en'*tbl (PP ps) kk (st+1) en') (h:=(show OkT (PP ps) kk n st q' (st+2+2*q'+2*r) T7 by rw[show st+2+2*q'+2*r=en'+1+2*r by lia];exact ok7)) (by rw[show st+2+2*q'+2*r=sp by lia,show st+2+2*q'=en'+1 by lia,<-hen]) (by lia);rw[show st+2+2*q'+2*r=sp by lia,show st+2+2*q'=en'+1 by lia]at ok8;have gF8:(upd H7 (ad (en'+1)) (.lst ((rwl n (T7 (en'+1))).set sp (.int (T7 (en'+1) sp+Oo (PP ps) kk n st sp*pr (PP ps) kk st en'*tbl (PP ps) kk (st+1) en'))))) F0=some (.lst vs5):=by rw[AE (nFa (en'+1) (by lia))];exact gF7
 have fp8:=fp7.lst (o:= .lst ((rwl n (T7 (en'+1))).set sp (.int (T7 (en'+1) sp+Oo (PP ps) kk n st sp*pr (PP ps) kk st en'*tbl (PP ps) kk (st+1) en')))) (tb7.row (en'+1) (by lia));generalize upd H7 (ad (en'+1)) _=H8 at*
 generalize(λa b=>if a=en'+1/\b=sp then T7 (en'+1) sp+Oo (PP ps) kk n st sp*pr (PP ps) kk st en'*tbl (PP ps) kk (st+1) en' else T7 a b)=T8 at*
 have eOo8:T8 st sp=Oo (PP ps) kk n st sp:=ok8.row (by lia) hsp2 (by lia);show AN (SqL.of tb8.top) (AM (tb8.at (i:=st) (by lia))) ?_;show AN (SqL.of (tb8.row st (by lia))) (AM (Bx (j:=sp) hsp2)) ?_;ext;rw[e5,eOo8];refine AN (SqL.of (tb8.sm _ _ tbS.top)) (AM (tbS.at (i:=en'+1) (by lia))) ?_;show AN (SqL.of (tb8.sm _ _ (tbS.row (en'+1) (by lia)))) (AM (Bx (j:=sp) hsp2)) ?_;refine Aw (An bOo.1 bOo.2 Lc) (An btb2.1 btb2.2 DL) ?_;show⟨T8,some (.int (sp:Int)),?_,tb8,ok8,gF8,fp8⟩;have es:(sm (en'+1+2*(r+1)) λt=>Oo (PP ps) kk n st t*tbl (PP ps) kk (en'+1) t)=(sm (en'+1+2*r) λt=>Oo (PP ps) kk n st t*tbl (PP ps) kk (en'+1) t)+Oo (PP ps) kk n st sp*tbl (PP ps) kk (en'+1) sp:=by
  rw[show en'+1+2*(r+1)=(en'+1+2*r)+1+1 by lia,sm,sm,Eg (x:=en'+1) (y:=en'+1+2*r+1) (by lia),Int.mul_zero,Int.add_zero,<-hsp]
 rw[es]
 rfl
theorem um:FnScope ["places","sums","found","start","end","rest","opening","weight"] ["places","sums"] (AK FC):=scM
theorem Oj(F:Fun K "bracket_sums" "bracket_sums" FC f fd)(T:Txt K mg aK cs aC)(uo:FnU P w K mg base k "pairs_with_rest" ["places","sums"] (FV)):FnOk P w K mg base CX0 (k+1) f fd ["places","sums"] (ET):=by
 refine F.ok um (λvs H Q E h=>?_) (λcdv A outer s H vs Q E hr h=>?_)
 ·obtain⟨p,s,ps,k,ads,H0,rfl,_⟩:=h;rfl
 obtain⟨p,ss,ps,kk,ads,H0,rfl,hP,hn,hk,hl,tbS,q⟩:=h;have hu:=hr.units0;have hsm:∀l∈ps,Sm l:=λl z=>(hl l z).2;obtain⟨pa,hp0,hpa⟩:=id hP;refine⟨_,(AD (EK (i:=2) um.nd rfl (Or.inl rfl) (own:=["place"]) (sel:=[]) (A4 (osc:=(AK FC)) (N:=["places","sums","found","start","end","rest","opening","weight"]) (by decide +kernel)) rfl (Bv K (pv 0)) (λ_ _ _ _ _=>(AU (i:=0) (show(["place"]:List Str).Nodup from by decide +kernel) rfl (Or.inl rfl))) (Ak (by decide)) (λ_ _ _ _ _=>BQ) (λ_ _ _ _ _=>(AG Ax (Am (AA AC AB)) (Ae (Ar K) rfl T.n_len PySem.boot_len (AA (pv 0) AB))))) (AD (A2 PassesOwn.never rfl (Bv K (AV uo hr (AA (pv 0) (AA (pv 1) AB)))) (By (n:=3) K rfl (Aj (AU (i:=3) um.nd rfl (Or.inl rfl)) (Aj (AU (i:=4) um.nd rfl (Or.inl rfl)) (Aj (AU (i:=5) um.nd rfl (Or.inl rfl)) Bm)))) (AF (A2 PassesOwn.never rfl (Bi rfl T.n_range (AA AC (AA (Ae (Ar K) rfl T.n_len PySem.boot_len (AA (AH (AI K) (pv 0) (pv 3) (λ_ _=>rfl)) AB)) (AA AC AB)))) (AU (i:=6) um.nd rfl (Or.inl rfl)) (AD (AO (i:=7) um.nd rfl (Or.inl rfl) (AG Av (AG Av (AH (AI K) (AH (AI K) (pv 0) (pv 3) (λ_ _=>rfl)) (pv 6) (λ_ _=>rfl)) (AH (AI K) (AH (AI K) (pv 0) (pv 4) (λ_ _=>rfl)) (AG AX (pv 6) AC) (λ_ _=>rfl))) (pv 5))) (AD (Ea (AH (AI K) (pv 2) (pv 3) (λ_ _=>rfl)) (pv 6) (EQ K) (pv 7) DP BO) (AF (Ea (AH (AI K) (pv 2) (pv 4) (λ_ _=>rfl)) (AG AX (pv 6) AC) (EQ K) (pv 7) DP BO))))))) (AF (AR (pv 2))))),?_⟩;have place:∀ {H':Hp} {i:Nat},Same H H'->i<ps.length->∃l,H' (pa i)=some (iL l)/\l.length=2*kk/\Sm l/\∀b,PP ps i b=l.getD b 0:=by
  intro H' i sH hi;have e:ps[i]? =some ps[i]:=List.getElem?_eq_getElem (by lia);have eg:ps.getD i []=ps[i]:=by rw[List.getD_eq_getElem?_getD,e];rfl
  refine⟨ps[i],?_,(hl _ (List.getElem_mem _)).1,(hl _ (List.getElem_mem _)).2,λb=>by show(ps.getD i []).getD b 0=_;rw[eg]⟩;have:=sH _ _ (hpa i (by lia));rw[eg]at this;exact this
 have pix:∀ {i:Nat},i<ps.length->((List.range ps.length).map λi=>V.ref (pa i))[i]? =some (.ref (pa i)):=fun{i} hi=>by rw[List.getElem?_map,List.getElem?_range hi];rfl
 have hlen:((List.range ps.length).map λi=>V.ref (pa i)).length=ps.length:=by rw[List.length_map,List.length_range]
 show⟨p,rfl,⟨_,SqL.of hp0⟩,?_⟩;refine RQ (small (by rw[hlen];lia)) hp0 (λD i ys H'=>∃ad:Nat->Addr,ys=(List.range i).map (λj=>V.ref (ad j))/\(∀j,j<i->H' (ad j)=some (.lst (rw2 (2*kk) λ_=>0))/\H (ad j)=none/\ad j≠D)/\∀j j',j<i->j'<i->ad j=ad j'->j=j')
  (λD _=>⟨λ_=>D,rfl,λj hj=>absurd hj (by lia),λj _ hj=>absurd hj (by lia)⟩) (λD i ys H1 H2 _ ⟨ad,e,h1,h2⟩ s12=>⟨ad,e,λj hj=>⟨s12 _ _ (h1 j hj).1 (h1 j hj).2.2,(h1 j hj).2⟩,h2⟩)
  (λD ys H' hD hy _ sH ⟨ad,e,h1,h2⟩=>?_) ?_
 rotate_left
 ·rintro D i x ys H' R hD hx hy hl' sH ⟨ad,e,h1,h2⟩ r;have hi:i<ps.length:=by
   have:=(List.getElem?_eq_some_iff.mp hx).1;rw[hlen]at this;exact this
  rw[pix hi]at hx
  cases hx
  obtain⟨l,gl,ll,_,_⟩:=place sH hi;show⟨small (show 1<=1000 by decide),λz hz=>?_⟩;show BA (.inl (SqL.of (AL hz _ _ _ gl))) ?_;have el:(((l.map V.int).length:Nat):Int)=((2*kk:Nat):Int):=by rw[List.length_map,ll]
  rw[el];refine DS (k:=((2*kk:Nat):Int)) (xs:=[.int 0]) AJ (by lia) (by lia) (small (by rw[List.length_singleton,Int.toNat_natCast];lia)) (λp' hp'=>?_);have hpz:p'≠z:=λw=>by rw[w,AJ]at hp';cases hp'
  have hp2:H' p'=none:=by rw[AE hpz]at hp';exact hp'
  have hpD:p'≠D:=λw=>by rw[w,hy]at hp2;cases hp2
  have sp:Same H' (upd (upd H' z (.lst [.int 0])) p' (.lst (List.replicate ((2*kk:Nat):Int).toNat [V.int 0]).flatten)):=(AL hz _).trans (AL hp' _);refine r _ _ sp ⟨λj=>if j=i then p' else ad j,?_,?_,?_⟩
  ·subst e;rw[List.range_succ,List.map_append];congr 1
   ·refine List.map_congr_left λj hj=>?_;have:=List.mem_range.mp hj;show V.ref (ad j)=V.ref (if j=i then p' else ad j);rw[if_neg (by lia)]
   ·simp
  ·intro j hj
   by_cases ej:j=i
   ·subst ej;simp only[if_true];refine⟨?_,?_,hpD⟩
    ·rw[AJ,Int.toNat_natCast,Qe]
    ·exact sH.free hp2
   ·simp only[if_neg ej];obtain⟨a1,a2,a3⟩:=h1 j (by lia);exact⟨sp _ _ a1,a2,a3⟩
  ·intro j j' hj hj' ee;have nq:∀j,j<i->ad j≠p':=λj hj w=>by have:=(h1 j hj).1;rw[w,hp2]at this;cases this
   by_cases e1:j=i<;>by_cases e2:j'=i
   ·lia
   ·simp only[if_pos e1,if_neg e2]at ee;exact absurd ee.symm (nq j' (by lia))
   ·simp only[if_neg e1,if_pos e2]at ee;exact absurd ee (nq j (by lia))
   ·simp only[if_neg e1,if_neg e2]at ee;exact h2 j j' (by lia) (by lia) ee
 rw[hlen]at e h1 h2;subst e;have tw0:Tw H H' D ad ps.length (2*kk) (λi b=>sms (((prs ps.length).take 0).map (ga (PP ps) kk ps.length i b))):=⟨hD,λi hi=>(h1 i (by lia)).2.1,λi hi=>(h1 i (by lia)).2.2,λi j hi hj=>h2 i j (by lia) (by lia),hy,λi hi=>(h1 i (by lia)).1,sH⟩;clear h1 h2 hD hy;show KF (hP.same sH) hn hk hl (ads:=ads) (H0:=H0) ?_ (λF0 vs' H2 hF0 s2 gF fp=>?_)
 ·exact tbS.same sH
 have tw1:=tw0.same s2;have nFa:∀i,i<ps.length->F0≠ad i:=λi hi z=>by rw[z,tw0.row i hi]at hF0;cases hF0
 clear tw0;show⟨F0,rfl,⟨_,SqL.of gF⟩,?_⟩;refine MN (xs:=vs') (λm σ H'=>∃ (o3 o4 o5 o6 o7:Option V),σ=[some (.ref p),some (.ref ss),some (.ref D),o3,o4,o5,o6,o7]/\Tw H H' D ad ps.length (2*kk) (λi b=>sms (((prs ps.length).take m).map (ga (PP ps) kk ps.length i b)))/\H' F0=some (.lst vs')/\Fp (PP ps) kk ps.length H' vs' (prs ps.length)) ⟨_,_,_,_,_,rfl,tw1,gF,fp⟩ (λm σ H' _ ⟨_,_,_,_,_,_,_,g,_⟩=>SqL.of g) ?_ ?_
 rotate_left
 ·rintro σ H3 ⟨o3,o4,o5,o6,o7,rfl,tw,g3,fp3⟩;show q D ad H3 (tw.congr λi j hi hj=>?_);rw[fp3.1,List.take_length];exact Vo _ hi hj
 clear tw1 gF fp;rintro m x σ H3 hx ⟨o3,o4,o5,o6,o7,rfl,tw3,g3,fp3⟩;have hm:m<(prs ps.length).length:=by
  have:=(List.getElem?_eq_some_iff.mp hx).1;rw[fp3.1]at this;exact this
 obtain⟨⟨st,en⟩,hse⟩:∃y,(prs ps.length)[m]? =some y:=⟨_,List.getElem?_eq_getElem hm⟩;obtain⟨T,eT,gT⟩:=fp3.2 m _ hse;rw[hx]at eT
 cases eT
 have hmem:=IS (List.mem_of_getElem? hse);have hst:st<ps.length:=by have h1:=hmem.1;have h2:=hmem.2;dsimp only at h1 h2;lia
 have hen:en<ps.length:=hmem.2;have hlt:st<en:=hmem.1
 dsimp only at gT
 show⟨T,_,rfl,SqT.of gT,rfl,?_⟩;obtain⟨l1,gl1,ll1,sm1,e1⟩:=place tw3.sm hst;show AN (SqL.of (tw3.sm _ _ hp0)) (AM (pix hst)) ?_;show BA (.inl (SqL.of gl1)) ?_;have el:(((l1.map V.int).length:Nat):Int)=((2*kk:Nat):Int):=by rw[List.length_map,ll1]
 rw[el];show⟨0,_,2,rfl,⟨by decide,by decide,B3 (by lia) (by lia) (by lia) (by lia)⟩,?_⟩;have er:rN 0 ((2*kk:Nat):Int) 2=kk:=by rw[CA];lia
 rw[er];have br:=NS (ps:=ps) (k:=kk) hsm hk hn hlt hen;refine B4 (λo σ H'=>∃ (o6 o7:Option V),σ=[some (.ref p),some (.ref ss),some (.ref D),some (.int (st:Int)),some (.int (en:Int)),some (.int (rst (PP ps) kk ps.length st en)),o6,o7]/\Tw H H' D ad ps.length (2*kk) (λi b=>gp (PP ps) kk ps.length m o i b (st,en))/\H' F0=some (.lst vs')/\Fp (PP ps) kk ps.length H' vs' (prs ps.length)) ⟨_,_,rfl,tw3.congr λi j _ _=>(UN _ _ _ _ _ _ _).symm,g3,fp3⟩ ?_ ?_
 rotate_left
 ·rintro σ H4 ⟨o6,o7,rfl,tw4,g4,fp4⟩;exact⟨_,_,_,_,_,rfl,tw4.congr λi j _ hj=>Vm hse hj,g4,fp4⟩
 clear tw3 g3 fp3 gl1;rintro o σ H4 ho ⟨o6,o7,rfl,tw4,g4,fp4⟩;have e0:(0:Int)+(o:Int)*2=((2*o:Nat):Int):=by lia
 have e2:((2*o:Nat):Int)+1=((2*o+1:Nat):Int):=by lia
 rw[e0];obtain⟨l1,gl1,ll1,sm1,e1⟩:=place tw4.sm hst;obtain⟨l2,gl2,ll2,sm2,e3⟩:=place tw4.sm hen;have gx:l1[2*o]? =some (l1.getD (2*o) 0):=by rw[List.getD_eq_getElem?_getD,List.getElem?_eq_getElem (by lia)];rfl
 have gy:l2[2*o+1]? =some (l2.getD (2*o+1) 0):=by rw[List.getD_eq_getElem?_getD,List.getElem?_eq_getElem (by lia)];rfl
 have bx:=sm1.at (2*o);have by':=sm2.at (2*o+1);show AN (SqL.of (tw4.sm _ _ hp0)) (AM (pix hst)) ?_;show AN (SqL.of gl1) (AM (by rw[List.getElem?_map,gx];rfl)) ?_;show AN (SqL.of (tw4.sm _ _ hp0)) (AM (pix hen)) ?_;ext
 first|rw[e2]|skip
 refine AN (SqL.of gl2) (AM (by rw[List.getElem?_map,gy];rfl)) ?_;refine Aw (An bx.1 bx.2 DF) (An by'.1 by'.2 DF) ?_;show Aw (An (Int.mul_nonneg bx.1 by'.1) (Int.le_trans (Int.mul_le_mul bx.2 by'.2 by'.1 (by decide)) (by decide:top30*top30<=4*(top30*top30))) Dt) (An br.1 br.2 IB) ?_;have hw:l1.getD (2*o) 0*l2.getD (2*o+1) 0*rst (PP ps) kk ps.length st en=PP ps st (2*o)*PP ps en (2*o+1)*rst (PP ps) kk ps.length st en:=by rw[e1,e3]
 generalize l1.getD (2*o) 0*l2.getD (2*o+1) 0*rst (PP ps) kk ps.length st en=w at hw⊢;show AN (SqL.of tw4.top) (AM (tw4.at hst)) ?_;show Ek (SqL.of (tw4.row st hst)) (Fj (j:=2*o) (by lia)) ?_;ext
 first|refine D4 ?_ |skip
 refine BS (tw4.row st hst) (j:=2*o) (by rw[Fh];unfold ixN;rw[if_pos (by lia),if_pos (by lia)];exact congrArg some (Int.toNat_natCast _)) ?_;have tw5:=tw4.set (i:=st) (j:=2*o) (v:=gp (PP ps) kk ps.length m o st (2*o) (st,en)+w) hst;have g5:(upd H4 (ad st) (.lst ((rw2 (2*kk) (λb=>gp (PP ps) kk ps.length m o st b (st,en))).set (2*o) (.int (gp (PP ps) kk ps.length m o st (2*o) (st,en)+w))))) F0=some (.lst vs'):=by rw[AE (nFa st hst)];exact g4
 have fp5:=fp4.lst (o:= .lst ((rw2 (2*kk) (λb=>gp (PP ps) kk ps.length m o st b (st,en))).set (2*o) (.int (gp (PP ps) kk ps.length m o st (2*o) (st,en)+w)))) (tw4.row st hst);generalize upd H4 (ad st) _=H5 at*
 show AN (SqL.of tw5.top) (AM (tw5.at hen)) ?_;ext
 first|rw[e2]|skip
 refine Ek (SqL.of (tw5.row en hen)) (Fj (j:=2*o+1) (by lia)) ?_;ext
 first|refine D4 ?_ |skip
 refine BS (tw5.row en hen) (j:=2*o+1) (by rw[Fh];unfold ixN;rw[if_pos (by lia),if_pos (by lia)];exact congrArg some (Int.toNat_natCast _)) ?_;have tw6:=tw5.set (i:=en) (j:=2*o+1) (v:=(if en=st/\2*o+1=2*o then gp (PP ps) kk ps.length m o st (2*o) (st,en)+w else gp (PP ps) kk ps.length m o en (2*o+1) (st,en))+w) hen;have g6:=AE (H:=H5) (o:= .lst ((rw2 (2*kk) (λb=>if en=st/\b=2*o then gp (PP ps) kk ps.length m o st (2*o) (st,en)+w else gp (PP ps) kk ps.length m o en b (st,en))).set (2*o+1) (.int ((if en=st/\2*o+1=2*o then gp (PP ps) kk ps.length m o st (2*o) (st,en)+w else gp (PP ps) kk ps.length m o en (2*o+1) (st,en))+w)))) (nFa en hen);have fp6:=fp5.lst (o:= .lst ((rw2 (2*kk) (λb=>if en=st/\b=2*o then gp (PP ps) kk ps.length m o st (2*o) (st,en)+w else gp (PP ps) kk ps.length m o en b (st,en))).set (2*o+1) (.int ((if en=st/\2*o+1=2*o then gp (PP ps) kk ps.length m o st (2*o) (st,en)+w else gp (PP ps) kk ps.length m o en (2*o+1) (st,en))+w)))) (tw5.row en hen);rw[g5]at g6;exact⟨_,_,rfl,tw6.congr λi j _ _=>UO w hw,g6,fp6⟩
theorem yp:FnScope ["k","row","places","sums"] ["k","row"] (AK Hv):=scM
theorem Qr(F:Fun K "filled" "filled" Hv f fd)(T:Txt K mg aK cs aC)(ud:FnU P w K mg base k "counted_places" ["k","row"] (EL))(ub:FnU P w K mg base k "span_sums" ["places"] (DH))(ur:FnUE P w K mg base k "check_filling" ["sums"] (Gk cs)):FnOk P w K mg base (CXE P w) (k+1) f fd ["k","row"] (FJ cs):=by
 refine F.okE yp (λvs H Q E h=>?_) (λcdv A outer s H vs Q E hr h=>?_)
 ·obtain⟨k,a,⟨rfl,_⟩,_⟩:=h;rfl
 refine⟨_,(AD (AO (i:=2) yp.nd rfl (Or.inl rfl) (AV ud hr (AA (pv 0) (AA (pv 1) AB)))) (AD (AO (i:=3) yp.nd rfl (Or.inl rfl) (AV ub hr (AA (pv 2) AB))) (AD (Al (AZ ur hr BJ (AA (pv 3) AB))) (AF (AR (BW (AA (pv 2) (AA (pv 3) AB)))))))),?_⟩;obtain⟨kk,a,⟨rfl,h1,h2,ha⟩,h⟩:=h;have hl:=Az ha;rcases h with⟨hc,r⟩|⟨hc,q⟩
 ·show FI h1 h2 hl (λr2 H2 hr2 s2 hP=>?_);show Dd (k:=kk.toNat) hP (by rw[List.length_map];exact hl) (by lia) (BN (by lia)) (λs3 ad H3 tb=>?_);ext;exact⟨_,s3,ad,_,_,rfl,tb, .inr ⟨(Dj _ _).trans hc,r.pass (s2.trans tb.sm)⟩⟩
 ·show FI h1 h2 hl (λr2 H2 hr2 s2 hP=>?_);show Dd (k:=kk.toNat) hP (by rw[List.length_map];exact hl) (by lia) (BN (by lia)) (λs3 ad H3 tb=>?_);show⟨_,s3,ad,_,_,rfl,tb, .inl ⟨λz=>hc ((Dj _ _).symm.trans z),?_⟩⟩;show⟨small (show 2<=1000 by decide),λT hT=>?_⟩;have t:=AL hT (.tup [.ref r2, .ref s3]);exact q T r2 s3 ad _ _ ((s2.trans tb.sm).trans t) AJ ((hP.same tb.sm).same t) (tb.same t)
theorem uZ:FnScope ["k","row","i","places","sums"] ["k","row","i"] (AK FE):=scM
theorem Oz(F:Fun K "brackets_at" "brackets_at" FE f fd)(T:Txt K mg aK cs aC)(u4:FnUE P w K mg base k "check_line" ["k","row"] (BP K cs CQ))(uw:FnUE P w K mg base k "check_place" ["row","i"] (Hc K cs))(uD:FnUE P w K mg base k "filled" ["k","row"] (FJ cs))(uh:FnU P w K mg base k "bracket_sums" ["places","sums"] (ET)):FnOk P w K mg base (CXE P w) (k+1) f fd ["k","row","i"] (Ip cs):=by
 refine F.okE uZ (λvs H Q E h=>?_) (λcdv A outer s H vs Q E hr h=>?_)
 ·obtain⟨k,a,i,rfl,_⟩:=h;rfl
 have hu:=hr.units0;refine⟨_,(AD (Al (AZ u4 hr BJ (AA (pv 0) (AA (pv 1) AB)))) (AD (Al (AZ uw hr BJ (AA (pv 1) (AA (pv 2) AB)))) (AD (BV (AZ uD hr BJ (AA (pv 0) (AA (pv 1) AB))) (By (n:=2) K rfl (Aj (AU (i:=3) uZ.nd rfl (Or.inl rfl)) (Aj (AU (i:=4) uZ.nd rfl (Or.inl rfl)) Bm)))) (AF (AR (Rx (own:=["bracket","many"]) (sel:=[]) (A4 (osc:=(AK FE)) (N:=["k","row","i","places","sums"]) (by decide +kernel)) rfl (Tc rfl T.n_zip (AA (BK T.g_BRACKETS) (AA (AH (AI K) (AV uh hr (AA (pv 3) (AA (pv 4) AB))) (pv 2) (λ_ _=>rfl)) AB))) (λ_ _ _ _ _=>(By (n:=2) K rfl (Aj (AU (i:=0) (show(["bracket","many"]:List Str).Nodup from by decide +kernel) rfl (Or.inl rfl)) (Aj (AU (i:=1) (show(["bracket","many"]:List Str).Nodup from by decide +kernel) rfl (Or.inl rfl)) Bm)))) (Dv (Bn A1 (Cu A1 Br) (Ak (by decide)) (Bn A1 Br (Ak (by decide)) Dw))) (λ_ _ _ _ _=>Dk (AW DT (pv 1) AC (AS _))) (λ_ _ _ _ _=>(pv 0)) (λ_ _ _ _ _=>(pv 1)))))))),?_⟩;obtain⟨kk,a,i,rfl,h1,h2,ha,hi,h⟩:=h;have hl:=Az ha;have hu:=hr.units0;rcases h with⟨hc,r⟩|⟨hc,q⟩
 ·show .inl (Bh h1 h2 ha (λH1 s1=>?_));show⟨a,_,rfl,hl, .inl ⟨i,rfl,by lia,by lia,?_⟩⟩;ext;exact⟨kk,a,⟨rfl,h1,h2,ha⟩, .inl ⟨hc,r.pass s1⟩⟩
 ·show .inl (Bh h1 h2 ha (λH1 s1=>?_));show⟨a,_,rfl,hl, .inl ⟨i,rfl,by lia,by lia,?_⟩⟩;show⟨kk,a,⟨rfl,h1,h2,ha⟩, .inr ⟨hc,λT p ss ad H0 H2 s2 gT hP tb=>?_⟩⟩;show⟨T,_,rfl,SqT.of gT,rfl,?_⟩;show TH ?_;refine Uu ?_;ext;have eln:(a.map (plw (ones kk.toNat))).length=a.length:=List.length_map _;refine HD hP (by rw[eln];exact hl) (show kk.toNat<=4 by lia) (BN (by lia)) tb (λF0 ad4 H4 tw=>?_);rw[eln]at tw;show AN (SqL.of tw.top) (AM (tw.at hi)) ?_;show⟨_,ad4 i,_,rfl,tw.row i hi,?_⟩;have hrow:=tw.row i hi;have s24:Same H2 H4:=tw.sm;have hk8:2*kk.toNat<=8:=by lia
  refine SY (n:=2*kk.toNat) (λD n kvs H'=>Same H4 H'/\kvs=kvB kk.toNat a i n) (λD hD=>⟨AL hD _,rfl⟩) (λD n kvs H' _ hn _ p=>⟨by show n<8;lia,_,p.1 _ _ hrow,by rw[Fh];exact hn⟩) (λD kvs H' hD hy p=>⟨⟨_,p.1 _ _ hrow,?_⟩,?_⟩) ?_
  ·rw[Fh]
   by_cases z:2*kk.toNat=8
   ·exact .inl z
   ·exact .inr ⟨show 2*kk.toNat<8 by lia,rfl⟩
  ·obtain⟨sp,rfl⟩:=p;exact q D H' (s1.free (s2.free (s24.free hD))) ((s1.trans s2).trans (s24.trans sp)) hy
  rintro D n kvs G x G3 hD hn hy ⟨sG,ek⟩ ⟨Tt,c,xs,dd,hTt,hc',hxs,hd,rfl,rfl⟩;rw[sG _ _ hrow]at hxs
  cases hxs
  rw[Fj hn]at hd
  cases hd
  have ec:c=brs.getD n 0:=by
   have h3:brs[n]? =some c:=by rw[<-List.getElem?_toArray];exact hc'
   rw[Ca (by lia)]at h3;exact(Option.some.inj h3).symm
  subst ec;have eat:tbl (Pat (PP (a.map (plw (ones kk.toNat)))) i n) kk.toNat 0 a.length=atB kk.toNat a i n:=rfl;rw[eat];have hkm:=LR kk.toNat a i n;have hkl:=MG kk.toNat a i n;have hkn:=MF (k:=kk.toNat) (a:=a) (i:=i) (n:=n) (by lia);have tT:=AL hTt (.tup [tx [brs.getD n 0], .int (atB kk.toNat a i n)]);have gTt:(upd G Tt (.tup [tx [brs.getD n 0], .int (atB kk.toNat a i n)])) Tt=some (.tup [tx [brs.getD n 0], .int (atB kk.toNat a i n)]):=AJ;have hyT:=tT _ _ hy;have sT:=sG.trans tT;show EG K 2 _ (.ref Tt) _ (upd G Tt (.tup [tx [brs.getD n 0], .int (atB kk.toNat a i n)])) _;generalize upd G Tt _=G4 at*
  show⟨Tt,_,rfl,SqT.of gTt,rfl,?_⟩;ext;subst ek;refine ifd (λhz=>?_) (λhz=>?_)
  ·rw[if_pos hz]at hkm;show⟨_,(Sum.inr ⟨#[brs.getD n 0]⟩:Key),hyT,rfl,by rw[sizeLine_eq];lia,2*kk.toNat-(n+1),by lia,rfl,by lia,_,AJ,λz o hz=>?_,?_⟩
   ·rw[AE (AT hz hD)];exact sT _ _ hz
   ·rw[hkm,LG _ hkn]
  ·rw[if_neg hz]at hkm;exact⟨2*kk.toNat-(n+1),by lia,rfl,by lia,_,hyT,sT,hkm.symm⟩
theorem uK:FnScope ["k","row","places","sums","in_all"] ["k","row"] (AK FD):=scM
theorem Ot(F:Fun K "sure_places" "sure_places" FD f fd)(T:Txt K mg aK cs aC)(u4:FnUE P w K mg base k "check_line" ["k","row"] (BP K cs CQ))(uD:FnUE P w K mg base k "filled" ["k","row"] (FJ cs))(u7:FnU P w K mg base k "whole_sum" ["sums"] (CS))(uh:FnU P w K mg base k "bracket_sums" ["places","sums"] (ET)):FnOk P w K mg base (CXE P w) (k+1) f fd ["k","row"] (FF cs):=by
 refine F.okE uK (λvs H Q E h=>?_) (λcdv A outer s H vs Q E hr h=>?_)
 ·obtain⟨k,a,⟨rfl,_⟩,_⟩:=h;rfl
 have hu:=hr.units0;refine⟨_,(AD (Al (AZ u4 hr BJ (AA (pv 0) (AA (pv 1) AB)))) (AD (BV (AZ uD hr BJ (AA (pv 0) (AA (pv 1) AB))) (By (n:=2) K rfl (Aj (AU (i:=2) uK.nd rfl (Or.inl rfl)) (Aj (AU (i:=3) uK.nd rfl (Or.inl rfl)) Bm)))) (AD (AO (i:=4) uK.nd rfl (Or.inr rfl) (AV u7 hr (AA (pv 3) AB))) (AF (AR (Bb (own:=["at","manies"]) (sel:=[4,1]) (A4 (osc:=(AK FD)) (N:=["k","row","places","sums","in_all"]) (by decide +kernel)) rfl (Qj K rfl T.n_enumerate (AA (AV uh hr (AA (pv 2) (AA (pv 3) AB))) AB)) (λ_ _ _ _ _=>(By (n:=2) K rfl (Aj (AU (i:=0) (show(["at","manies","in_all","row"]:List Str).Nodup from by decide +kernel) rfl (Or.inl rfl)) (Aj (AU (i:=1) (show(["at","manies","in_all","row"]:List Str).Nodup from by decide +kernel) rfl (Or.inl rfl)) Bm)))) (Dv (Bn A1 (Cu A1 Br) (Ak (by decide)) (Bn A1 Br (Ak (by decide)) Dw))) (λ_ _ _ _ _=>Dk (PW.pt (El (AW (A3 K hu) (AH (AI K) (pv 3) (pv 0) (λ_ _=>rfl)) (BK T.g_UNKNOWN) (AS _)) (EY (AW (DN K) (pv 2) (pv 1) (by with_unfolding_all rfl)))))) (λ_ _ _ _ _=>(BW (AA (pv 0) (AA (AH (AI K) (BK T.g_BRACKETS) (Bp K PySem.F.plainAttrs_list PySem.F.slot_list_index PySem.F.type_list_index Qw (pv 1) (AA (pv 2) AB)) (λ_ _=>rfl)) AB)))))))))),?_⟩;obtain⟨kk,a,⟨rfl,h1,h2,ha⟩,h⟩:=h;have hl:=Az ha;have hu:=hr.units0;rcases h with⟨hc,r⟩|⟨hc,q⟩
 ·show .inl (Bh h1 h2 ha (λH1 s1=>?_));ext;exact⟨kk,a,⟨rfl,h1,h2,ha⟩, .inl ⟨hc,r.pass s1⟩⟩
 ·show .inl (Bh h1 h2 ha (λH1 s1=>?_));show⟨kk,a,⟨rfl,h1,h2,ha⟩, .inr ⟨hc,λT p ss ad H0 H2 s2 gT hP tb=>?_⟩⟩;show⟨T,_,rfl,SqT.of gT,rfl,?_⟩;show Cq tb ?_;rw[Dj];ext;have eln:(a.map (plw (ones kk.toNat))).length=a.length:=List.length_map _;refine HD hP (by rw[eln];exact hl) (show kk.toNat<=4 by lia) (BN (by lia)) tb (λF0 ad4 H4 tw=>?_);rw[eln]at tw;show⟨F0,rfl,⟨_,SqL.of tw.top⟩,?_⟩;have hrl:((List.range a.length).map λi=>V.ref (ad4 i)).length=a.length:=by rw[List.length_map,List.length_range]
  refine DK (n:=a.length) (λD n ys H'=>Same H4 H'/\Sll H' ys ((List.range n).filterMap (BC kk.toNat a))) (λD hD=>⟨AL hD _,rfl,λm x h=>by simp at h⟩) (λD n ys H' hD hn hy p=>⟨_,_,SqL.of (p.1 _ _ tw.top),tw.at hn⟩) (λD ys H' hD hy hyl p=>⟨⟨_,SqL.of (p.1 _ _ tw.top),hrl.symm⟩,q D ys H' (s1.free (s2.free (tw.sm.free hD))) ((s1.trans s2).trans (tw.sm.trans p.1)) hy p.2⟩) ?_;rintro D n ys G x G3 hD hn hy hyl ⟨sG,hsl⟩ ⟨Tt,xx,hTt,hxx,rfl,rfl⟩;have hxx:=hxx _ (SqL.of (sG _ _ tw.top));rw[tw.at hn]at hxx
  cases hxx
  have tT:=AL hTt (.tup [.int (n:Int), .ref (ad4 n)]);have gTt:(upd G Tt (.tup [.int (n:Int), .ref (ad4 n)])) Tt=some (.tup [.int (n:Int), .ref (ad4 n)]):=AJ;have hyT:=tT _ _ hy;have sT:=sG.trans tT;have hslT:=hsl.same tT;show EG K 2 _ (.ref Tt) _ (upd G Tt (.tup [.int (n:Int), .ref (ad4 n)])) _;generalize upd G Tt _=G4 at*
  have hrow:H4 (ad4 n)=some (.lst (((List.range (2*kk.toNat)).map (atB kk.toNat a n)).map V.int)):=by rw[tw.row n hn,Re];rfl
  have hsm:=Qc kk.toNat a n;have gc:a[n]? =some (a.getD n 0):=by rw[List.getD_eq_getElem?_getD,List.getElem?_eq_getElem hn];rfl
  show⟨Tt,_,rfl,SqT.of gTt,rfl,?_⟩;show BD (small (by lia)) (AM gc) ?_;ext;have skip:BC kk.toNat a n=none->∃m',m'<a.length-n/\CW D a.length (λn ys H'=>Same H4 H'/\Sll H' ys ((List.range n).filterMap (BC kk.toNat a))) (n+1) m' G4:=λhz=>by
   rw[hz]at hsm;exact⟨a.length-(n+1),by lia,rfl,by lia,ys,hyT,by lia,sT,by rw[hsm];simpa using hslT⟩
  by_cases h63:a.getD n 0=63
  ·refine ifp (by rw[h63];rfl) ?_;show E2 (.inl (SqL.of (sT _ _ hrow))) rfl (FQ _) ?_;rw[Ho]
   cases hf:DW kk.toNat a n with
   |none=>
    have hno:=Km hf;have hnm:¬W4 kk.toNat a∈(List.range (2*kk.toNat)).map (atB kk.toNat a n):=λz=>by
     obtain⟨b,hb,e⟩:=List.mem_map.mp z;exact hno b (List.mem_range.mp hb) e
    rw[decide_eq_false hnm];show ifq rfl ?_;exact skip (by unfold BC;rw[if_pos h63,hf];rfl)
   |some b=>
    obtain⟨hb1,hb2,hb3⟩:=Kl hf;have hmm:W4 kk.toNat a∈(List.range (2*kk.toNat)).map (atB kk.toNat a n):=List.mem_map.mpr ⟨b,List.mem_range.mpr hb2,hb1⟩;rw[decide_eq_true hmm];show ifp rfl ?_;show⟨SqL.ty (SqL.of (sT _ _ hrow)),?_⟩;show Rc (j:=b) (sT _ _ hrow) (by rw[List.getElem?_map,List.getElem?_range hb2];exact congrArg some hb1) (λm hm z=>?_) (by rw[List.length_map,List.length_range];lia) ?_
    ·rw[List.getElem?_map,List.getElem?_range (by lia)]at z;exact hb3 m hm (Option.some.inj z)
    show BD (small (by decide)) (AM (Ca (show b<8 by lia))) ?_;show⟨small (show 2<=1000 by decide),λT2 hT2=>?_⟩;have t6:=AL hT2 (.tup [.int (n:Int),tx [brs.getD b 0]]);have g6:(upd G4 T2 (.tup [.int (n:Int),tx [brs.getD b 0]])) T2=some (.tup [.int (n:Int),tx [brs.getD b 0]]):=AJ;have hy6:=t6 _ _ hyT;rw[show BC kk.toNat a n=some (n,b) by unfold BC;rw[if_pos h63,hf];rfl]at hsm;refine⟨ys,hy6,by rw[sizeLine_eq];lia,a.length-(n+1),by lia,rfl,by lia,_,AJ,by rw[List.length_append,List.length_singleton];lia,λz o hz=>?_,?_⟩
    ·rw[AE (AT hz hD)];exact t6 _ _ (sT _ _ hz)
    ·rw[hsm];exact((hslT.same t6).lst hy6).more (by rw[AE (CF g6 hy6 (λz=>by cases z))];exact g6)
  ·refine ifq (by simpa using h63) ?_;refine ifq rfl ?_;exact skip (by unfold BC;rw[if_neg h63])
theorem uS:FnScope ["k","row","places","sums","in_all"] ["k","row"] (AK FH):=scM
theorem O7(F:Fun K "sure_pairs" "sure_pairs" FH f fd)(T:Txt K mg aK cs aC)(u4:FnUE P w K mg base k "check_line" ["k","row"] (BP K cs CQ))(uD:FnUE P w K mg base k "filled" ["k","row"] (FJ cs))(u7:FnU P w K mg base k "whole_sum" ["sums"] (CS))(uo:FnU P w K mg base k "pairs_with_rest" ["places","sums"] (FV))(uu:FnU P w K mg base k "pair_sum" ["first","last"] (Eh)):FnOk P w K mg base (CXE P w) (k+1) f fd ["k","row"] (Gp cs):=by
 refine F.okE uS (λvs H Q E h=>?_) (λcdv A outer s H vs Q E hr h=>?_)
 ·obtain⟨k,a,⟨rfl,_⟩,_⟩:=h;rfl
 have hu:=hr.units0;refine⟨_,(AD (Al (AZ u4 hr BJ (AA (pv 0) (AA (pv 1) AB)))) (AD (BV (AZ uD hr BJ (AA (pv 0) (AA (pv 1) AB))) (By (n:=2) K rfl (Aj (AU (i:=2) uS.nd rfl (Or.inr rfl)) (Aj (AU (i:=3) uS.nd rfl (Or.inl rfl)) Bm)))) (AD (AO (i:=4) uS.nd rfl (Or.inr rfl) (AV u7 hr (AA (pv 3) AB))) (AF (AR (Bb (own:=["start","end","rest"]) (sel:=[4,2]) (A4 (osc:=(AK FH)) (N:=["k","row","places","sums","in_all"]) (by decide +kernel)) rfl (Bv K (AV uo hr (AA (pv 2) (AA (pv 3) AB)))) (λ_ _ _ _ _=>(By (n:=3) K rfl (Aj (AU (i:=0) (show(["start","end","rest","in_all","places"]:List Str).Nodup from by decide +kernel) rfl (Or.inl rfl)) (Aj (AU (i:=1) (show(["start","end","rest","in_all","places"]:List Str).Nodup from by decide +kernel) rfl (Or.inl rfl)) (Aj (AU (i:=2) (show(["start","end","rest","in_all","places"]:List Str).Nodup from by decide +kernel) rfl (Or.inl rfl)) Bm))))) (Dv (Bn A1 (Cu A1 (Cu A1 Br)) (Ak (by decide)) (Bn A1 (Cu A1 Br) (Ak (by decide)) (Bn A1 Br (Ak (by decide)) Dw)))) (λ_ _ _ _ _=>Dk (AW (A3 K hu) (AG Av (AV uu hr (AA (AH (AI K) (pv 4) (pv 0) (λ_ _=>rfl)) (AA (AH (AI K) (pv 4) (pv 1) (λ_ _=>rfl)) AB))) (pv 2)) (pv 3) (AS _))) (λ_ _ _ _ _=>(BW (AA (pv 0) (AA (pv 1) AB)))))))))),?_⟩;obtain⟨kk,a,⟨rfl,h1,h2,ha⟩,h⟩:=h;have hl:=Az ha;have hu:=hr.units0;rcases h with⟨hc,r⟩|⟨hc,q⟩
 ·show .inl (Bh h1 h2 ha (λH1 s1=>?_));ext;exact⟨kk,a,⟨rfl,h1,h2,ha⟩, .inl ⟨hc,r.pass s1⟩⟩
 ·show .inl (Bh h1 h2 ha (λH1 s1=>?_));show⟨kk,a,⟨rfl,h1,h2,ha⟩, .inr ⟨hc,λT p ss ad H0 H2 s2 gT hP tb=>?_⟩⟩;show⟨T,_,rfl,SqT.of gT,rfl,?_⟩;show Cq tb ?_;rw[Dj];show KF hP (by rw[List.length_map];exact hl) (show kk.toNat<=4 by lia) (BN (by lia)) tb (λF0 vs' H3 hF0 s3 gF fp=>?_);show⟨F0,rfl,⟨_,SqL.of gF⟩,?_⟩;have hsm:∀l∈a.map (plw (ones kk.toNat)),Sm l:=λl z=>(BN (k:=kk.toNat) (a:=a) (by lia) l z).2;obtain⟨pa,hp0,hpa⟩:=id hP;have hn40:(a.map (plw (ones kk.toNat))).length<=40:=by rw[List.length_map];exact hl
  have place:∀ {H':Hp} {i:Nat},Same H2 H'->i<(a.map (plw (ones kk.toNat))).length->∃l,H' (pa i)=some (iL l)/\l.length=2*kk.toNat/\Sm l/\∀b,P1 kk.toNat a i b=l.getD b 0:=by
   intro H' i sH hi;have e:(a.map (plw (ones kk.toNat)))[i]? =some (a.map (plw (ones kk.toNat)))[i]:=List.getElem?_eq_getElem (by lia);have eg:(a.map (plw (ones kk.toNat))).getD i []=(a.map (plw (ones kk.toNat)))[i]:=by rw[List.getD_eq_getElem?_getD,e];rfl
   have hm:=BN (k:=kk.toNat) (a:=a) (by lia) _ (List.getElem_mem hi);refine⟨(a.map (plw (ones kk.toNat)))[i],?_,hm.1,hm.2,λb=>by show((a.map (plw (ones kk.toNat))).getD i []).getD b 0=_;rw[eg]⟩;have:=sH _ _ (hpa i (by lia));rw[eg]at this;exact this
  have pix:∀ {i:Nat},i<(a.map (plw (ones kk.toNat))).length->((List.range (a.map (plw (ones kk.toNat))).length).map λi=>V.ref (pa i))[i]? =some (.ref (pa i)):=fun{i} hi=>by rw[List.getElem?_map,List.getElem?_range hi];rfl
  have eln:(a.map (plw (ones kk.toNat))).length=a.length:=List.length_map _;have hpl:=TY hl;rw[eln]at fp hn40 pix hp0;obtain⟨fs,efs⟩:∃fs:Nat×Nat->Bool,fs=λx=>decide (pr (P1 kk.toNat a) kk.toNat x.1 x.2*rst (P1 kk.toNat a) kk.toNat a.length x.1 x.2=W4 kk.toNat a):=⟨_,rfl⟩;refine Wb (xs:=vs') (λD i ys H'=>Same H3 H'/\Prl H' ys (((prs a.length).take i).filter fs)) (λD i ys H' h=>h.1 _ _ gF) (λD hD=>⟨AL hD _,rfl,λm x h=>by simp at h⟩) (λD ys H6 hD hy ⟨s6,h1⟩=>?_) ?_
  ·rw[fp.1,List.take_length,efs]at h1;exact q D ys H6 (s1.free (s2.free (s3.free hD))) ((s1.trans s2).trans (s3.trans s6)) hy h1
  rintro D i x ys H4 hD hx hi hy hyl ⟨s4,hpr⟩;have hi':i<(prs a.length).length:=by rw[<-fp.1];exact hi
  obtain⟨⟨st,en⟩,hse⟩:∃y,(prs a.length)[i]? =some y:=⟨_,List.getElem?_eq_getElem hi'⟩;obtain⟨Te,eT,gT⟩:=fp.2 i _ hse;rw[hx]at eT
  cases eT
  have hmem:=IS (List.mem_of_getElem? hse);have hen:en<a.length:=hmem.2;have hlt:st<en:=hmem.1;have hfm:=Pp fs hse
  dsimp only at gT
  show⟨Te,_,rfl,SqT.of (s4 _ _ gT),rfl,?_⟩;have s24:=s3.trans s4;obtain⟨x1,gx,lx,sx,ex⟩:=place s24 (i:=st) (by rw[eln];lia);obtain⟨y1,gy,ly,sy,ey⟩:=place s24 (i:=en) (by rw[eln];lia);show AN (SqL.of (s24 _ _ hp0)) (AM (pix (i:=st) (by lia))) ?_;show AN (SqL.of (s24 _ _ hp0)) (AM (pix (i:=en) (by lia))) ?_;show Hm gx gy lx ly (show kk.toNat<=4 by lia) sx sy (λH5 s5=>?_);have epr:sm kk.toNat (λo=>x1.getD (2*o) 0*y1.getD (2*o+1) 0)=pr (P1 kk.toNat a) kk.toNat st en:=by
   unfold pr;exact AQ kk.toNat λo _=>by rw[ex,ey]
  rw[epr];have bpr:=JC (show kk.toNat<=4 by lia) hsm st en;have br:=NS (ps:=a.map (plw (ones kk.toNat))) (k:=kk.toNat) (n:=a.length) hsm (by lia) hl hlt hen;show Aw (An bpr.1 bpr.2 Dt) (An br.1 br.2 IB) ?_;ext;have hy5:=s5 _ _ hy;refine ifd (λhz=>?_) (λhz=>?_)
  ·have hfx:fs (st,en)=true:=by rw[efs];exact decide_eq_true hz
   rw[if_pos hfx]at hfm;show⟨small (show 2<=1000 by decide),λT hT=>?_⟩;have t6:=AL hT (.tup [.int (st:Int), .int (en:Int)]);have g6:(upd H5 T (.tup [.int (st:Int), .int (en:Int)])) T=some (.tup [.int (st:Int), .int (en:Int)]):=AJ;have hyT:=t6 _ _ hy5;have hpT:=(hpr.same s5).same t6;refine⟨ys,hyT,by rw[sizeLine_eq];lia,vs'.length-(i+1),by lia,rfl,by lia,_,AJ,by rw[List.length_append,List.length_singleton];lia,λz o hz=>?_,?_⟩
   ·rw[AE (AT hz hD)];exact t6 _ _ (s5 _ _ (s4 _ _ hz))
   ·rw[hfm];exact(hpT.lst hyT).more (by rw[AE (CF g6 hyT (λz=>by cases z))];exact g6)
  ·have hfx:¬fs (st,en)=true:=by rw[efs];exact λz=>hz (of_decide_eq_true z)
   rw[if_neg hfx]at hfm;exact⟨vs'.length-(i+1),by lia,rfl,by lia,ys,hy5,by lia,s4.trans s5,by rw[hfm];exact hpr.same s5⟩
theorem RY:FnScope ["bracket"] ["bracket"] (AK IZ):=scM
theorem R3(F:Fun K "opens" "opens" IZ f fd)(T:Txt K mg aK cs aC):FnOk P w K mg base CX0 (k+1) f fd ["bracket"] (Fd):=by
 refine F.ok RY (λvs H Q E h=>?_) (λcdv A outer s H vs Q E hr h=>?_)
 ·obtain⟨b,rfl,_⟩:=h;rfl
 obtain⟨b,rfl,q⟩:=h;have hu:=hr.units0;refine⟨_,(AF (AR (BG (A3 K hu) (AG Cw (pv 0) AC) AC (AS _)))),?_⟩;ext;have e:decide ((b:Int)%2=0)=decide (b%2=0):=decide_eq_decide.mpr (by lia);rw[e];exact q
theorem OI:FnScope ["self","k","row"] ["self","k","row"] (AK C9):=scM
theorem OO(F:Fun K "__init__" "Course.__init__" C9 f fd)(T:Txt K mg aK cs aC)(ud:FnU P w K mg base k "counted_places" ["k","row"] (EL))(ub:FnU P w K mg base k "span_sums" ["places"] (DH)):FnOk P w K mg base CX0 (k+1) f fd ["self","k","row"] (IL aC):=by
 refine F.ok OI (λvs H Q E h=>?_) (λcdv A outer s H vs Q E hr h=>?_)
 ·obtain⟨co,dx,k,a,H0,rfl,_⟩:=h;rfl
 obtain⟨co,dx,kk,a,H0,rfl,k1,k4,hro,hco,h0co,s0,q⟩:=h;have hu:=hr.units0;have hl:=Az hro;refine⟨_,(AD (EZ K (pv 0) (AV ud hr (AA (pv 1) (AA (pv 2) AB)))) (AD (EZ K (pv 0) (AV ub hr (AA (A8 K (pv 0)) AB))) (AD (EZ K (pv 0) AC) (AD (EZ K (pv 0) (Am AB)) (AF (EZ K (pv 0) (Am (AA (Bb (own:=["row_sums"]) (sel:=[]) (A4 (osc:=(AK C9)) (N:=["self","k","row"]) (by decide +kernel)) rfl (Bv K (A8 K (pv 0))) (λ_ _ _ _ _=>(AU (i:=0) (show(["row_sums"]:List Str).Nodup from by decide +kernel) rfl (Or.inl rfl))) (Ak (by decide)) (λ_ _ _ _ _=>BQ) (λ_ _ _ _ _=>(AH (AI K) (pv 0) (CC B7 AC) (λ_ _=>rfl)))) AB)))))))),?_⟩;show FI k1 k4 hl (λpl H1 hpl s1 hP1=>?_);ext;have hco1:=s1 _ _ hco;refine⟨co,aC,dx,[],rfl,hco1,T.cl_Course,T.no_places,by show 0<1000;decide,?_⟩;have g2:(upd H1 co (.ins aC dx (Ai "places" (.ref pl) []))) co=some (.ins aC dx [("places", .ref pl)]):=AJ;have sb2:SameBut1 co H1 (upd H1 co (.ins aC dx (Ai "places" (.ref pl) []))):=SameBut1.upd;generalize upd H1 co _=G2 at*
 have npl:pl≠co:=λz=>by rw[z,hco]at hpl;cases hpl
 have lst2:∀b xs,H1 b=some (.lst xs)->G2 b=some (.lst xs):=λb xs z=>sb2 _ _ z λe=>by rw[e,hco1]at z;cases z
 have hP2:Pls G2 pl (a.map (plw (ones kk.toNat))):=by
  obtain⟨pd,h1,h2⟩:=hP1;exact⟨pd,lst2 _ _ h1,λi hi=>lst2 _ _ (h2 i hi)⟩
 show⟨co,aC,dx,_,_,rfl,g2,T.cl_Course,T.no_places,rfl,?_⟩;show Dd (k:=kk.toNat) hP2 (by rw[List.length_map];exact hl) (by lia) (λl hll=>BN (by lia) l hll) (λsm ad H3 tb3=>?_);rw[List.length_map]at tb3;have g3:=tb3.sm _ _ g2;have hP3:=hP2.same tb3.sm;show⟨co,aC,dx,_,rfl,g3,T.cl_Course,T.no_sums,by show 1<1000;decide,?_⟩;have g4:(upd H3 co (.ins aC dx (Ai "sums" (.ref sm) [("places", .ref pl)]))) co=some (.ins aC dx [("places", .ref pl),("sums", .ref sm)]):=AJ;have sb4:SameBut1 co H3 (upd H3 co (.ins aC dx (Ai "sums" (.ref sm) [("places", .ref pl)]))):=SameBut1.upd;generalize upd H3 co _=G4 at*
 show⟨co,aC,dx,_,rfl,g4,T.cl_Course,T.no_at,by show 2<1000;decide,?_⟩;have g5:(upd G4 co (.ins aC dx (Ai "at" (.int 0) [("places", .ref pl),("sums", .ref sm)]))) co=some (.ins aC dx [("places", .ref pl),("sums", .ref sm),("at", .int 0)]):=AJ;have sb5:=sb4.trans (SameBut1.upd (p:=co) (H:=G4) (o:= .ins aC dx (Ai "at" (.int 0) [("places", .ref pl),("sums", .ref sm)])));generalize upd G4 co _=G5 at*
 show⟨small (show 0<=1000 by decide),λcl hcl=>?_⟩;have ncc:cl≠co:=λz=>by rw[z,g5]at hcl;cases hcl
 have t6:=AL hcl (.lst []);have gc6:(upd G5 cl (.lst [])) cl=some (.lst []):=AJ;have g6:=t6 _ _ g5;have sb6:=sb5.trans (SameBut1.of (p:=co) t6);have hcl3:H3 cl=none:=by
  cases e:H3 cl with
  |none=>rfl
  |some o=>rw[sb5 _ _ e ncc]at hcl;cases hcl
 generalize upd G5 cl _=G6 at*
 show⟨co,aC,dx,_,rfl,g6,T.cl_Course,T.no_closings,by show 3<1000;decide,?_⟩;have g7:(upd G6 co (.ins aC dx (Ai "closings" (.ref cl) [("places", .ref pl),("sums", .ref sm),("at", .int 0)]))) co=some (.ins aC dx [("places", .ref pl),("sums", .ref sm),("at", .int 0),("closings", .ref cl)]):=AJ;have sb7:=sb6.trans (SameBut1.upd (p:=co) (H:=G6) (o:= .ins aC dx (Ai "closings" (.ref cl) [("places", .ref pl),("sums", .ref sm),("at", .int 0)])));have gc7:(upd G6 co (.ins aC dx (Ai "closings" (.ref cl) [("places", .ref pl),("sums", .ref sm),("at", .int 0)]))) cl=some (.lst []):=by rw[AE ncc];exact gc6
 generalize upd G6 co _=G7 at*
 have nsm:sm≠co:=λz=>by have:=tb3.fs;rw[z,g2]at this;cases this
 show⟨co,aC,dx,_,_,rfl,g7,T.cl_Course,T.no_sums,rfl,?_⟩;ext;have top7:=sb7 _ _ tb3.top nsm;have nad:∀i,i<=a.length->ad i≠co:=λi hi z=>by have:=tb3.fa i hi;rw[z,g2]at this;cases this
 refine⟨sm,rfl,⟨_,SqL.of top7⟩,?_⟩;refine RT (λi=>V.ref (ad i)) (λi=>V.int (W kk.toNat a i [])) (small (by lia)) top7 (λD H8 hD s8 hy=>?_) (λi H8 R hi s8 r=>?_)
 rotate_left
 ·have row8:=s8 _ _ (sb7 _ _ (tb3.row i (by lia)) (nad i (by lia)));show AN (SqL.of row8) (Fx (by rw[CY];lia) (by rw[CY,Nat.add_sub_cancel];exact Bx (Nat.le_refl _))) ?_;have e:tbl (pa_ kk.toNat a) kk.toNat i a.length=W kk.toNat a i []:=by unfold tbl W;rw[if_pos (by lia)]
  have:=r H8 (Same.refl _);rw[<-e]at this;exact this
 have hy:H8 D=some (iL (CP kk.toNat a [])):=by rw[hy];unfold iL CP;rw[List.map_map];rfl
 have g8:=s8 _ _ g7;have gc8:=s8 _ _ gc7;have sb8:=sb7.trans (SameBut1.of (p:=co) s8);show⟨small (show 1<=1000 by decide),λrs hrs=>?_⟩;have nrc:rs≠co:=(AT g8 hrs).symm;have nrl:cl≠rs:=AT gc8 hrs;have nrD:D≠rs:=AT hy hrs;have nDc:D≠co:=(AT g7 hD).symm;have nDl:D≠cl:=(AT gc7 hD).symm;have hrs3:H3 rs=none:=by
  cases e:H3 rs with
  |none=>rfl
  |some o=>rw[sb8 _ _ e nrc]at hrs;cases hrs
 have t9:=AL hrs (.lst [.ref D]);show⟨co,aC,dx,_,rfl,by rw[AE nrc.symm];exact g8,T.cl_Course,T.no_rests,by show 4<1000;decide,?_⟩;have low:∀b o,H0 b=some o->H3 b=some o/\b≠co:=λb o z=>by
  have hb:b≠co:=AT z h0co;exact⟨tb3.sm _ _ (sb2 _ _ (s1 _ _ (s0 _ _ z)) hb),hb⟩
 have lowN:∀ {b:Addr},H3 b=none->H0 b=none:=fun{b} z=>by
  cases e:H0 b with
  |none=>rfl
  |some o=>rw[(low b o e).1]at z;cases z
 refine q _ ⟨dx,pl,sm,cl,rs,G2,H3,ad,[D],?_⟩;refine{ob:=(by rw[AJ];rfl),pls:=hP3,tb:=tb3,keep:=λb o z hb=>?_,nco:=λxs z=>(by rw[g3]at z;cases z),ncl:=hcl3,nrs:=hrs3,ne:=nrl,clo:=?_,res:=?_,ral:=rfl,rows:=λj x hx=>?_,h0:=λb o z=>?_,h0co:=h0co,h0cl:=lowN hcl3,h0rs:=lowN hrs3,len:=hl,hk:=(by lia)}
 ·rw[AE hb];exact t9 _ _ (sb8 _ _ z hb)
 ·rw[AE ncc,AE nrl];exact gc8
 ·rw[AE nrc,AJ];rfl
 ·cases j with
  |zero=>
   have hx:D=x:=Option.some.inj hx;subst hx;exact⟨by rw[AE nDc,AE nrD];exact hy,nDl,nrD⟩
  |succ j=>simp at hx
 ·obtain⟨z1,z2⟩:=low b o z;rw[AE z2];exact t9 _ _ (sb8 _ _ z1 z2)
theorem OD:FnScope ["self"] ["self"] (AK Da):=scM
theorem OE(F:Fun K "many_in_all" "Course.many_in_all" Da f fd)(T:Txt K mg aK cs aC)(u7:FnU P w K mg base k "whole_sum" ["sums"] (CS)):FnOk P w K mg base CX0 (k+1) f fd ["self"] (Io aC):=by
 refine F.ok OD (λvs H Q E h=>?_) (λcdv A outer s H vs Q E hr h=>?_)
 ·obtain⟨co,k,a,i,st,H0,rfl,_⟩:=h;rfl
 obtain⟨co,kk,a,i,st,H0,rfl,⟨dx,pl,sm,cl,rs,Hz,Hb,ad,ra,c⟩,q⟩:=h;have hu:=hr.units0;refine⟨_,(AF (AR (AV u7 hr (AA (A8 K (pv 0)) AB)))),?_⟩;show⟨co,aC,dx,_,_,rfl,c.ob,T.cl_Course,T.no_sums,rfl,?_⟩;show Cq c.tbH ?_;exact q
theorem uQ:FnScope ["self","start","closing","rest"] ["self","start","closing"] (AK C8):=scM
theorem OC(F:Fun K "many_closing" "Course.many_closing" C8 f fd)(T:Txt K mg aK cs aC):FnOk P w K mg base CX0 (k+1) f fd ["self","start","closing"] (FK aC):=by
 refine F.ok uQ (λvs H Q E h=>?_) (λcdv A outer s H vs Q E hr h=>?_)
 ·obtain⟨co,k,a,i,st,H0,s,p,rfl,_⟩:=h;rfl
 obtain⟨co,kk,a,i,st,H0,sv,p,rfl,⟨dx,pl,sm,cl,rs,Hz,Hb,ad,ra,c⟩,hs,hp,q⟩:=h;have hu:=hr.units0;have hl:=c.len;have hk:=c.hk;obtain⟨x0,hx0,gx0⟩:=c.top;refine⟨_,(AD (AO (i:=3) uQ.nd rfl (Or.inr rfl) (AH (AI K) (A8 K (pv 0)) (CC B7 AC) (λ_ _=>rfl))) (AF (AR (Ae (Kq K rfl) rfl T.n_sum PyProof.Rows.boot_sum (AA (Bb (own:=["end"]) (sel:=[3,2,1,0]) (A4 (osc:=(AK C8)) (N:=["self","start","closing","rest"]) (by decide +kernel)) rfl (Bi rfl T.n_range (AA (pv 1) (AA (Ae (Ar K) rfl T.n_len PySem.boot_len (AA (A8 K (pv 0)) AB)) (AA AC AB)))) (λ_ _ _ _ _=>(AU (i:=0) (show(["end","rest","closing","start","self"]:List Str).Nodup from by decide +kernel) rfl (Or.inl rfl))) (Ak (by decide)) (λ_ _ _ _ _=>BQ) (λ_ _ _ _ _=>(AG Av (AG Av (AH (AI K) (AH (AI K) (A8 K (pv 4)) (pv 3) (λ_ _=>rfl)) (pv 0) (λ_ _=>rfl)) (AH (AI K) (AH (AI K) (A8 K (pv 4)) (pv 0) (λ_ _=>rfl)) (pv 2) (λ_ _=>rfl))) (AH (AI K) (pv 1) (AG AX (pv 0) AC) (λ_ _=>rfl))))) AB))))),?_⟩;show⟨co,aC,dx,_,_,rfl,c.ob,T.cl_Course,T.no_rests,rfl,?_⟩;show AN (SqL.of c.res) hx0 ?_;show⟨co,aC,dx,_,_,rfl,c.ob,T.cl_Course,T.no_places,rfl,?_⟩;obtain⟨px,gpl,lpl⟩:=L9 c.plH;rw[List.length_map]at lpl;show BA (.inl (SqL.of gpl)) ?_;rw[lpl];show⟨_,_,_,rfl,⟨by decide,by decide,B3 (by lia) (by lia) (by lia) (by lia)⟩,?_⟩;rw[show rN (sv:Int) (a.length:Int) 2=(a.length-sv+1)/2 by rw[CA];lia];refine KO (λe=>V.int (tbl (pa_ kk a) kk sv (sv+2*e)*pa_ kk a (sv+2*e) (2*p+1)*W kk a (sv+2*e+1) st)) (small (by lia)) (λD H5 hD s5 hy=>?_) (λe H5 R he s5 r=>?_)
 ·have em:((List.range ((a.length-sv+1)/2)).map λe=>V.int (tbl (pa_ kk a) kk sv (sv+2*e)*pa_ kk a (sv+2*e) (2*p+1)*W kk a (sv+2*e+1) st))=((List.range ((a.length-sv+1)/2)).map λe=>tbl (pa_ kk a) kk sv (sv+2*e)*pa_ kk a (sv+2*e) (2*p+1)*W kk a (sv+2*e+1) st).map V.int:=by rw[List.map_map];rfl
  rw[em]at hy;show NQ (SqL.of hy) ?_;rw[HG,<-Ub kk a sv p st hs];exact q H5 s5
 obtain⟨E1,eE⟩:∃E1:Nat,E1=sv+2*e:=⟨_,rfl⟩;have e2:((sv:Int)+(e:Int)*2)=(E1:Int):=by lia
 have hE:E1<a.length:=by lia
 rw[<-eE]at r;rw[e2];have ob5:=s5 _ _ c.ob;have tb5:=c.tbH;obtain⟨ps,px1,gps,hpx,lps,gpx⟩:=Mw c.plH (i:=E1) (by rw[List.length_map];exact hE);have hml:(a.map (plw (ones kk))).getD E1 []∈a.map (plw (ones kk)):=by
  rw[List.getD_eq_getElem?_getD,List.getElem?_eq_getElem (by rw[List.length_map];exact hE)];exact List.getElem_mem _
 have hll:=(BN hk _ hml).1;show⟨co,aC,dx,_,_,rfl,ob5,T.cl_Course,T.no_sums,rfl,?_⟩;show AN (SqL.of (s5 _ _ tb5.top)) (AM (tb5.at (i:=sv) hs)) ?_;show AN (SqL.of (s5 _ _ (tb5.row sv hs))) (AM (Bx (by lia))) ?_;show⟨co,aC,dx,_,_,rfl,ob5,T.cl_Course,T.no_places,rfl,?_⟩;show AN (SqL.of (s5 _ _ gps)) (AM hpx) ?_;ext;have ecl:(2*(p:Int)+1)=((2*p+1:Nat):Int):=by lia
 have epa:(((a.map (plw (ones kk))).getD E1 []).map V.int)[2*p+1]? =some (.int (pa_ kk a E1 (2*p+1))):=by
  rw[List.getElem?_map,List.getElem?_eq_getElem (show 2*p+1<((a.map (plw (ones kk))).getD E1 []).length by lia)];show some (V.int _)=some (V.int (((a.map (plw (ones kk))).getD E1 []).getD (2*p+1) 0));rw[List.getD_eq_getElem?_getD (l:=(a.map (plw (ones kk))).getD E1 []),List.getElem?_eq_getElem (show 2*p+1<((a.map (plw (ones kk))).getD E1 []).length by lia)]
  rfl
 rw[ecl];refine AN (SqL.of (s5 _ _ gpx)) (AM epa) ?_;show Aw (nab (IG hk (by lia)).1 (IG hk (by lia)).2 DL) (nab (Es hk _ _).1 (Es hk _ _).2 DF) ?_;ext;have e3:((E1:Int)+1)=((E1+1:Nat):Int):=by lia
 rw[e3];refine AN (SqL.of (s5 _ _ gx0)) (AM (Ly (by lia))) ?_;show Aw (Ug hk (by lia)) (nab (GH hk hl _ _).1 (GH hk hl _ _).2 DL) ?_;exact r H5 (Same.refl _)
theorem OG:FnScope ["self","bracket"] ["self","bracket"] (AK Dc):=scM
theorem OH(F:Fun K "many_with" "Course.many_with" Dc f fd)(T:Txt K mg aK cs aC)(yf:FnU P w K mg base k "opens" ["bracket"] (Fd))(uf:MeU P w K mg base k aC "many_closing" ["self","start","closing"] (FK aC)):FnOk P w K mg base CX0 (k+1) f fd ["self","bracket"] (IJ aC):=by
 refine F.ok OG (λvs H Q E h=>?_) (λcdv A outer s H vs Q E hr h=>?_)
 ·obtain⟨co,k,a,i,st,H0,b,rfl,_⟩:=h;rfl
 obtain⟨co,kk,a,i,st,H0,b,rfl,hC,hi,hb,q⟩:=h;obtain⟨dx,pl,sm,cl,rs,Hz,Hb,ad,ra,c⟩:=id hC;have hu:=hr.units0;have hl:=c.len;have hk:=c.hk;obtain⟨ps,px1,gps,hpx,lps,gpx⟩:=Mw c.plH (i:=i) (by rw[List.length_map];exact hi);have hml:(a.map (plw (ones kk))).getD i []∈a.map (plw (ones kk)):=by
  rw[List.getD_eq_getElem?_getD,List.getElem?_eq_getElem (by rw[List.length_map];exact hi)];exact List.getElem_mem _
 have hll:=(BN hk _ hml).1;have epa:(((a.map (plw (ones kk))).getD i []).map V.int)[b]? =some (.int (pa_ kk a i b)):=by
  rw[List.getElem?_map,List.getElem?_eq_getElem (show b<((a.map (plw (ones kk))).getD i []).length by lia)];show some (V.int _)=some (V.int (((a.map (plw (ones kk))).getD i []).getD b 0));rw[List.getD_eq_getElem?_getD (l:=(a.map (plw (ones kk))).getD i []),List.getElem?_eq_getElem (show b<((a.map (plw (ones kk))).getD i []).length by lia)]
  rfl
 refine⟨_,(AD (Ac (AW (A3 K hu) (AH (AI K) (AH (AI K) (A8 K (pv 0)) (A8 K (pv 0)) (λ_ _=>rfl)) (pv 1) (λ_ _=>rfl)) AC (AS _)) (AF (AR AC)) Ad) (AD (Ac (BU K (AV yf hr (AA (pv 1) AB))) (AF (AR (Ep T.cl_Course uf hr (pv 0) (AA (AG AX (A8 K (pv 0)) AC) (AA (AG AX (pv 1) AC) AB))))) Ad) (AD (Ac (PW.pt (Bf (Be (BU K (A8 K (pv 0)))) (Bo (AW (Bq K hu) (AH (AI K) (A8 K (pv 0)) (CC B7 AC) (λ_ _=>rfl)) (pv 1) (AS _))))) (AF (AR AC)) Ad) (AF (AR (AH (AI K) (AH (AI K) (A8 K (pv 0)) (CC B7 AC) (λ_ _=>rfl)) (AG AX (A8 K (pv 0)) AC) (λ_ _=>rfl))))))),?_⟩;show⟨co,aC,dx,_,_,rfl,c.ob,T.cl_Course,T.no_places,rfl,?_⟩;show⟨co,aC,dx,_,_,rfl,c.ob,T.cl_Course,T.no_at,rfl,?_⟩;show AN (SqL.of gps) (AM hpx) ?_;show AN (SqL.of gpx) (AM epa) ?_;ext
 by_cases hz:pa_ kk a i b=0
 ·refine ifp (decide_eq_true hz) ?_;ext;have e:mw kk a i st b=0:=by
   unfold mw
   split
   ·rw[hz,Int.zero_mul]
   ·cases st with
    |nil=>rfl
    |cons o s'=>
     show(if 2*o+1=b then pa_ kk a i b*W kk a (i+1) s' else 0)=0
     split
     ·rw[hz,Int.zero_mul]
     ·rfl
  have:=q H (Same.refl H);rw[e]at this;exact this
 have h1:pa_ kk a i b=1:=(E4 hk hi).resolve_left hz;refine ifq (decide_eq_false hz) ?_;show Ka ?_;ext;have e1:((i:Int)+1)=((i+1:Nat):Int):=by lia
 by_cases hev:b%2=0
 ·refine ifp (decide_eq_true hev) ?_;show⟨co,dx,_,rfl,c.ob,rfl,?_⟩;show⟨co,aC,dx,_,_,rfl,c.ob,T.cl_Course,T.no_at,rfl,?_⟩;ext;have e2:((b:Int)+1)=2*((b/2:Nat):Int)+1:=by lia
  rw[e1,e2];refine⟨co,kk,a,i,st,H0,i+1,b/2,rfl,hC,by lia,by lia,λH' s'=>?_⟩;have:=q H' s';unfold mw at this;rw[if_pos hev,h1,Int.one_mul]at this;exact this
 refine ifq (decide_eq_false hev) ?_;show⟨co,aC,dx,_,_,rfl,c.ob,T.cl_Course,T.no_closings,rfl,?_⟩;refine Iu (SqL.of c.clo) ?_
 cases st with
 |nil=>
  show ifp rfl ?_;refine ifp rfl ?_;ext;have:=q H (Same.refl H);unfold mw at this;rw[if_neg hev]at this;exact this
 |cons o s'=>
  have ee:(Bg (o::s')).isEmpty=false:=by rw[ER];simp
  rw[ee];show ifq rfl ?_;show⟨co,aC,dx,_,_,rfl,c.ob,T.cl_Course,T.no_closings,rfl,?_⟩;show AN (SqL.of c.clo) (RH o s') ?_;ext
  by_cases hob:2*o+1=b
  ·refine ifq (by rw[show(2*(o:Int)+1)=(b:Int) by lia];simp) ?_;show⟨co,aC,dx,_,_,rfl,c.ob,T.cl_Course,T.no_rests,rfl,?_⟩;ext;obtain⟨x1,hx1⟩:∃x,ra[s'.length]? =some x:=⟨_,List.getElem?_eq_getElem (by rw[c.ral,List.length_cons];lia)⟩;have hrow:=(c.rows _ x1 hx1).1;rw[List.length_cons,show s'.length+1-s'.length=1 by lia,List.drop_one,List.tail_cons]at hrow;refine AN (SqL.of c.res) (Sh (by rw[List.length_map,c.ral,List.length_cons];lia) (by rw[List.length_map,c.ral,List.length_cons,List.getElem?_map,show s'.length+1+1-2=s'.length by lia,hx1];rfl)) ?_;show⟨co,aC,dx,_,_,rfl,c.ob,T.cl_Course,T.no_at,rfl,?_⟩;ext;rw[e1];refine AN (SqL.of hrow) (AM (Ly (by lia))) ?_;have:=q H (Same.refl H);unfold mw at this;rw[if_neg hev]at this;simp only[if_pos hob,h1,Int.one_mul]at this;exact this
  ·refine ifp (by rw[Bool.not_eq_true',decide_eq_false_iff_not];lia) ?_;ext;have:=q H (Same.refl H);unfold mw at this;rw[if_neg hev]at this;simp only[if_neg hob]at this;exact this
theorem yk:FnScope ["self","bracket","rest"] ["self","bracket"] (AK DC):=scM
theorem O0(F:Fun K "take" "Course.take" DC f fd)(T:Txt K mg aK cs aC)(yf:FnU P w K mg base k "opens" ["bracket"] (Fd))(uf:MeU P w K mg base k aC "many_closing" ["self","start","closing"] (FK aC)):FnOk P w K mg base CX0 (k+1) f fd ["self","bracket"] (IK aC):=by
 refine F.ok yk (λvs H Q E h=>?_) (λcdv A outer s H vs Q E hr h=>?_)
 ·obtain⟨co,k,a,i,st,H0,b,rfl,_⟩:=h;rfl
 obtain⟨co,kk,a,i,st,H0,b,rfl,hC,hi,hb,hst,hne,q⟩:=h;obtain⟨dx,pl,sm,cl,rs,Hz,Hb,ad,ra,c⟩:=id hC;have hu:=hr.units0;have hl:=c.len;have hk:=c.hk;refine⟨_,(AD (QA K ML (pv 0) AC) (AF (Ac (BU K (AV yf hr (AA (pv 1) AB))) (AD (EK (i:=2) yk.nd rfl (Or.inl rfl) (own:=["start"]) (sel:=[0,1]) (A4 (osc:=(AK DC)) (N:=["self","bracket","rest"]) (by decide +kernel)) rfl (CH rfl T.n_range (AA (AG AX (Ae (Ar K) rfl T.n_len PySem.boot_len (AA (A8 K (pv 0)) AB)) AC) AB)) (λ_ _ _ _ _=>(AU (i:=0) (show(["start","self","bracket"]:List Str).Nodup from by decide +kernel) rfl (Or.inl rfl))) (Ak (by decide)) (λ_ _ _ _ _=>BQ) (λ_ _ _ _ _=>(Ep T.cl_Course uf hr (pv 1) (AA (pv 0) (AA (AG AX (pv 2) AC) AB))))) (AD (Al (Bp K PySem.F.plainAttrs_list PySem.F.slot_list_append PySem.F.type_list_append CI (A8 K (pv 0)) (AA (pv 2) AB))) (AF (Al (Bp K PySem.F.plainAttrs_list PySem.F.slot_list_append PySem.F.type_list_append CI (A8 K (pv 0)) (AA (AG AX (pv 1) AC) AB)))))) (AD (Al (Fk K PySem.F.plainAttrs_list PySem.F.slot_list_pop PySem.F.type_list_pop F4 (A8 K (pv 0)))) (AF (Al (Fk K PySem.F.plainAttrs_list PySem.F.slot_list_pop PySem.F.type_list_pop F4 (A8 K (pv 0))))))))),?_⟩;show⟨co,aC,dx,_,_,rfl,c.ob,T.cl_Course,T.no_at,rfl,?_⟩;show .inl ⟨_,_,rfl,rfl,?_⟩;refine⟨dx,_,c.ob,by show 5<1000;decide,?_⟩;have e1:(((i+1:Nat):Int))=(i:Int)+1:=by lia
 have c1:CoS aC H0 (upd H co (.ins aC dx (Ai "at" (.int ((i:Int)+1)) (cf pl sm cl rs i)))) co kk a (i+1) st dx pl sm cl rs Hz Hb ad ra:=by
  have c0:=c.at (i+1);have e0:cf pl sm cl rs (((i+1:Nat):Int))=Ai "at" (.int ((i:Int)+1)) (cf pl sm cl rs i):=by rw[e1];rfl
  rw[e0]at c0;exact c0
 generalize upd H co _=G1 at*
 have hC1:Co aC H0 G1 co kk a (i+1) st:=⟨dx,pl,sm,cl,rs,Hz,Hb,ad,ra,c1⟩;show Ka ?_;ext
 by_cases hev:b%2=0
 ·have est:stb st b=b/2::st:=by unfold stb;rw[if_pos hev]
  rw[est]at q;have e2:((b:Int)+1)=2*((b/2:Nat):Int)+1:=by lia
  refine ifp (decide_eq_true hev) ?_;show⟨co,aC,dx,_,_,rfl,c1.ob,T.cl_Course,T.no_places,rfl,?_⟩;obtain⟨px,gpl,lpl⟩:=L9 c1.plH;rw[List.length_map]at lpl;show BA (.inl (SqL.of gpl)) ?_;rw[lpl];show⟨_,rfl,by lia,by lia,?_⟩;rw[show((a.length:Int)+1).toNat=a.length+1 by lia];refine RS (λs=>V.int (W kk a s (b/2::st))) (small (by lia)) (λD H2 hD s2 hy=>?_) (λj H2 R hj s2 r=>?_)
  rotate_left
  ·have ej:(0:Int)+(j:Int)=(j:Int):=by lia
   rw[ej];show⟨co,dx,_,rfl,s2 _ _ c1.ob,rfl,?_⟩;ext;rw[e2];exact⟨co,kk,a,i+1,st,H0,j,b/2,rfl,hC1.same s2,by lia,by lia,λH3 s3=>r H3 s3⟩
  have hy:H2 D=some (iL (CP kk a (b/2::st))):=by rw[hy];unfold iL CP;rw[List.map_map];rfl
  have nDc:D≠cl:=(AT c1.clo hD).symm;have nDr:D≠rs:=(AT c1.res hD).symm;have ob2:=s2 _ _ c1.ob;have res2:=s2 _ _ c1.res;have clo2:=s2 _ _ c1.clo;show⟨co,aC,dx,_,_,rfl,ob2,T.cl_Course,T.no_rests,rfl,?_⟩;refine⟨.inl ⟨rfl,_,SqL.of res2⟩,?_⟩;show⟨rs,_, .ref D,rfl,rfl,res2,by rw[List.length_map,c1.ral,sizeLine_eq];lia,?_⟩;have c2:CoS aC H0 H2 co kk a (i+1) st dx pl sm cl rs Hz Hb ad ra:=by
   exact{ob:=ob2,pls:=c1.pls,tb:=c1.tb,keep:=λb o z n=>s2 _ _ (c1.keep b o z n),nco:=c1.nco,ncl:=c1.ncl,nrs:=c1.nrs,ne:=c1.ne,clo:=clo2,res:=res2,ral:=c1.ral,rows:=λj x hx=>⟨s2 _ _ (c1.rows j x hx).1,(c1.rows j x hx).2⟩,h0:=c1.h0.trans s2,h0co:=c1.h0co,h0cl:=c1.h0cl,h0rs:=c1.h0rs,len:=c1.len,hk:=c1.hk}
  have c3:=c2.push hy nDc nDr;have nrc:=c2.nl res2;show⟨co,aC,dx,_,_,rfl,by rw[AE nrc.symm];exact ob2,T.cl_Course,T.no_closings,rfl,?_⟩;have clo3:(upd H2 rs (.lst (ra.map V.ref++[.ref D]))) cl=some (.lst (Bg st)):=by rw[AE c1.ne];exact clo2
  refine⟨.inl ⟨rfl,_,SqL.of clo3⟩,?_⟩;ext;rw[e2];refine⟨cl,_,_,rfl,rfl,clo3,by unfold Bg;rw[List.length_map,List.length_reverse,sizeLine_eq];lia,?_⟩;show q _ ⟨dx,pl,sm,cl,rs,Hz,Hb,ad,ra++[D],?_⟩;have ea:(ra++[D]).map V.ref=ra.map V.ref++[.ref D]:=by rw[List.map_append];rfl
  rw[ea,ER]at c3;exact c3
 have est:stb st b=st.tail:=by unfold stb;rw[if_neg hev]
 rw[est]at q;refine ifq (decide_eq_false hev) ?_
 cases st with
 |nil=>exact absurd rfl (hne (by lia))
 |cons o s'=>
  have c3:=c1.pop;have nrc:=c1.nl c1.res;have hral:=c1.ral;rw[List.length_cons]at hral;obtain⟨xl,hxl⟩:∃x,(ra.map V.ref)[(ra.map V.ref).length-1]? =some x:=⟨_,List.getElem?_eq_getElem (by rw[List.length_map];lia)⟩;show⟨co,aC,dx,_,_,rfl,c1.ob,T.cl_Course,T.no_rests,rfl,?_⟩;refine⟨.inl ⟨rfl,_,SqL.of c1.res⟩,?_⟩;refine⟨rs,_,xl,rfl,rfl,c1.res,hxl,?_⟩;have edl:(ra.map V.ref).dropLast=ra.dropLast.map V.ref:=by rw[List.map_dropLast]
  rw[edl];show⟨co,aC,dx,_,_,rfl,by rw[AE nrc.symm];exact c1.ob,T.cl_Course,T.no_closings,rfl,?_⟩;have clo3:(upd G1 rs (.lst (ra.dropLast.map V.ref))) cl=some (.lst (Bg (o::s'))):=by rw[AE c1.ne];exact c1.clo
  refine⟨.inl ⟨rfl,_,SqL.of clo3⟩,?_⟩;refine⟨cl,_, .int (2*(o:Int)+1),rfl,rfl,clo3,by rw[ER];simp,?_⟩;have ecl:(Bg (o::s')).dropLast=Bg s':=by rw[ER,List.dropLast_concat]
  rw[ecl];ext;exact q _ ⟨dx,pl,sm,cl,rs,Hz,Hb,ad,ra.dropLast,c3⟩
theorem ul:FnScope ["k","row","i","course","left","found","bracket"] ["k","row","i"] (AK Gh):=scM
theorem Ow(F:Fun K "nth_filling" "nth_filling" Gh f fd)(T:Txt K mg aK cs aC)(u4:FnUE P w K mg base k "check_line" ["k","row"] (BP K cs CQ))(uM:MkU P w K mg base k aC ["self","k","row"] (IL aC))(y9:MeU P w K mg base k aC "take" ["self","bracket"] (IK aC))(uj:FnU P w K mg base k "is_whole" ["thing"] (DG K))(uy:MeU P w K mg base k aC "many_with" ["self","bracket"] (IJ aC))(uF:MeU P w K mg base k aC "many_in_all" ["self"] (Io aC)):FnOk P w K mg base (CXE P w) (k+1) f fd ["k","row","i"] (Im K cs):=by
 refine F.okE ul (λvs H Q E h=>?_) (λcdv A outer s H vs Q E hr h=>?_)
 ·rcases h with⟨kk,a,n,rfl,_⟩|⟨kv,v,iv,rfl,_⟩<;>rfl
 have hu:=hr.units0;refine⟨_,(AD (Al (AZ u4 hr BJ (AA (pv 0) (AA (pv 1) AB)))) (AD (AO (i:=3) ul.nd rfl (Or.inl rfl) (VP uM hr T.c_Course (AA (pv 0) (AA (pv 1) AB)))) (AD (Ac (PW.pt (Bf (Be (BU K (AV uj hr (AA (pv 2) AB)))) (Bo (Be (Hi GD D5 AC (pv 2) (Ti T.cl_Course uF hr (pv 3))))))) (AF (CT T.e_NoNumber T.c_NoNumber hr.hd Ce (AA (Ap (l:=[116,104,101,32,114,111,119,32,104,97,115,32,110,111,32,114,105,103,104,116,32,102,105,108,108,105,110,103,32,111,102,32,116,104,105,115,32,110,117,109,98,101,114]) (by decide +kernel)) AB))) Ad) (AD (AO (i:=4) ul.nd rfl (Or.inl rfl) (pv 2)) (AD (AO (i:=5) ul.nd rfl (Or.inl rfl) (Ap (l:=[]) (by decide +kernel))) (AD (PS.nox (Hj PassesOwn.never (AW D5 (Ae (Ar K) rfl T.n_len PySem.boot_len (AA (pv 5) AB)) (Ae (Ar K) rfl T.n_len PySem.boot_len (AA (pv 1) AB)) (AS _)) (AD (AO (i:=6) ul.nd rfl (Or.inl rfl) AC) (AD (Hj PassesOwn.never (AW JX (pv 4) (Ep T.cl_Course uy hr (pv 3) (AA (pv 6) AB)) (AS _)) (AD (F2 (i:=4) ul.nd rfl (Or.inl rfl) (Ep T.cl_Course uy hr (pv 3) (AA (pv 6) AB)) Vi) (AF (F2 (i:=6) ul.nd rfl (Or.inl rfl) AC DP)))) (AD (Al (Ep T.cl_Course y9 hr (pv 3) (AA (pv 6) AB))) (AF (F2 (i:=5) ul.nd rfl (Or.inl rfl) (AH (AI K) (BK T.g_BRACKETS) (pv 6) (λ_ _=>rfl)) ML))))))) (AF (AR (pv 5))))))))),?_⟩;rcases h with⟨kk,a,n,rfl,k1,k4,hro,n0,n1,q⟩|⟨kv,v,iv,rfl,g|⟨kk,a,rfl,rfl,k1,k4,hro,⟨ty,hT,hp,hi⟩,rf⟩⟩
 rotate_left
 ·ext;exact .inr ⟨kv,v,rfl,g.pass (Same.refl H)⟩
 ·have hu:=hr.units0;have hl:=Az hro;show .inl (Bh k1 k4 hro (λH1 s1=>?_));ext;intro co dx hco hdx hne;have s2:Same H1 (upd (upd H1 dx (.own co)) co (.ins aC dx [])):=λx o z=>by rw[AE (AT z hco),AE (AT z hdx)];exact z
  refine⟨co,dx,kk,a,H1,rfl,k1,k4,hro,AJ,hco,s2,λH2 C2=>?_⟩;refine⟨rfl,?_⟩;have s3:Same H H2:=by
   obtain⟨_,_,_,_,_,_,_,_,_,c⟩:=id C2;exact s1.trans c.h0
  obtain⟨dx2,pl2,sm2,cl2,rs2,ob2⟩:∃dx pl sm cl rs,H2 co=some (.ins aC dx (cf pl sm cl rs ((0:Nat):Int))):=by
   obtain⟨dx,pl,sm,cl,rs,_,_,_,_,c⟩:=id C2;exact⟨dx,pl,sm,cl,rs,c.ob⟩
  show⟨iv,ty,rfl,hT.same s3,hp,?_⟩;ext
  by_cases e:ty="int"
  ·subst e;obtain⟨i,rfl⟩:=hT.int_of rfl;have hi:=hi i rfl;rw[decide_eq_true rfl];refine ifq rfl ?_;ext
   by_cases h1:0<=i
   ·refine ifp (decide_eq_true h1) ?_;show⟨co,dx2,_,rfl,ob2,rfl,?_⟩;show⟨co,kk.toNat,a,0,[],H1,rfl,C2,?_⟩;have hW:W kk.toNat a 0 []=W4 kk.toNat a:=rfl;rw[hW];show ifp (by rw[decide_eq_false (by lia)];rfl) ?_;ext;exact⟨small (by decide),λy hy=>rf y H2 s3 (s3.free hy)⟩
   ·refine ifq (decide_eq_false h1) ?_;show ifp rfl ?_;ext;exact⟨small (by decide),λy hy=>rf y H2 s3 (s3.free hy)⟩
  ·rw[decide_eq_false e];refine ifp rfl ?_;show ifp rfl ?_;ext;exact⟨small (by decide),λy hy=>rf y H2 s3 (s3.free hy)⟩
 ·have hu:=hr.units0;have hl:=Az hro;ext;have hk4:kk.toNat<=4:=by lia
  refine .inl (Bh k1 k4 hro (λH1 s1=>?_));ext;intro co dx hco hdx hne;have s2:Same H1 (upd (upd H1 dx (.own co)) co (.ins aC dx [])):=λx o z=>by rw[AE (AT z hco),AE (AT z hdx)];exact z
  refine⟨co,dx,kk,a,H1,rfl,k1,k4,hro,AJ,hco,s2,λH2 C2=>?_⟩;refine⟨rfl,?_⟩;have same:∀ {H':Hp} {i st},Co aC H1 H' co kk.toNat a i st->Same H H':=fun{H' i st} C=>by
   obtain⟨_,_,_,_,_,_,_,_,_,c⟩:=C;exact s1.trans c.h0
  have obj:∀ {H':Hp} {i st},Co aC H1 H' co kk.toNat a i st->∃dx pl sm cl rs,H' co=some (.ins aC dx (cf pl sm cl rs i)):=fun{H' i st} C=>by
   obtain⟨dx,pl,sm,cl,rs,_,_,_,_,c⟩:=C;exact⟨dx,pl,sm,cl,rs,c.ob⟩
  show HE ?_;show ifq rfl ?_;show ifp (decide_eq_true n0) ?_;ext;obtain⟨dx2,pl2,sm2,cl2,rs2,ob2⟩:=obj C2;refine⟨co,dx2,_,rfl,ob2,rfl,?_⟩;show⟨co,kk.toNat,a,0,[],H1,rfl,C2,?_⟩;have hW:W kk.toNat a 0 []=W4 kk.toNat a:=rfl;rw[hW];show ifq (by rw[decide_eq_true n1];rfl) ?_;show HU (λσ H'=>∃ (bs st:List Nat) (lf:Int) (o6:Option V),σ=[some (.int kk),some (tx a),some (.int n),some (.ref co),some (.int lf),some (tx (brt bs)),o6]/\Co aC H1 H' co kk.toNat a bs.length st/\bs.length<=a.length/\(∀o∈st,o<kk.toNat)/\st.length<=bs.length/\0<=lf/\lf<W kk.toNat a bs.length st/\∀rest,NF kk.toNat a bs.length st lf rest->NF kk.toNat a 0 [] n (bs++rest))
   (λσ _=>match σ with|[_,_,_,_,_,some (.str x),_]=>a.length-x.cps.toList.length|_=>0) ⟨[],[],n,_,rfl,C2,Nat.zero_le _,(λ_ h=>nomatch h),Nat.le_refl _,n0,n1,λrest h=>h⟩ ?_
  rintro σ H3 ⟨bs,st,lf,o6,rfl,C3,hbl,hst,hsl,l0,l1,hnf⟩;have hbt:(brt bs).length=bs.length:=by unfold brt;rw[List.length_map]
  show ifd (λhc=>?_) (λhc=>?_)
  rotate_left
  ·have he:bs.length=a.length:=by lia
   ext;rw[he,Jg]at l1;have hst0:st=[]:=by
    by_cases z:st=[]
    ·exact z
    ·rw[if_neg z]at l1;lia
   rw[if_pos hst0]at l1;refine q bs H3 (same C3) ?_ he;have:=hnf [] ⟨he,by lia⟩;rw[List.append_nil]at this;exact this
  refine Lk ?_;have hbi:bs.length<a.length:=by lia
  have htot:=M0 hbi hst;show HU (λσ H'=>∃ (b:Nat) (l2:Int),σ=[some (.int kk),some (tx a),some (.int n),some (.ref co),some (.int l2),some (tx (brt bs)),some (.int (b:Int))]/\Co aC H1 H' co kk.toNat a bs.length st/\b<2*kk.toNat/\l2=lf-sm b (mw kk.toNat a bs.length st)/\0<=l2)
   (λσ _=>match σ with|[_,_,_,_,_,_,some (.int b)]=>10-b.toNat|_=>0) ⟨0,lf,rfl,C3,by lia,by show lf=lf-0;lia,l0⟩ ?_
  rintro σ H4 ⟨b,l2,rfl,C4,hb,el,hl2⟩;obtain⟨dx4,pl4,sm4,cl4,rs4,ob4⟩:=obj C4;show⟨co,dx4,_,rfl,ob4,rfl,?_⟩;show⟨co,kk.toNat,a,bs.length,st,H1,b,rfl,C4,hbi,hb,λH5 s5=>?_⟩;have C5:=C4.same s5;have hsucc:sm (b+1) (mw kk.toNat a bs.length st)=sm b (mw kk.toNat a bs.length st)+mw kk.toNat a bs.length st b:=rfl;show ifd (λhc2=>?_) (λhc2=>?_)
  ·refine Lk ?_;obtain⟨dx5,pl5,sm5,cl5,rs5,ob5⟩:=obj C5;have hb2:b+1<2*kk.toNat:=by
    by_cases z:b+1<2*kk.toNat
    ·exact z
    ·rw[show b+1=2*kk.toNat by lia,htot]at hsucc;lia
   show⟨co,dx5,_,rfl,ob5,rfl,?_⟩;show⟨co,kk.toNat,a,bs.length,st,H1,b,rfl,C5,hbi,hb,λH6 s6=>?_⟩;ext;have eb:((b:Int)+1)=((b+1:Nat):Int):=by lia
   rw[eb];refine⟨⟨b+1,_,rfl,C5.same s6,hb2,by rw[hsucc];lia,by lia⟩,?_⟩;show 10-((b+1:Nat):Int).toNat<10-((b:Nat):Int).toNat;lia
  ·obtain⟨dx5,pl5,sm5,cl5,rs5,ob5⟩:=obj C5;obtain⟨ew,hodd,hst',hlen'⟩:=Mz hk4 hl hbi hst hb (by lia);show⟨co,dx5,_,rfl,ob5,rfl,?_⟩;show⟨co,kk.toNat,a,bs.length,st,H1,b,rfl,C5,hbi,hb,hsl,hodd,λH6 C6=>?_⟩;ext;have hbr:brs[b]? =some (brs.getD b 0):=by
    have:b<8:=by lia
    match b,this with
    |0,_=>rfl
    |1,_=>rfl
    |2,_=>rfl
    |3,_=>rfl
    |4,_=>rfl
    |5,_=>rfl
    |6,_=>rfl
    |7,_=>rfl
   refine BD (a:=brs) (small (show 8<=1000 by decide)) (AM hbr) ?_;show .inr ⟨brt bs,[brs.getD b 0],rfl,rfl,small (by rw[hbt,List.length_singleton];lia),?_⟩;have ebt:brt bs++[brs.getD b 0]=brt (bs++[b]):=by unfold brt;rw[List.map_append];rfl
   have hbl':(bs++[b]).length=bs.length+1:=by rw[List.length_append,List.length_singleton]
   rw[ebt];refine⟨⟨bs++[b],stb st b,l2,_,rfl,by rw[hbl'];exact C6,by lia,hst',by lia,hl2,?_,λrest hr2=>?_⟩,?_⟩
   ·rw[hbl',<-ew];lia
   ·rw[List.append_assoc];refine hnf ([b]++rest) ⟨hb,by lia,by rw[hsucc];lia,?_⟩;rw[hbl',el]at hr2;exact hr2
   ·show a.length-(brt (bs++[b])).toArray.toList.length<a.length-(brt bs).toArray.toList.length;have h2:(brt (bs++[b])).length=bs.length+1:=by unfold brt;rw[List.length_map,hbl']
    simp only[List.toList_toArray];lia
theorem PZ:FnScope ["k","row"] ["k","row"] (AK HC):=scM
theorem Pl(F:Fun K "how_many" "how_many" HC f fd)(T:Txt K mg aK cs aC)(u4:FnUE P w K mg base k "check_line" ["k","row"] (BP K cs CQ))(u7:FnU P w K mg base k "whole_sum" ["sums"] (CS))(ub:FnU P w K mg base k "span_sums" ["places"] (DH))(ud:FnU P w K mg base k "counted_places" ["k","row"] (EL)):FnOk P w K mg base (CXE P w) (k+1) f fd ["k","row"] (BP K cs Dr):=by
 refine F.okE PZ (λvs H Q E h=>?_) (λcdv A outer s H vs Q E hr h=>?_)
 ·rcases h with⟨kk,a,rfl,_⟩|⟨kv,v,rfl,_⟩<;>rfl
 refine⟨_,(AD (Al (AZ u4 hr BJ (AA (pv 0) (AA (pv 1) AB)))) (AF (AR (AV u7 hr (AA (AV ub hr (AA (AV ud hr (AA (pv 0) (AA (pv 1) AB))) AB)) AB))))),?_⟩;rcases h with⟨kk,a,rfl,h1,h2,ha,q⟩|⟨kv,v,rfl,g⟩
 rotate_left
 ·ext;exact .inr ⟨kv,v,rfl,g.pass (Same.refl H)⟩
 ·have hl:=Az ha;show .inl (Bh h1 h2 ha (λH1 s1=>?_));show FI h1 h2 hl (λr H2 hr2 s2 hP=>?_);show Dd (k:=kk.toNat) hP (by rw[List.length_map];exact hl) (by lia) (BN (by lia)) (λs3 ad H3 tb=>?_);show Cq tb ?_;have e:tbl (PP (a.map (plw (ones kk.toNat)))) kk.toNat 0 (a.map (plw (ones kk.toNat))).length=W4 kk.toNat a:=by
   unfold tbl W4;rw[if_pos (Nat.zero_le _),Nat.sub_zero,List.length_map]
  rw[e];exact q H3 ((s1.trans s2).trans tb.sm)
theorem Oe:FnScope ["k","row"] ["k","row"] (AK Gf):=scM
theorem Oi(F:Fun K "can_be_right" "can_be_right" Gf f fd)(T:Txt K mg aK cs aC)(ui:FnUE P w K mg base k "how_many" ["k","row"] (BP K cs Dr)):FnOk P w K mg base (CXE P w) (k+1) f fd ["k","row"] (BP K cs JQ):=by
 refine F.okE Oe (λvs H Q E h=>?_) (λcdv A outer s H vs Q E hr h=>?_)
 ·rcases h with⟨kk,a,rfl,_⟩|⟨kv,v,rfl,_⟩<;>rfl
 refine⟨_,(AF (AR (BG DT (AZ ui hr BJ (AA (pv 0) (AA (pv 1) AB))) AC (AS _)))),?_⟩;rcases h with⟨kk,a,rfl,h1,h2,ha,q⟩|⟨kv,v,rfl,g⟩
 rotate_left
 ·ext;exact .inr ⟨kv,v,rfl,g.pass (Same.refl H)⟩
 ·show .inl (EW h1 h2 ha (λH1 s1=>?_));ext;exact q H1 s1
theorem OY:FnScope ["k","weights"] ["k","weights"] (AK FB):=scM
theorem Ob(F:Fun K "check_weights" "check_weights" FB f fd)(T:Txt K mg aK cs aC)(uj:FnU P w K mg base k "is_whole" ["thing"] (DG K)):FnOk P w K mg base (CXE P w) (k+1) f fd ["k","weights"] (K7 K cs):=by
 refine F.okE OY (λvs H Q E h=>?_) (λcdv A outer s H vs Q E hr h=>?_)
 ·obtain⟨k,v,rfl,_⟩:=h;rfl
 have hu:=hr.units0;refine⟨_,(AD (Ac (PW.pt (Bf (Be (BU K (Ae (ES K) rfl T.n_isinstance PyProof.Rows.boot_isinstance (AA (pv 1) (AA (E3 T.n_list PyProof.Rows.boot_list) AB))))) (Bo (AW (Bq K hu) (Ae (Ar K) rfl T.n_len PySem.boot_len (AA (pv 1) AB)) (AG Ax AC (pv 0)) (AS _))))) (AF (CT T.e_NoWeights T.c_NoWeights hr.hd Ce (AA (Ap (l:=[119,101,105,103,104,116,115,32,97,114,101,32,97,32,108,105,115,116,32,111,102,32,111,110,101,32,102,111,114,32,101,97,99,104,32,98,114,97,99,107,101,116,32,111,102,32,116,104,101,32,107,105,110,100,115,32,116,104,101,114,101,32,97,114,101]) (by decide +kernel)) AB))) Ad) (AF (Ac (Be (BU K (Ae (Kr K rfl) rfl T.n_all PyProof.Rows.boot_all (AA (Bb (own:=["weight"]) (sel:=[]) (A4 (osc:=(AK FB)) (N:=["k","weights"]) (by decide +kernel)) rfl (Bv K (pv 1)) (λ_ _ _ _ _=>(AU (i:=0) (show(["weight"]:List Str).Nodup from by decide +kernel) rfl (Or.inl rfl))) (Ak (by decide)) (λ_ _ _ _ _=>BQ) (λ_ _ _ _ _=>(Er (AV uj hr (AA (pv 0) AB)) (Eo (BG JX (pv 0) AC (AS _)))))) AB)))) (AF (CT T.e_NoWeights T.c_NoWeights hr.hd Ce (AA (Ap (l:=[97,32,119,101,105,103,104,116,32,105,115,32,97,32,119,104,111,108,101,32,110,117,109,98,101,114,32,102,114,111,109,32,48,32,111,110]) (by decide +kernel)) AB))) Ad))),?_⟩;obtain⟨kk,v,rfl,k1,k4,h⟩:=h;have hu:=hr.units0;have comp:∀ {G:Hp} {q:Addr} {xs:List V} {Q':VK},Same H G->G q=some (.lst xs)->xs.length<=1000->(∀x∈xs,Pln K G x)->(∀D H',Same G H'->H' D=some (.lst (xs.map λx=>V.bl (gd x)))->Q' (.ref D) H')->
  BL (Itl K q) ["weight"] [] [some (.int kk),some (.ref q)] (BY 0) tYes (JO (CM (DG K) [] E0 (Ag (Ah 0) tNil)) (tOp (rI0 λi j=>V.bl (decide (j<=i))) (Ah 0) (tC (V.int 0)))) Q' G:=by
  intro G q xs Q' sG hq hl hx q';refine DK (n:=xs.length) (λD i ys H'=>ys=((xs.take i).map λx=>V.bl (gd x))/\SameBut1 D G H') (λD hD=>⟨rfl,SameBut1.of (AL hD _)⟩) (λD i ys H' hD hi _ ⟨_,sH⟩=>⟨xs,xs[i],SqL.of (sH _ _ hq (AT hq hD)),by simp[hi]⟩) (λD ys H' hD hD' hll ⟨e,sH⟩=>⟨⟨xs,SqL.of (sH _ _ hq (AT hq hD)),Nat.le_refl _⟩,?_⟩) ?_
  ·rw[List.take_length]at e;subst e;exact q' D H' (λb o z=>sH b o z (AT z hD)) hD'
  ·rintro D i ys H' x H3 hD hi hD' hll ⟨e,sH⟩ ⟨rfl,ex⟩;have ex':xs[i]? =some x:=ex xs (SqL.of (sH _ _ hq (AT hq hD)));have hxm:=List.mem_of_getElem? ex';show BY 0 x _ _ _;show EE ?_;obtain⟨ty,hT,hp⟩:=hx x hxm;have nD:∀a,x= .ref a->a≠D:=λa z=>by
    subst z;rintro rfl
    cases hT with
    |lst e=>rw[hD]at e;cases e
    |frz e=>rw[hD]at e;cases e
    |tup e=>rw[hD]at e;cases e
    |dK e=>rw[hD]at e;cases e
    |dT e=>rw[hD]at e;cases e
   show⟨x,ty,rfl,hT.keep nD sH,hp,?_⟩;ext
   by_cases ei:ty="int"
   ·subst ei;obtain⟨i',rfl⟩:=hT.int_of rfl;rw[decide_eq_true rfl];refine EE ?_;show De hi (small (by lia)) hD' hll ⟨?_,sH.trans SameBut1.upd⟩;rw[e,List.take_add_one,ex'];simp[gd]
   ·rw[decide_eq_false ei];have hg:gd x=false:=by
     cases x with
     |int i=>cases hT;exact absurd rfl ei
     |_=>rfl
    refine EF ?_;refine De hi (small (by lia)) hD' hll ⟨?_,sH.trans SameBut1.upd⟩;rw[e,List.take_add_one,ex'];simp[hg]
 rcases h with⟨ws,⟨q,rfl,hq,hl,hs⟩,r⟩|⟨hn,r⟩
 ·show BE (b:=true) (TyOf.lst hq) (by with_unfolding_all rfl) ?_;show ifq rfl ?_;show BA (.inl (SqL.of hq)) ?_;show ifq (by rw[List.length_map];simp[hl]) ?_;show⟨q,rfl,⟨_,SqL.of hq⟩,?_⟩;refine comp (Same.refl H) hq (by rw[List.length_map];lia) (λx hx=>by obtain⟨i,_,rfl⟩:=List.mem_map.mp hx;exact⟨"int", .int i,by decide⟩) λD H' s1 hD=>?_;ext;have hS:SqL K H' D (((ws.map V.int).map gd).map V.bl):=by rw[List.map_map];exact SqL.of hD
  refine JU hS ?_;have:((ws.map V.int).map gd).all id=true:=by
   rw[List.all_map,List.all_map,List.all_eq_true];intro x hx;exact decide_eq_true (hs x hx).1
  rw[this];show ifq rfl ?_;ext;exact r _ s1
 ·ext;rcases hn with⟨ty,hT,hp,hne⟩|⟨q,xs,rfl,hq,hll,hx⟩
  ·have fin:W.kitOne K (.type ty) (.type "list")=some false:=by
    have:ty="NoneType"\/ty="bool"\/ty="int"\/ty="str"\/ty="list"\/ty="tuple"\/ty="dict":=by simpa[B6]using hp
    rcases this with rfl|rfl|rfl|rfl|rfl|rfl|rfl<;>first|exact absurd rfl hne|with_unfolding_all rfl
   refine BE (b:=false) hT fin ?_;show ifp rfl ?_;show ifp rfl ?_;ext;exact⟨small (by decide),λy hy=>r y H (Same.refl H) hy⟩
  ·refine BE (b:=true) (TyOf.lst hq) (by with_unfolding_all rfl) ?_;show ifq rfl ?_;show BA (.inl (SqL.of hq)) ?_;ext
   by_cases hl:(xs.length:Int)=2*kk
   ·obtain⟨hP,x,hxm,hg⟩:=hx.resolve_left λz=>z hl;refine ifq (by simp[hl]) ?_;show⟨q,rfl,⟨_,SqL.of hq⟩,?_⟩;refine comp (Same.refl H) hq hll hP λD H' s1 hD=>?_;ext;have hS:SqL K H' D ((xs.map gd).map V.bl):=by rw[List.map_map];exact SqL.of hD
    refine JU hS ?_;have:(xs.map gd).all id=false:=by
     rw[List.all_map,List.all_eq_false];exact⟨x,hxm,by simp[hg]⟩
    rw[this];show ifp rfl ?_;ext;exact⟨small (by decide),λy hy=>r y H' s1 (s1.free hy)⟩
   ·refine ifp (by simp[hl]) ?_;ext
    first|(refine ifp (A:=_) (B:=_) rfl ?_;ext)|skip
    exact⟨small (by decide),λy hy=>r y H (Same.refl H) hy⟩
theorem OS:FnScope ["k","row","weights"] ["k","row","weights"] (AK Ga):=scM
theorem OX(F:Fun K "checked_places" "checked_places" Ga f fd)(T:Txt K mg aK cs aC)(u4:FnUE P w K mg base k "check_line" ["k","row"] (BP K cs CQ))(uW:FnUE P w K mg base k "check_weights" ["k","weights"] (K7 K cs))(uq:FnU P w K mg base k "weighed_places" ["row","weights"] (FN K)):FnOk P w K mg base (CXE P w) (k+1) f fd ["k","row","weights"] (F9 K cs):=by
 refine F.okE OS (λvs H Q E h=>?_) (λcdv A outer s H vs Q E hr h=>?_)
 ·obtain⟨kv,v,wv,rfl,_⟩:=h;rfl
 refine⟨_,(AD (Al (AZ u4 hr BJ (AA (pv 0) (AA (pv 1) AB)))) (AD (Al (AZ uW hr BJ (AA (pv 0) (AA (pv 2) AB)))) (AF (AR (AV uq hr (AA (pv 1) (AA (pv 2) AB))))))),?_⟩;obtain⟨kv,v,wv,rfl,(g|⟨kk,a,rfl,rfl,h1,h2,ha,hn,r⟩)|⟨kk,a,ws,rfl,rfl,h1,h2,ha,hw,q⟩⟩:=h
 ·ext;exact .inr ⟨kv,v,rfl,g.pass (Same.refl H)⟩
 ·show .inl (Bh h1 h2 ha (λH1 s1=>?_));ext;exact⟨kk,wv,rfl,h1,h2, .inr ⟨hn.same s1,r.pass s1⟩⟩
 ·show .inl (Bh h1 h2 ha (λH1 s1=>?_));show⟨kk,wv,rfl,h1,h2, .inl ⟨ws,hw.same s1,λH2 s2=>?_⟩⟩;have s12:=s1.trans s2;obtain⟨p,rfl,hp,hl,hs⟩:=hw;ext;exact Jw (Az ha) (SqL.of (s12 _ _ hp)) (by lia) λr H3 hr3 s3 hP=>q r H3 (by cases e:H r with|none=>rfl|some o=>rw[s12 _ _ e]at hr3;cases hr3) (s12.trans s3) hP
theorem O4:FnScope ["k","row","weights"] ["k","row","weights"] (AK Gm):=scM
theorem O6(F:Fun K "weight_sum" "weight_sum" Gm f fd)(T:Txt K mg aK cs aC)(u7:FnU P w K mg base k "whole_sum" ["sums"] (CS))(ub:FnU P w K mg base k "span_sums" ["places"] (DH))(ue:FnUE P w K mg base k "checked_places" ["k","row","weights"] (F9 K cs)):FnOk P w K mg base (CXE P w) (k+1) f fd ["k","row","weights"] (K2):=by
 refine F.okE O4 (λvs H Q E h=>?_) (λcdv A outer s H vs Q E hr h=>?_)
 ·obtain⟨k,a,ws,⟨wv,rfl,_⟩,_⟩:=h;rfl
 obtain⟨kk,a,ws,⟨wv,rfl,h1,h2,ha,hw⟩,q⟩:=h;refine Du ⟨_,(AF (AR (AV u7 hr (AA (AV ub hr (AA (AZ ue hr Ao (AA (pv 0) (AA (pv 1) (AA (pv 2) AB)))) AB)) AB)))),?_⟩;have hl:=Az ha;show⟨.int kk,tx a,wv,rfl, .inr ⟨kk,a,ws,rfl,rfl,h1,h2,ha,hw,λr H2 hr2 s2 hP=>?_⟩⟩;obtain⟨p,rfl,hp,hlw,hs⟩:=hw;show Dd (k:=kk.toNat) hP (by rw[List.length_map];exact hl) (by lia) (FO h1 h2 hlw hs) (λs3 ad H3 tb=>?_);show Cq tb ?_;have e:tbl (PP (a.map (plw ws))) kk.toNat 0 (a.map (plw ws)).length=wsm kk.toNat ws a:=by
  unfold tbl wsm;rw[if_pos (Nat.zero_le _),Nat.sub_zero,List.length_map]
 rw[e];exact q H3 (s2.trans tb.sm)
theorem PX:FnScope ["one","other"] ["one","other"] (AK G0):=scM
theorem Pf(F:Fun K "likelier" "likelier" G0 f fd)(T:Txt K mg aK cs aC):FnOk P w K mg base CX0 (k+1) f fd ["one","other"] (Gw):=by
 refine F.ok PX (λvs H Q E h=>?_) (λcdv A outer s H vs Q E hr h=>?_)
 ·obtain⟨v1,v2,o1,o2,rfl,_⟩:=h;rfl
 obtain⟨v1,v2,o1,o2,rfl,h1,h2,hd,q⟩:=h;have hu:=hr.units0;refine⟨_,(AD (Ac (PW.pt (Bf (AW Cd (pv 0) A6 (AS _)) (Bo (AW Cd (pv 1) A6 (AS _))))) (AF (AR (EU (AW Cd (pv 1) A6 (AS _)) (pv 0) (pv 1)))) Ad) (AD (Ac (AW (A3 K hu) (AH (AI K) (pv 0) AC (λ_ _=>rfl)) (AH (AI K) (pv 1) AC (λ_ _=>rfl)) (AS _)) (AF (AR (EU (AW (VV K hu) (AH (AI K) (pv 0) AC (λ_ _=>rfl)) (AH (AI K) (pv 1) AC (λ_ _=>rfl)) (AS _)) (pv 0) (pv 1)))) Ad) (AF (AR (EU (AW DT (AH (AI K) (pv 0) AC (λ_ _=>rfl)) (AH (AI K) (pv 1) AC (λ_ _=>rfl)) (AS _)) (pv 0) (pv 1)))))),?_⟩
 match o1,o2,h1,h2,hd,q with
 |none,none,h1,h2,hd,q=>
  cases(show v1= .non from h1)
  cases(show v2= .non from h2)
  show ifp rfl ?_
  first|refine ifp rfl ?_ |skip
  show ifp rfl ?_;ext;exact q _ _ (Same.refl H) (.inl ⟨rfl,rfl⟩)
 |none,some (x,m),h1,⟨T2,a2,e2,_,_,g1,g2⟩,hd,q=>
  cases(show v1= .non from h1)
  subst e2;show ifp rfl ?_
  first|refine ifp rfl ?_ |skip
  show ifq rfl ?_;ext;exact q _ _ (Same.refl H) (.inr ⟨rfl,rfl⟩)
 |some (w,l),none,⟨T1,a1,e1,_,_,f1,f2⟩,h2,hd,q=>
  cases(show v2= .non from h2)
  subst e1;show ifq rfl ?_;show ifp rfl ?_
  first|refine ifp rfl ?_ |skip
  show ifp rfl ?_;ext;exact q _ _ (Same.refl H) (.inl ⟨rfl,rfl⟩)
 |some (w,l),some (x,m),⟨T1,a1,e1,_,_,f1,f2⟩,⟨T2,a2,e2,_,_,g1,g2⟩,hd,q=>
  subst e1 e2;obtain⟨hlen,hne⟩:=hd w l x m rfl rfl;have q:∀v H',Same H H'->((v= .ref T1/\(if w=x then(if l<m then some (w,l)else some (x,m))else if w>x then some (w,l)else some (x,m))=some (w,l))\/(v= .ref T2/\(if w=x then(if l<m then some (w,l)else some (x,m))else if w>x then some (w,l)else some (x,m))=some (x,m)))->Q v H':=q;show ifq rfl ?_;show ifq rfl ?_
  first|refine ifq rfl ?_ |skip
  show BB (SqT.of f1) (v:= .int w) rfl ?_;show BB (SqT.of g1) (v:= .int x) rfl ?_;show ifd (λh3=>?_) (λh3=>?_)
  ·show BB (SqT.of f1) (v:= .ref a1) rfl ?_;show BB (SqT.of g1) (v:= .ref a2) rfl ?_;refine⟨a1,a2,l,m,rfl,rfl,SqL.of f2,SqL.of g2,hlen,hne,?_⟩;ext;rw[if_pos h3]at q;refine ifd (λh4=>?_) (λh4=>?_)
   ·ext;exact q _ _ (Same.refl H) (.inl ⟨rfl,if_pos h4⟩)
   ·ext;exact q _ _ (Same.refl H) (.inr ⟨rfl,if_neg h4⟩)
  ·show BB (SqT.of f1) (v:= .int w) rfl ?_;show BB (SqT.of g1) (v:= .int x) rfl ?_;ext;rw[if_neg h3]at q;refine ifd (λh4=>?_) (λh4=>?_)
   ·ext;exact q _ _ (Same.refl H) (.inl ⟨rfl,if_pos h4⟩)
   ·ext;exact q _ _ (Same.refl H) (.inr ⟨rfl,if_neg h4⟩)
theorem ut:FnScope ["first","last","best","opening","weight"] ["first","last"] (AK GY):=scM
theorem OU(F:Fun K "likeliest_pair" "likeliest_pair" GY f fd)(T:Txt K mg aK cs aC)(uL:FnU P w K mg base k "likelier" ["one","other"] (Gw)):FnOk P w K mg base CX0 (k+1) f fd ["first","last"] (Lr):=by
 refine F.ok ut (λvs H Q E h=>?_) (λcdv A outer s H vs Q E hr h=>?_)
 ·obtain⟨p1,p2,x,y,k,rfl,_⟩:=h;rfl
 obtain⟨p1,p2,x,y,kk,rfl,h1,h2,lx,ly,hk,sx,sy,q⟩:=h;have hu:=hr.units0;refine⟨_,(AD (AO (i:=2) ut.nd rfl (Or.inl rfl) A6) (AD (A2 PassesOwn.never rfl (Bi rfl T.n_range (AA AC (AA (Ae (Ar K) rfl T.n_len PySem.boot_len (AA (pv 0) AB)) (AA AC AB)))) (AU (i:=3) ut.nd rfl (Or.inl rfl)) (AD (AO (i:=4) ut.nd rfl (Or.inl rfl) (AG Av (AH (AI K) (pv 0) (pv 3) (λ_ _=>rfl)) (AH (AI K) (pv 1) (AG AX (pv 3) AC) (λ_ _=>rfl)))) (AF (Ac (AW DT (pv 4) AC (AS _)) (AF (AO (i:=2) ut.nd rfl (Or.inl rfl) (AV uL hr (AA (pv 2) (AA (BW (AA (pv 4) (AA (Am (AA (pv 3) (AA (AG AX (pv 3) AC) AB))) AB))) AB))))) Ad)))) (AF (AR (pv 2))))),?_⟩;show BA (.inl (SqL.of h1)) ?_;rw[List.length_map,lx];show⟨0,_,2,rfl,⟨by decide,by decide,B3 (by lia) (by lia) (by lia) (by lia)⟩,?_⟩;have er:rN 0 ((2*kk:Nat):Int) 2=kk:=by rw[CA];lia
 rw[er];refine B4 (λt σ H'=>∃ (v:V) (o:O) (o3 o4:Option V),σ=[some (.ref p1),some (.ref p2),some v,o3,o4]/\Same H H'/\Bt (λb=>H b=none) H' v o/\Best (Pk t) (λl=>x.getD (l.getD 0 0) 0*y.getD (l.getD 1 0) 0) o) ⟨.non,none,_,_,rfl,Same.refl H,rfl,λl hl=>by obtain⟨p,hp,_⟩:=hl;lia⟩ ?_ ?_
 rotate_left
 ·rintro σ H1 ⟨v,o,o3,o4,rfl,s1,b1,c1⟩;ext;exact q v o H1 s1 b1 c1
 rintro t σ H1 ht ⟨v,o,o3,o4,rfl,s1,b1,c1⟩;have e0:(0:Int)+(t:Int)*2=((2*t:Nat):Int):=by lia
 have e1:((2*t:Nat):Int)+1=((2*t+1:Nat):Int):=by lia
 rw[e0];ext;have gx:x[2*t]? =some (x.getD (2*t) 0):=by rw[List.getD_eq_getElem?_getD,List.getElem?_eq_getElem (by lia)];rfl
 have gy:y[2*t+1]? =some (y.getD (2*t+1) 0):=by rw[List.getD_eq_getElem?_getD,List.getElem?_eq_getElem (by lia)];rfl
 refine AN (SqL.of (s1 _ _ h1)) (AM (by rw[List.getElem?_map,gx];rfl)) ?_;ext
 first|rw[e1]|skip
 refine AN (SqL.of (s1 _ _ h2)) (AM (by rw[List.getElem?_map,gy];rfl)) ?_;have bx:=sx.at (2*t);have by':=sy.at (2*t+1);refine Aw (An bx.1 bx.2 DF) (An by'.1 by'.2 DF) ?_;have hw:(λl:List Nat=>x.getD (l.getD 0 0) 0*y.getD (l.getD 1 0) 0) [2*t,2*t+1]=x.getD (2*t) 0*y.getD (2*t+1) 0:=rfl;generalize x.getD (2*t) 0*y.getD (2*t+1) 0=wt at hw⊢;have un:∀o',Best (λl=>l=[2*t,2*t+1]) (λl=>x.getD (l.getD 0 0) 0*y.getD (l.getD 1 0) 0) o'->Best (Pk (t+1)) (λl=>x.getD (l.getD 0 0) 0*y.getD (l.getD 1 0) 0) (lik o o'):=λo' ho=>(Best.un c1 ho).iff λl=>by
  constructor
  ·rintro(⟨p,hp,e⟩|e)
   ·exact⟨p,by lia,e⟩
   ·exact⟨t,by lia,e⟩
  ·rintro⟨p,hp,e⟩
   by_cases z:p=t
   ·subst z;exact .inr e
   ·exact .inl ⟨p,by lia,e⟩
 show ifd (λh3=>?_) (λh3=>?_)
 ·have h3:0<wt:=h3;ext;rw[e1];refine⟨small (show 2<=1000 by decide),λa ha=>?_⟩;have t1:=AL ha (.lst [.int ((2*t:Nat):Int), .int ((2*t+1:Nat):Int)]);have k1:(upd H1 a (.lst [.int ((2*t:Nat):Int), .int ((2*t+1:Nat):Int)])) a=_:=AJ;generalize upd H1 a _=H2 at*
  show⟨small (show 2<=1000 by decide),λT hT=>?_⟩;have t2:=AL hT (.tup [.int wt, .ref a]);have k2:(upd H2 T (.tup [.int wt, .ref a])) T=_:=AJ;have k12:=t2 _ _ k1;have s3:=t1.trans t2;have fT:H1 T=none:=t1.free hT;generalize upd H2 T _=H3 at*
  refine⟨v, .ref T,o,some (wt,[2*t,2*t+1]),rfl,(b1.same s3).imp (λ_ _ _ _=>trivial),⟨T,a,rfl,trivial,trivial,k2,k12⟩,?_,λv' H4 s4 hv=>?_⟩
  ·rintro w l x' m rfl e
   cases e
   obtain⟨p,hp,rfl⟩:=c1.1;exact⟨rfl,λz=>by have:=(List.cons.inj z).1;lia⟩
  have B:Best (λl=>l=[2*t,2*t+1]) (λl=>x.getD (l.getD 0 0) 0*y.getD (l.getD 1 0) 0) (some (wt,[2*t,2*t+1])):=⟨rfl,hw,h3,λm hm=>by rw[hm];exact .inr ⟨hw,List.lt_irrefl _⟩⟩;have:=un _ B;refine⟨v',_,_,_,rfl,(s1.trans s3).trans s4,?_,this⟩;rcases hv with⟨rfl,e⟩|⟨rfl,e⟩
  ·rw[e];exact b1.same (s3.trans s4)
  ·rw[e];exact⟨T,a,rfl,s1.free fT,s1.free ha,s4 _ _ k2,s4 _ _ k12⟩
 ·ext;have e:lik o none=o:=by cases o<;>rfl
  have:=un none (λl hl=>by rw[hl,hw];lia);rw[e]at this;exact⟨v,o,_,_,rfl,s1,b1,this⟩
theorem y0:FnScope ["pair","within","opening","closing"] ["pair","within"] (AK Gg):=scM
theorem Ov(F:Fun K "round_about" "round_about" Gg f fd)(T:Txt K mg aK cs aC):FnOk P w K mg base CX0 (k+1) f fd ["pair","within"] (Lp):=by
 refine F.ok y0 (λvs H Q E h=>?_) (λcdv A outer s H vs Q E hr h=>?_)
 ·obtain⟨v1,v2,o1,o2,rfl,_⟩:=h;rfl
 obtain⟨v1,v2,o1,o2,rfl,h1,h2,h22,z1,z2,q⟩:=h;have hu:=hr.units0;refine⟨_,(AD (Ac (PW.pt (Bf (AW Cd (pv 0) A6 (AS _)) (Bo (AW Cd (pv 1) A6 (AS _))))) (AF (AR A6)) Ad) (AD (BV (AH (AI K) (pv 0) AC (λ_ _=>rfl)) (Tf (n:=2) K rfl (Aj (AU (i:=2) y0.nd rfl (Or.inl rfl)) (Aj (AU (i:=3) y0.nd rfl (Or.inl rfl)) Bm)))) (AF (AR (BW (AA (AG Av (AH (AI K) (pv 0) AC (λ_ _=>rfl)) (AH (AI K) (pv 1) AC (λ_ _=>rfl))) (AA (AG AX (AG AX (Am (AA (pv 2) AB)) (AH (AI K) (pv 1) AC (λ_ _=>rfl))) (Am (AA (pv 3) AB))) AB))))))),?_⟩
 match o1,o2,h1,h2,h22,z1,z2,q with
 |none,o2,h1,h2,h22,z1,z2,q=>
  cases(show v1= .non from h1)
  show ifp rfl ?_
  first|refine ifp rfl ?_ |skip
  ext;exact q _ _ (Same.refl H) rfl
 |some (w,l),none,⟨T1,a1,e1,_,_,f1,f2⟩,h2,h22,z1,z2,q=>
  cases(show v2= .non from h2)
  subst e1;show ifq rfl ?_;show ifp rfl ?_
  first|refine ifp rfl ?_ |skip
  ext;exact q _ _ (Same.refl H) rfl
 |some (w,l),some (x,m),⟨T1,a1,e1,_,_,f1,f2⟩,⟨T2,a2,e2,_,_,g1,g2⟩,h22,z1,z2,q=>
  subst e1 e2;obtain⟨b1,l1⟩:=z1 w l rfl;obtain⟨b2,l2⟩:=z2 x m rfl;obtain⟨c1,c2,rfl⟩:∃c1 c2,l=[c1,c2]:=by
   match l,h22 w l rfl with
   |[c1,c2],_=>exact⟨c1,c2,rfl⟩
  show ifq rfl ?_;show ifq rfl ?_
  first|refine ifq rfl ?_ |skip
  show BB (SqT.of f1) (v:= .ref a1) rfl ?_;refine⟨a1,[.int (c1:Int), .int (c2:Int)],rfl,SqL.of f2,rfl,?_⟩;show BB (SqT.of f1) (v:= .int w) rfl ?_;show BB (SqT.of g1) (v:= .int x) rfl ?_;refine Aw b1 b2 ?_;show⟨small (show 1<=1000 by decide),λd1 hd1=>?_⟩;have t1:=AL hd1 (.lst [.int (c1:Int)]);have k1:(upd H d1 (.lst [.int (c1:Int)])) d1=_:=AJ;generalize upd H d1 _=H1 at*
  show BB (SqT.of (t1 _ _ g1)) (v:= .ref a2) rfl ?_;refine Iz k1 (t1 _ _ g2) (small (by rw[List.length_map];simp;lia)) (λd2 hd2=>?_);have t2:=AL hd2 (.lst ([.int (c1:Int)]++nL m));have k2:(upd H1 d2 (.lst ([.int (c1:Int)]++nL m))) d2=_:=AJ;generalize upd H1 d2 _=H2 at*
  show⟨small (show 1<=1000 by decide),λd3 hd3=>?_⟩;have t3:=AL hd3 (.lst [.int (c2:Int)]);have k3:(upd H2 d3 (.lst [.int (c2:Int)])) d3=_:=AJ;generalize upd H2 d3 _=H3 at*
  refine Iz (t3 _ _ k2) k3 (small (by simp;lia)) (λd4 hd4=>?_);have t4:=AL hd4 (.lst (([.int (c1:Int)]++nL m)++[.int (c2:Int)]));have k4:(upd H3 d4 (.lst (([.int (c1:Int)]++nL m)++[.int (c2:Int)]))) d4=_:=AJ;generalize upd H3 d4 _=H4 at*
  ext;have t34:=(t1.trans t2).trans (t3.trans t4);refine⟨small (show 2<=1000 by decide),λT hT=>?_⟩;have t5:=AL hT (.tup [.int (w*x), .ref d4]);refine q _ _ (t34.trans t5) ⟨T,d4,rfl,t34.free hT,((t1.trans t2).trans t3).free hd4,AJ,?_⟩;rw[t5 _ _ k4];show some (HO.lst _)=some (HO.lst (nL ([c1]++m++[c2])));simp[nL]
theorem OA:FnScope ["first","second"] ["first","second"] (AK GV):=scM
theorem OB(F:Fun K "one_behind_the_other" "one_behind_the_other" GV f fd)(T:Txt K mg aK cs aC):FnOk P w K mg base CX0 (k+1) f fd ["first","second"] (KU):=by
 refine F.ok OA (λvs H Q E h=>?_) (λcdv A outer s H vs Q E hr h=>?_)
 ·obtain⟨v1,v2,o1,o2,rfl,_⟩:=h;rfl
 obtain⟨v1,v2,o1,o2,rfl,h1,h2,z1,z2,q⟩:=h;have hu:=hr.units0;refine⟨_,(AD (Ac (PW.pt (Bf (AW Cd (pv 0) A6 (AS _)) (Bo (AW Cd (pv 1) A6 (AS _))))) (AF (AR A6)) Ad) (AF (AR (BW (AA (AG Av (AH (AI K) (pv 0) AC (λ_ _=>rfl)) (AH (AI K) (pv 1) AC (λ_ _=>rfl))) (AA (AG AX (AH (AI K) (pv 0) AC (λ_ _=>rfl)) (AH (AI K) (pv 1) AC (λ_ _=>rfl))) AB)))))),?_⟩
 match o1,o2,h1,h2,z1,z2,q with
 |none,o2,h1,h2,z1,z2,q=>
  cases(show v1= .non from h1)
  show ifp rfl ?_
  first|refine ifp rfl ?_ |skip
  ext;exact q _ _ (Same.refl H) rfl
 |some (w,l),none,⟨T1,a1,e1,_,_,f1,f2⟩,h2,z1,z2,q=>
  cases(show v2= .non from h2)
  subst e1;show ifq rfl ?_;show ifp rfl ?_
  first|refine ifp rfl ?_ |skip
  ext;exact q _ _ (Same.refl H) rfl
 |some (w,l),some (x,m),⟨T1,a1,e1,_,_,f1,f2⟩,⟨T2,a2,e2,_,_,g1,g2⟩,z1,z2,q=>
  subst e1 e2;obtain⟨b1,l1⟩:=z1 w l rfl;obtain⟨b2,l2⟩:=z2 x m rfl;show ifq rfl ?_;show ifq rfl ?_
  first|refine ifq rfl ?_ |skip
  show BB (SqT.of f1) (v:= .int w) rfl ?_;show BB (SqT.of g1) (v:= .int x) rfl ?_;refine Aw b1 b2 ?_;show BB (SqT.of f1) (v:= .ref a1) rfl ?_;show BB (SqT.of g1) (v:= .ref a2) rfl ?_;refine Iz f2 g2 (small (by rw[List.length_map,List.length_map];lia)) (λc hc=>?_);have t1:=AL hc (.lst (nL l++nL m));show⟨small (show 2<=1000 by decide),λT hT=>?_⟩;have t2:=AL hT (.tup [.int (w*x), .ref c]);refine q _ _ (t1.trans t2) ⟨T,c,rfl,t1.free hT,hc,AJ,?_⟩;rw[t2 _ _ AJ,<-List.map_append]
theorem uc:FnScope ["places","many","best","start","end","part","stop","found"] ["places"] (AK E9):=scM
theorem OL(F:Fun K "likeliest_spans" "likeliest_spans" E9 f fd)(T:Txt K mg aK cs aC)(ya:FnU P w K mg base k "round_about" ["pair","within"] (Lp))(uU:FnU P w K mg base k "likeliest_pair" ["first","last"] (Lr))(uz:FnU P w K mg base k "one_behind_the_other" ["first","second"] (KU))(uL:FnU P w K mg base k "likelier" ["one","other"] (Gw)):FnOk P w K mg base CX0 (k+1) f fd ["places"] (HZ):=by
 refine F.ok uc (λvs H Q E h=>?_) (λcdv A outer s H vs Q E hr h=>?_)
 ·obtain⟨p,ps,kk,rfl,_⟩:=h;rfl
 obtain⟨p,ps,kk,rfl,hP,hn,hk,hl,q⟩:=h;have hu:=hr.units0;have hsm:∀l∈ps,Sm l:=λl z=>(hl l z).2;have hPP:∀i b,0<=PP ps i b:=λi b=>(Ay hsm i b).1;obtain⟨pa,hp0,hpa⟩:=id hP;refine⟨_,(AD (AO (i:=1) uc.nd rfl (Or.inr rfl) (Ae (Ar K) rfl T.n_len PySem.boot_len (AA (pv 0) AB))) (AD (EK (i:=2) uc.nd rfl (Or.inl rfl) (own:=["start"]) (sel:=[1]) (A4 (osc:=(AK E9)) (N:=["places","many","best","start","end","part","stop","found"]) (by decide +kernel)) rfl (CH rfl T.n_range (AA (AG AX (pv 1) AC) AB)) (λ_ _ _ _ _=>(AU (i:=0) (show(["start","many"]:List Str).Nodup from by decide +kernel) rfl (Or.inl rfl))) (Ak (by decide)) (λ_ _ _ _ _=>BQ) (λ_ _ _ _ _=>(AG Ax (Am (AA A6 AB)) (AG AX (pv 1) AC)))) (AD (A2 PassesOwn.never rfl (Bi rfl T.n_range (AA (pv 1) (AA (CC B7 AC) (AA (CC B7 AC) AB)))) (AU (i:=3) uc.nd rfl (Or.inl rfl)) (AD (BV (BW (AA AC (AA (Am AB) AB))) (CK (AH (AI K) (pv 2) (pv 3) (λ_ _=>rfl)) (pv 3) BO)) (AF (A2 PassesOwn.never rfl (Bi rfl T.n_range (AA (AG AX (pv 3) AC) (AA (pv 1) (AA AC AB)))) (AU (i:=4) uc.nd rfl (Or.inl rfl)) (AD (AO (i:=5) uc.nd rfl (Or.inl rfl) (AV ya hr (AA (AV uU hr (AA (AH (AI K) (pv 0) (pv 3) (λ_ _=>rfl)) (AA (AH (AI K) (pv 0) (pv 4) (λ_ _=>rfl)) AB))) (AA (AH (AI K) (AH (AI K) (pv 2) (AG AX (pv 3) AC) (λ_ _=>rfl)) (pv 4) (λ_ _=>rfl)) AB)))) (AF (A2 PassesOwn.never rfl (Bi rfl T.n_range (AA (AG AX (pv 4) AC) (AA (AG AX (pv 1) AC) (AA AC AB)))) (AU (i:=6) uc.nd rfl (Or.inl rfl)) (AD (AO (i:=7) uc.nd rfl (Or.inl rfl) (AV uz hr (AA (pv 5) (AA (AH (AI K) (AH (AI K) (pv 2) (AG AX (pv 4) AC) (λ_ _=>rfl)) (pv 6) (λ_ _=>rfl)) AB)))) (AF (BV (AV uL hr (AA (AH (AI K) (AH (AI K) (pv 2) (pv 3) (λ_ _=>rfl)) (pv 6) (λ_ _=>rfl)) (AA (pv 7) AB))) (CK (AH (AI K) (pv 2) (pv 3) (λ_ _=>rfl)) (pv 6) BO))))))))))) (AF (AR (pv 2)))))),?_⟩;show BA (.inl (SqL.of hp0)) ?_;have en:((((List.range ps.length).map λi=>V.ref (pa i)).length:Nat):Int)=(ps.length:Int):=by rw[List.length_map,List.length_range]
 rw[en];generalize hN:ps.length=n at*
 show⟨_,rfl,by lia,by lia,?_⟩;have en:((n:Int)+1).toNat=n+1:=by lia
 rw[en];refine ID (small (by lia)) (λD i ys H'=>∃ad:Nat->Addr,ys=(List.range i).map (λj=>V.ref (ad j))/\(∀j,j<i->H' (ad j)=some (.lst (rwv n λ_=> .non))/\H (ad j)=none/\ad j≠D)/\∀j j',j<i->j'<i->ad j=ad j'->j=j')
  (λD _=>⟨λ_=>D,rfl,λj hj=>absurd hj (by lia),λj _ hj=>absurd hj (by lia)⟩) (λD i ys H1 H2 _ ⟨ad,e,h1,h2⟩ s12=>⟨ad,e,λj hj=>⟨s12 _ _ (h1 j hj).1 (h1 j hj).2.2,(h1 j hj).2⟩,h2⟩)
  (λs' ys H1 hD hy _ sH ⟨ad,e,h1,h2⟩=>?_) ?_
 rotate_left
 ·rintro D i ys H' R hD hi hy hl sH ⟨ad,e,h1,h2⟩ r;show⟨small (show 1<=1000 by decide),λz hz=>?_⟩;show DS (xs:=[.non]) AJ (by lia) (by lia) (small (by rw[List.length_singleton,en];lia)) (λp hp=>?_);have hpz:p≠z:=λw=>by rw[w,AJ]at hp;cases hp
  have hp':H' p=none:=by rw[AE hpz]at hp;exact hp
  have hpD:p≠D:=λw=>by rw[w,hy]at hp';cases hp'
  have sp:Same H' (upd (upd H' z (.lst [.non])) p (.lst (List.replicate ((n:Int)+1).toNat [V.non]).flatten)):=(AL hz _).trans (AL hp _);refine r _ _ sp ⟨λj=>if j=i then p else ad j,?_,?_,?_⟩
  ·subst e;rw[List.range_succ,List.map_append];congr 1
   ·refine List.map_congr_left λj hj=>?_;have:=List.mem_range.mp hj;show V.ref (ad j)=V.ref (if j=i then p else ad j);rw[if_neg (by lia)]
   ·simp
  ·intro j hj
   by_cases ej:j=i
   ·subst ej;simp only[if_true];refine⟨?_,?_,hpD⟩
    ·rw[AJ,en];congr 2;unfold rwv;have:∀m:Nat,(List.replicate m [V.non]).flatten=(List.range m).map λ_=>V.non:=by
      intro m
      induction m with
      |zero=>rfl
      |succ m ih=>rw[List.replicate_succ',List.flatten_append,ih,List.range_succ,List.map_append];rfl
     exact this (n+1)
    ·exact sH.free hp'
   ·simp only[if_neg ej];obtain⟨a1,a2,a3⟩:=h1 j (by lia);exact⟨sp _ _ a1,a2,a3⟩
  ·intro j j' hj hj' he
   by_cases ej:j=i<;>by_cases ej':j'=i
   ·lia
   ·simp only[if_pos ej,if_neg ej']at he;have:=(h1 j' (by lia)).1;rw[<-he,hp']at this;cases this
   ·simp only[if_neg ej,if_pos ej']at he;have:=(h1 j (by lia)).1;rw[he,hp']at this;cases this
   ·simp only[if_neg ej,if_neg ej']at he;exact h2 j j' (by lia) (by lia) he
 subst e;have tb1:Tv H H1 H1 s' ad n (λ_ _=> .non):=⟨hD,λi hi=>(h1 i (by lia)).2.1,λi hi=>(h1 i (by lia)).2.2,λi j hi hj=>h2 i j (by lia) (by lia),λi hi=>by rw[(h1 i (by lia)).1];simp,hy,λi hi=>(h1 i (by lia)).1,sH,λb z=>z⟩;clear h1 h2 hy hD;show⟨n,-1,-1,rfl,⟨by decide,by decide,KA (.inl rfl) (by lia) (by lia) (by decide) (by decide)⟩,?_⟩;have er:rN (n:Int) (-1) (-1)=n+1:=by rw[L7];lia
 rw[er];have place:∀ {H':Hp} {i:Nat},Same H H'->i<n->∃l,H' (pa i)=some (iL l)/\l.length=2*kk/\Sm l/\∀b,PP ps i b=l.getD b 0:=by
  intro H' i sH hi;have e:ps[i]? =some ps[i]:=List.getElem?_eq_getElem (by lia);have eg:ps.getD i []=ps[i]:=by rw[List.getD_eq_getElem?_getD,e];rfl
  refine⟨ps[i],?_,(hl _ (List.getElem_mem _)).1,(hl _ (List.getElem_mem _)).2,λb=>by show(ps.getD i []).getD b 0=_;rw[eg]⟩;have:=sH _ _ (hpa i (by lia));rw[eg]at this;exact this
 have pix:∀ {i:Nat},i<n->((List.range n).map λi=>V.ref (pa i))[i]? =some (.ref (pa i)):=fun{i} hi=>by rw[List.getElem?_map,List.getElem?_range hi];rfl
 obtain⟨Gd,eGd⟩:∃Gd:(Nat->Nat->V)->Hp->Nat->Prop,Gd=λT H' i0=>∀i j,i0<=i->i<=j->j<=n->∃o,Bt (λb=>H1 b=none) H' (T i j) o/\Best (Dn kk i j) (wtl (PP ps) i) o:=⟨_,rfl⟩;refine B4 (λt σ H'=>∃ (T:Nat->Nat->V) (o3 o4 o5 o6 o7:Option V),σ=[some (.ref p),some (.int n),some (.ref s'),o3,o4,o5,o6,o7]/\Tv H H1 H' s' ad n T/\Gd T H' (n+1-t)/\∀i j,i<n+1-t->T i j= .non) ?_ ?_ ?_
 ·exact⟨_,_,_,_,_,_,rfl,tb1,by rw[eGd];intro i j h1 h2 h3;lia,λ_ _ _=>rfl⟩
 rotate_left
 ·rintro σ H' ⟨T,o3,o4,o5,o6,o7,rfl,tb,gd,_⟩;ext;rw[eGd]at gd;obtain⟨o,b1,b2⟩:=gd 0 n (by lia) (by lia) (Nat.le_refl _);refine q s' (ad 0) ((List.range n).map λi=>V.ref (ad (i+1))) ((List.range n).map (T 0)) (T 0 n) o H' tb.sm ?_ ?_ (b1.imp λ_ _ _ _=>trivial) b2
  ·rw[tb.top,List.range_succ_eq_map,List.map_cons,List.map_map];rfl
  ·rw[tb.row 0 (Nat.zero_le _)];unfold rwv;rw[List.range_succ,List.map_append];rfl
 rintro t σ H2 ht ⟨T,o3,o4,o5,o6,o7,rfl,tb2,gd2,no2⟩;obtain⟨st,est⟩:∃st:Nat,st+t=n:=⟨n-t,by lia⟩;have e1:((n:Int)+(t:Int)* -1)=(st:Int):=by lia
 rw[show n+1-t=st+1 by lia]at gd2 no2;rw[show n+1-(t+1)=st by lia];rw[e1];show⟨small (show 0<=1000 by decide),λz hz=>?_⟩;have t3:=AL hz (.lst []);have k3:(upd H2 z (.lst [])) z=_:=AJ;generalize upd H2 z _=H3 at*
 show⟨small (show 2<=1000 by decide),λT1 hT1=>?_⟩;have t4:=AL hT1 (.tup [.int 1, .ref z]);have k4:(upd H3 T1 (.tup [.int 1, .ref z])) T1=_:=AJ;have k34:=t4 _ _ k3;have fz:H1 z=none:=tb2.gr z hz;have fT1:H1 T1=none:=tb2.gr T1 (t3.free hT1);have tb4:=tb2.same (t3.trans t4);have gd4:Gd T (upd H3 T1 (.tup [.int 1, .ref z])) (st+1):=by
  rw[eGd]at gd2⊢;exact λi j a b c=>let⟨o,x,y⟩:=gd2 i j a b c;⟨o,x.same (t3.trans t4),y⟩
 generalize upd H3 T1 _=H4 at*
 show AN (SqL.of tb4.top) (AM (tb4.at (i:=st) (by lia))) ?_;show BS (tb4.row st (by lia)) (j:=st) (by rw[Lx];unfold ixN;rw[if_pos (by lia),if_pos (by lia)];simp) ?_;obtain⟨RO,eRO⟩:∃RO:(Nat->Nat->V)->Hp->(Nat->Nat)->Prop,RO=λT H' f=>∀j,st<=j->j<=n->∃o,Bt (λb=>H1 b=none) H' (T st j) o/\Best (λl=>(j=st/\l=[])\/Sq kk st (f j) j l) (wtl (PP ps) st) o:=⟨_,rfl⟩;have keepG:∀ {T T':Nat->Nat->V} {G G':Hp},(∀i j,st+1<=i->T' i j=T i j)->(∀b x,H1 b=none->G b=some x->G' b=some x)->Gd T G (st+1)->Gd T' G' (st+1):=by
  intro T T' G G' e k g;rw[eGd]at g⊢;intro i j a b c;obtain⟨o,x,y⟩:=g i j a b c;exact⟨o,by rw[e i j a];exact x.keep k,y⟩
 have tb5:=tb4.set (i:=st) (j:=st) (v:= .ref T1) (by lia);have kp5:=λb x f z=>tb4.keep (i:=st) (by lia) (o:= .lst ((rwv n (T st)).set st (.ref T1))) b x f z;have gd5:=keepG (T':=λa b=>if a=st then(if b=st then .ref T1 else T a b)else T a b) (λi j h=>if_neg (by lia)) kp5 gd4;have ro5:RO (λa b=>if a=st then(if b=st then .ref T1 else T a b)else T a b) (upd H4 (ad st) (.lst ((rwv n (T st)).set st (.ref T1)))) (λ_=>0):=by
  rw[eRO];intro j h1 h2
  (try dsimp only)
  by_cases e:j=st
  ·subst e;refine⟨some (1,[]),?_,?_⟩
   ·rw[if_pos rfl,if_pos rfl];exact⟨T1,z,rfl,fT1,fz,kp5 _ _ fT1 k4,kp5 _ _ fz k34⟩
   ·refine(best_one (P:=PP ps) j kk).iff λl=>?_;rw[Dn.nil];exact⟨λh=> .inl ⟨rfl,h⟩,λh=>h.elim (·.2) λw=>absurd w (Sq.zero _ _ _ _)⟩
  ·refine⟨none,?_,λl hl=>?_⟩
   ·rw[if_pos rfl,if_neg e];exact no2 st j (by lia)
   ·rcases hl with⟨w,_⟩|w
    ·exact absurd w e
    ·exact absurd w (Sq.zero _ _ _ _)
 have no5:∀i j,i<st->(λa b=>if a=st then(if b=st then V.ref T1 else T a b)else T a b) i j=V.non:=λi j h=>(if_neg (by lia)).trans (no2 i j (by lia));generalize(λa b=>if a=st then(if b=st then V.ref T1 else T a b)else T a b)=T5 at*
 generalize upd H4 (ad st) _=H5 at*
 clear tb4 gd4 kp5 k4 k34 fz fT1 tb2 gd2 no2 t3 t4 k3 hz hT1;show⟨_,_,2,rfl,⟨by decide,by decide,B3 (by lia) (by lia) (by lia) (by lia)⟩,?_⟩;have er2:rN ((st:Int)+1) n 2=(n-st)/2:=by rw[CA];lia
 rw[er2];refine B4 (λq' σ H'=>∃ (T:Nat->Nat->V) (o4 o5 o6 o7:Option V),σ=[some (.ref p),some (.int n),some (.ref s'),some (.int st),o4,o5,o6,o7]/\Tv H H1 H' s' ad n T/\Gd T H' (st+1)/\RO T H' (λ_=>q')/\∀i j,i<st->T i j= .non) ⟨T5,_,_,_,_,rfl,tb5,gd5,ro5,no5⟩ ?_ ?_
 rotate_left
 ·rintro σ H' ⟨T,o4,o5,o6,o7,rfl,tb,gd,ro,no⟩;show⟨T,_,_,_,_,_,rfl,tb,?_,no⟩;rw[eGd]at gd⊢;rw[eRO]at ro;intro i j h1 h2 h3
  by_cases e:i=st
  ·subst e;obtain⟨o,x,y⟩:=ro j h2 h3;refine⟨o,x,y.iff λl=>?_⟩
   by_cases e2:j=i
   ·subst e2;rw[Dn.nil];refine⟨λh=>h.elim (·.2) λw=>?_,λh=> .inl ⟨rfl,h⟩⟩;exact List.eq_nil_of_length_eq_zero (by have:=w.len;lia)
   ·rw[<-Dn.iff (q:=(n-i)/2) (by lia) (by lia)];exact⟨λh=>h.elim (λw=>absurd w.1 e2) id, .inr⟩
  ·exact gd i j (by lia) h2 h3
 clear tb5 gd5 ro5 no5;rintro q' σ H6 hq' ⟨T,o4,o5,o6,o7,rfl,tb6,gd6,ro6,no6⟩;obtain⟨en',hen⟩:∃e:Nat,e=st+1+2*q':=⟨_,rfl⟩;have e2:((st:Int)+1+(q':Int)*2)=(en':Int):=by lia
 have hen2:en'<n:=by lia
 rw[e2];ext;obtain⟨x,hx,lx,sx,ex⟩:=place tb6.sm (show st<n by lia);obtain⟨y,hy,ly,sy,ey⟩:=place tb6.sm (show en'<n by lia);refine AN (SqL.of (tb6.sm _ _ hp0)) (AM (pix (i:=st) (by lia))) ?_;show AN (SqL.of (tb6.sm _ _ hp0)) (AM (pix (i:=en') (by lia))) ?_;show⟨pa st,pa en',x,y,kk,rfl,hx,hy,lx,ly,hk,sx,sy,λvp op H7 s7 bp cp=>?_⟩;have cp:Best (Pk kk) (pf (PP ps) st en') op:=cp.cong λl _=>by unfold pf;rw[ex,ey]
 have tb7:=tb6.same s7;have e3:((st:Int)+1)=((st+1:Nat):Int):=by lia
 ext;rw[e3];refine AN (SqL.of tb7.top) (AM (tb7.at (i:=st+1) (by lia))) ?_;show AN (SqL.of (tb7.row (st+1) (by lia))) (AM (IP (j:=en') (by lia))) ?_;obtain⟨ob,bb,cb⟩:∃o,Bt (λb=>H1 b=none) H6 (T (st+1) en') o/\Best (Dn kk (st+1) en') (wtl (PP ps) (st+1)) o:=by rw[eGd]at gd6;exact gd6 (st+1) en' (Nat.le_refl _) (by lia) (by lia)
 have szp:Sz op:=λw l e=>by
  subst e;obtain⟨⟨p',hp',rfl⟩,e5,_⟩:=cp;have b1:=Ay hsm st (2*p');have b2:=Ay hsm en' (2*p'+1);have e6:PP ps st (2*p')*PP ps en' (2*p'+1)=w:=e5;rw[<-e6];refine⟨An (Int.mul_nonneg b1.1 b2.1) (c:=4*(top30*top30)) ?_ Dt,by show 2<=40;decide⟩;have:=Int.mul_le_mul b1.2 b2.2 b2.1 (show(0:Int)<=top30 by decide);have h0:(0:Int)<=top30*top30:=by decide
  lia
 have szb:Sz ob:=MY hsm (λl hl=>by have:=hl.2;lia) cb;show⟨vp,T (st+1) en',op,ob,rfl,bp.imp (λ_ _ _ _=>trivial),(bb.same s7).imp (λ_ _ _ _=>trivial),λw l e=>by subst e;obtain⟨⟨p',_,rfl⟩,_⟩:=cp;rfl,szp,szb,λvr H8 s8 br=>?_⟩;have br:Bt (λb=>H1 b=none) H8 vr (rnd op ob):=br.imp λb x f _=>tb7.gr b f;have tb8:=tb7.same s8;have gd8:=keepG (λ_ _ _=>rfl) (λb x _ z=>(s7.trans s8) b x z) gd6;have ro8:RO T H8 (λj=>if j<en'+1+2*0 then q'+1 else q'):=by
  rw[eRO]at ro6⊢;intro j h1 h2;obtain⟨o,a,b⟩:=ro6 j h1 h2;refine⟨o,a.same (s7.trans s8),?_⟩
  (try dsimp only at b);(try dsimp only)
  by_cases e:j<en'+1+2*0
  ·rw[if_pos e];exact b.iff λl=>or_congr Iff.rfl (Sq.same (λr=>by lia) l)
  ·rw[if_neg e];exact b
 clear tb6 tb7 ro6 gd6 hx hy bp bb s7 s8;show⟨_,_,2,rfl,⟨by decide,by decide,B3 (by lia) (by lia) (by lia) (by lia)⟩,?_⟩;have er3:rN ((en':Int)+1) ((n:Int)+1) 2=(n+1-en')/2:=by rw[CA];lia
 rw[er3];refine B4 (λr σ H'=>∃ (T:Nat->Nat->V) (o6 o7:Option V),σ=[some (.ref p),some (.int n),some (.ref s'),some (.int st),some (.int en'),some vr,o6,o7]/\Tv H H1 H' s' ad n T/\Gd T H' (st+1)/\RO T H' (λj=>if j<en'+1+2*r then q'+1 else q')/\(∀i j,i<st->T i j= .non)/\Bt (λb=>H1 b=none) H' vr (rnd op ob)) ⟨T,_,_,rfl,tb8,gd8,ro8,no6,br⟩ ?_ ?_
 rotate_left
 ·rintro σ H' ⟨T,o6,o7,rfl,tb,gd,ro,no,_⟩;refine⟨T,_,_,_,_,rfl,tb,gd,?_,no⟩;rw[eRO]at ro⊢;intro j h1 h2;obtain⟨o,a,b⟩:=ro j h1 h2;refine⟨o,a,?_⟩
  (try dsimp only at b)
  rw[if_pos (by lia)]at b;exact b
 clear tb8 gd8 ro8 no6 br;rintro r σ H9 hr9 ⟨T,o6,o7,rfl,tb9,gd9,ro9,no9,br9⟩;obtain⟨sp,hsp⟩:∃e:Nat,e=en'+1+2*r:=⟨_,rfl⟩;have e4:((en':Int)+1+(r:Int)*2)=(sp:Int):=by lia
 have hsp2:sp<=n:=by lia
 rw[e4];have e5:((en':Int)+1)=((en'+1:Nat):Int):=by lia
 ext;rw[e5];refine AN (SqL.of tb9.top) (AM (tb9.at (i:=en'+1) (by lia))) ?_;show AN (SqL.of (tb9.row (en'+1) (by lia))) (AM (IP (j:=sp) hsp2)) ?_;obtain⟨oc,bc,cc⟩:∃o,Bt (λb=>H1 b=none) H9 (T (en'+1) sp) o/\Best (Dn kk (en'+1) sp) (wtl (PP ps) (en'+1)) o:=by rw[eGd]at gd9;exact gd9 (en'+1) sp (by lia) (by lia) (by lia)
 obtain⟨od,bd,cd⟩:∃o,Bt (λb=>H1 b=none) H9 (T st sp) o/\Best (λl=>(sp=st/\l=[])\/Sq kk st q' sp l) (wtl (PP ps) st) o:=by
  rw[eRO]at ro9;obtain⟨o,a,b⟩:=ro9 sp (by lia) hsp2
  (try dsimp only at b)
  rw[if_neg (by lia)]at b;exact⟨o,a,b⟩
 have cd:Best (Sq kk st q' sp) (wtl (PP ps) st) od:=cd.iff λl=>⟨λh=>h.elim (λw=>by lia) id, .inr⟩;have cn:=Sf hPP (show sp=st+2+2*q'+2*r by lia) (k:=kk) (a:=op) (b:=ob) (c:=oc) (by rw[<-hen];exact cp) (by rw[<-hen];exact cb) (by rw[show st+2+2*q'=en'+1 by lia];exact cc);have szc:Sz oc:=MY hsm (λl hl=>by have:=hl.2;lia) cc;have szr:Sz (rnd op ob):=λw l e=>by
  match op,ob,e,szp,szb,cp,cb with
  |some (w1,l1),some (w2,l2),e,szp,szb,cp,cb=>
   cases e
   have h2:=(cb.1).2;obtain⟨⟨p',hp',e7⟩,e8,_⟩:=cp;have c1:=IE hsm l2 (st+1);rw[cb.2.1]at c1;have b1:=Ay hsm st (2*p');have b2:=Ay hsm en' (2*p'+1);have e6:PP ps st (2*p')*PP ps en' (2*p'+1)=w1:=by rw[<-e8,e7];rfl
   constructor
   ·rw[<-e6];refine An (Int.mul_nonneg (Int.mul_nonneg b1.1 b2.1) c1.1) (c:=top30*top30*top30^40) ?_ Qb;exact Int.mul_le_mul (Int.mul_le_mul b1.2 b2.2 b2.1 (by decide)) (Int.le_trans c1.2 (Lm (by lia))) c1.1 (by decide)
   ·simp only[List.length_append,List.length_singleton];lia
 show⟨vr,T (en'+1) sp,rnd op ob,oc,rfl,br9.imp (λ_ _ _ _=>trivial),bc.imp (λ_ _ _ _=>trivial),szr,szc,λvf H10 s10 bf=>?_⟩;have bf:Bt (λb=>H1 b=none) H10 vf (beh (rnd op ob) oc):=bf.imp λb x f _=>tb9.gr b f;have tb10:=tb9.same s10;show AN (SqL.of tb10.top) (AM (tb10.at (i:=st) (by lia))) ?_;show AN (SqL.of (tb10.row st (by lia))) (AM (IP (j:=sp) hsp2)) ?_;show⟨T st sp,vf,od,beh (rnd op ob) oc,rfl,(bd.same s10).imp (λ_ _ _ _=>trivial),bf.imp (λ_ _ _ _=>trivial),?_,λvn H11 s11 hv=>?_⟩
 ·intro w l x' m e1 e2;rw[e1]at cd;rw[e2]at cn;exact⟨by have:=cd.1.len;have:=cn.1.len;lia,cd.1.apart cn.1⟩
 have s911:=s10.trans s11;have tb11:=tb9.same s911;have bn:Bt (λb=>H1 b=none) H11 vn (lik od (beh (rnd op ob) oc)):=by
  rcases hv with⟨rfl,e⟩|⟨rfl,e⟩
  ·rw[e];exact bd.same s911
  ·rw[e];exact bf.same s11
 show AN (SqL.of tb11.top) (AM (tb11.at (i:=st) (by lia))) ?_;show BS (tb11.row st (by lia)) (j:=sp) (by rw[Lx];unfold ixN;rw[if_pos (by lia),if_pos (by lia)];simp) ?_;have tb12:=tb11.set (i:=st) (j:=sp) (v:=vn) (by lia);have kp12:=λb x f z=>tb11.keep (i:=st) (by lia) (o:= .lst ((rwv n (T st)).set sp vn)) b x f z;refine⟨_,_,_,rfl,tb12,keepG (T:=T) (λi j h=>if_neg (by lia)) (λb x f z=>kp12 b x f (s911 b x z)) gd9,?_,λi j h=>(if_neg (by lia)).trans (no9 i j h),(br9.same s911).keep kp12⟩;rw[eRO]at ro9⊢;intro j h1 h2
 (try dsimp only)
 rw[if_pos rfl]
 by_cases e:j=sp
 ·subst e;refine⟨_,by rw[if_pos rfl];exact bn.keep kp12,?_⟩;rw[if_pos (by lia)];exact(RM cd cn).iff λl=>⟨.inr,λh=>h.elim (λw=>by lia) id⟩
 ·obtain⟨o,a,b⟩:=ro9 j h1 h2
  (try dsimp only at b)
  refine⟨o,by rw[if_neg e];exact(a.same s911).keep kp12,?_⟩
  by_cases h3:j<en'+1+2*r
  ·rw[if_pos h3]at b;rw[if_pos (by lia)];exact b
  ·rw[if_neg h3]at b
   by_cases h4:j<en'+1+2*(r+1)
   ·rw[if_pos h4];exact b.iff λl=>or_congr Iff.rfl (Sq.same (λr'=>by lia) l)
   ·rw[if_neg h4];exact b
theorem y7:FnScope ["places","best"] ["places"] (AK FA):=scM
theorem ON(F:Fun K "first_likeliest" "first_likeliest" FA f fd)(T:Txt K mg aK cs aC)(uN:FnU P w K mg base k "likeliest_spans" ["places"] (HZ)):FnOk P w K mg base CX0 (k+1) f fd ["places"] (K6):=by
 refine F.ok y7 (λvs H Q E h=>?_) (λcdv A outer s H vs Q E hr h=>?_)
 ·obtain⟨p,ps,kk,rfl,_⟩:=h;rfl
 obtain⟨p,ps,kk,rfl,hP,hn,hk,hl,q⟩:=h;have hu:=hr.units0;refine⟨_,(AD (AO (i:=1) y7.nd rfl (Or.inl rfl) (AH (AI K) (AH (AI K) (AV uN hr (AA (pv 0) AB)) AC (λ_ _=>rfl)) (CC B7 AC) (λ_ _=>rfl))) (AD (Ac (AW Cd (pv 1) A6 (AS _)) (AF (AR A6)) Ad) (AF (AR (BW (AA (AH (AI K) (pv 1) AC (λ_ _=>rfl)) (AA (Bp K PySem.F.plainAttrs_str PySem.F.slot_str_join PySem.F.type_str_join (IV K) (Ap (l:=[]) (by decide +kernel)) (AA (Bb (own:=["bracket"]) (sel:=[]) (A4 (osc:=(AK FA)) (N:=["places","best"]) (by decide +kernel)) rfl (Bv K (AH (AI K) (pv 1) AC (λ_ _=>rfl))) (λ_ _ _ _ _=>(AU (i:=0) (show(["bracket"]:List Str).Nodup from by decide +kernel) rfl (Or.inl rfl))) (Ak (by decide)) (λ_ _ _ _ _=>BQ) (λ_ _ _ _ _=>(AH (AI K) (BK T.g_BRACKETS) (pv 0) (λ_ _=>rfl)))) AB)) AB))))))),?_⟩;show P4 hP hn hk hl (λs' r rs xs v o H1 s1 e1 e2 bt be=>?_);show AN (SqL.of e1) (v:= .ref r) (Wc _ _) ?_;show AN (SqL.of e2) (SD xs v) ?_
 match o,bt,be with
 |none,bt,be=>
  cases(show v= .non from bt)
  show ifp rfl ?_;ext;exact q _ none H1 s1 rfl be
 |some (w,l),⟨T1,a1,ev,_,_,f1,f2⟩,be=>
  subst ev;have hlen:l.length<=40:=by have:=be.1.2;lia
  have hbd:∀b∈l,b<8:=λb hb=>by have:=Cz l [] [] be.1.1 b hb;lia
  show ifq rfl ?_;show BB (SqT.of f1) (v:= .int w) rfl ?_;show BB (SqT.of f1) (v:= .ref a1) rfl ?_;show⟨a1,rfl,⟨_,SqL.of f2⟩,?_⟩;refine SW (λx=>match x with| .int i=>tx [brs.getD i.toNat 0]|y=>y) (small (by rw[List.length_map];lia)) f2 (λD H2 hD s2 h2=>?_) (λD i x H2 R hD hx s2 hR=>?_)
  ·have e:((nL l).map λx=>match x with| .int i=>tx [brs.getD i.toNat 0]|y=>y)=(l.map λb=>[brs.getD b 0]).map tx:=by
    unfold nL;rw[List.map_map,List.map_map]
    rfl
   rw[e]at h2;ext;have ef:(l.map λb=>[brs.getD b 0]).flatten=brx l:=by
    unfold brx;rw[<-EX (l.map λb=>brs.getD b 0),List.map_map];rfl
   refine Iy (xss:=l.map λb=>[brs.getD b 0]) (SqL.of h2) (by rw[ef,List.length_map];unfold brx;rw[List.length_map];lia) ?_;rw[ef];show⟨small (show 2<=1000 by decide),λT' hT=>?_⟩;exact q _ (some (w,l)) _ ((s1.trans s2).trans (AL hT _)) ⟨T',rfl,AJ⟩ be
  ·rw[List.getElem?_map]at hx;obtain⟨b,hb,rfl⟩:=Option.map_eq_some_iff.mp hx;have hb8:=hbd b (List.mem_of_getElem? hb);show BD (small (by decide)) (AM (Ca hb8)) ?_;exact hR H2 (Same.refl _)
theorem PD:FnScope ["k","row","weights"] ["k","row","weights"] (AK Gu):=scM
theorem PL(F:Fun K "likeliest" "likeliest" Gu f fd)(T:Txt K mg aK cs aC)(uO:FnU P w K mg base k "first_likeliest" ["places"] (K6))(ue:FnUE P w K mg base k "checked_places" ["k","row","weights"] (F9 K cs)):FnOk P w K mg base (CXE P w) (k+1) f fd ["k","row","weights"] (Lq):=by
 refine F.okE PD (λvs H Q E h=>?_) (λcdv A outer s H vs Q E hr h=>?_)
 ·obtain⟨k,a,ws,⟨wv,rfl,_⟩,_⟩:=h;rfl
 obtain⟨kk,a,ws,⟨wv,rfl,h1,h2,ha,hw⟩,q⟩:=h;refine Du ⟨_,(AF (AR (AV uO hr (AA (AZ ue hr Ao (AA (pv 0) (AA (pv 1) (AA (pv 2) AB)))) AB)))),?_⟩;have hl:=Az ha;show⟨.int kk,tx a,wv,rfl, .inr ⟨kk,a,ws,rfl,rfl,h1,h2,ha,hw,λr H2 hr2 s2 hP=>?_⟩⟩;obtain⟨p,rfl,hp,hlw,hs⟩:=hw;show⟨r,_,kk.toNat,rfl,hP,by rw[List.length_map];exact hl,by lia,FO h1 h2 hlw hs,λv o H3 s3 ft be=>?_⟩;rw[List.length_map]at be;exact q v o H3 (s2.trans s3) ft be
theorem Oa:FnScope ["k","thing"] ["k","thing"] (AK Gc):=scM
theorem Od(F:Fun K "check_bracket" "check_bracket" Gc f fd)(T:Txt K mg aK cs aC):FnOk P w K mg base (CXE P w) (k+1) f fd ["k","thing"] (K8 K cs):=by
 refine F.okE Oa (λvs H Q E h=>?_) (λcdv A outer s H vs Q E hr h=>?_)
 ·obtain⟨k,v,rfl,_⟩:=h;rfl
 have hu:=hr.units0;refine⟨_,(AF (Ac (PW.pt (Bf (Be (BU K (Ae (ES K) rfl T.n_isinstance PyProof.Rows.boot_isinstance (AA (pv 1) (AA (E3 T.n_str PyProof.Rows.boot_str) AB))))) (Bf (AW (Bq K hu) (Ae (Ar K) rfl T.n_len PySem.boot_len (AA (pv 1) AB)) AC (AS _)) (Bo (AW (Kb K) (pv 1) (Bw (B1 K) (BK T.g_BRACKETS) B5 (Bl (AG Ax AC (pv 0)))) (by with_unfolding_all rfl)))))) (AF (CT T.e_NoPlace T.c_NoPlace hr.hd Ce (AA (Ap (l:=[97,116,32,97,32,112,108,97,99,101,32,115,116,97,110,100,115,32,111,110,101,32,98,114,97,99,107,101,116,32,111,102,32,116,104,101,32,107,105,110,100,115,32,116,104,101,114,101,32,97,114,101]) (by decide +kernel)) AB))) Ad)),?_⟩;obtain⟨kk,v,rfl,k1,k4,⟨c,rfl,hc,q⟩|⟨⟨a,rfl,hl,hn⟩|⟨ty,hT,hp,hne⟩,r⟩⟩:=h
 ·show BE (b:=true) (TyOf.str _) (by with_unfolding_all rfl) ?_;show ifq rfl ?_;show Iw (small (by simp)) ?_;show ifq rfl ?_;ext;rw[CL _ (by lia)];show ifq (by simpa[brs]using hc) ?_;ext;exact q
 ·show BE (b:=true) (TyOf.str _) (by with_unfolding_all rfl) ?_;show ifq rfl ?_;ext
  first|refine Iw (small (by lia)) ?_ |skip
  ext
  by_cases h1:a.length=1
  ·obtain⟨c,rfl⟩:∃c,a=[c]:=by
    cases a with
    |nil=>cases h1
    |cons c r=>cases r with
     |nil=>exact⟨c,rfl⟩
     |cons d r=>simp at h1
   refine ifq rfl ?_;ext;rw[CL _ (by lia)];show ifp (by simpa[brs]using hn c rfl) ?_;ext;exact⟨small (by decide),λy hy=>r y H (Same.refl H) hy⟩
  ·refine ifp (by simp;lia) ?_;show ifp rfl ?_;ext;exact⟨small (by decide),λy hy=>r y H (Same.refl H) hy⟩
 ·ext;have fin:W.kitOne K (.type ty) (.type "str")=some false:=by
   have:ty="NoneType"\/ty="bool"\/ty="int"\/ty="str"\/ty="list"\/ty="tuple"\/ty="dict":=by simpa[B6]using hp
   rcases this with rfl|rfl|rfl|rfl|rfl|rfl|rfl<;>first|exact absurd rfl hne|with_unfolding_all rfl
  refine BE (b:=false) hT fin ?_;show ifp rfl ?_;show ifp rfl ?_;ext
  first|refine ifp rfl ?_ |skip
  ext;exact⟨small (by decide),λy hy=>r y H (Same.refl H) hy⟩
theorem yb:FnScope ["top","bottom","divisor","left"] ["top","bottom"] (AK HN):=scM
theorem QC(F:Fun K "reduced" "reduced" HN f fd)(T:Txt K mg aK cs aC):FnOk P w K mg base CX0 (k+1) f fd ["top","bottom"] (KR):=by
 refine F.ok yb (λvs H Q E h=>?_) (λcdv A outer s H vs Q E hr h=>?_)
 ·obtain⟨t,b,rfl,_⟩:=h;rfl
 obtain⟨tp,bt,rfl,t0,b0,bs,q⟩:=h;have hu:=hr.units0;refine⟨_,(AD (AO (i:=2) yb.nd rfl (Or.inl rfl) (pv 1)) (AD (AO (i:=3) yb.nd rfl (Or.inl rfl) (pv 0)) (AD (Hj PassesOwn.never (BU K (pv 3)) (AF (VD (i:=2) (j:=3) rfl yb.nd rfl rfl (by decide) rfl rfl (AA (pv 3) (AA (AG Cw (pv 2) (pv 3)) AB)) (by with_unfolding_all rfl)))) (AF (AR (BW (AA (AG LO (pv 0) (pv 2)) (AA (AG LO (pv 1) (pv 2)) AB)))))))),?_⟩;show HU (λσ H'=>∃d l:Nat,σ=[some (.int tp),some (.int bt),some (.int (d:Int)),some (.int (l:Int))]/\Nat.gcd d l=Nat.gcd bt.toNat tp.toNat/\H'=H) (λσ _=>match σ with|[_,_,_,some (.int l)]=>l.toNat|_=>0) ⟨bt.toNat,tp.toNat,by rw[Int.toNat_of_nonneg t0,Int.toNat_of_nonneg (by lia)];rfl,rfl,rfl⟩ ?_;rintro σ H1 ⟨d,l,rfl,hg,rfl⟩;show⟨decide (l≠0),?_,?_⟩
 ·show decide (l≠0)=((l:Int) !=0)
  by_cases e:l=0
  ·subst e;rfl
  ·rw[decide_eq_true e];have:(l:Int)≠0:=by lia
   simp[e]
 refine ifd (λhc=>?_) (λhc=>?_)
 ·have hl0:0<l:=by lia
  refine⟨λσ H'=>∃d' l':Nat,σ=[some (.int tp),some (.int bt),some (.int (d':Int)),some (.int (l':Int))]/\Nat.gcd d' l'=Nat.gcd bt.toNat tp.toNat/\H'=H1/\l'<l,?_,?_⟩
  ·rintro σ' H' ⟨d',l',rfl,e1,rfl,e2⟩;exact⟨l',by simpa using e2,by simp,d',l',rfl,e1,rfl⟩
  ext
  first|refine NR ?_ |skip
  ext;exact⟨_,_,rfl,l,d%l,rfl,(SL d l).trans hg,rfl,Nat.mod_lt _ hl0⟩
 ·have hl0:l=0:=by lia
  subst hl0;have hd:(d:Int)=gcI tp bt:=by unfold gcI;rw[<-hg,Nat.gcd_zero_right]
  rw[hd];show⟨_,_,rfl,rfl,LS _ b0 bs,?_⟩;show⟨_,_,rfl,rfl,LS _ b0 bs,?_⟩;show⟨small (show 2<=1000 by decide),λT hT=>?_⟩;exact q T _ hT (AL hT _) AJ
theorem yq:FnScope ["k","row","weights","i","bracket","places","sums"] ["k","row","weights","i","bracket"] (AK Hw):=scM
theorem Qs(F:Fun K "chance" "chance" Hw f fd)(T:Txt K mg aK cs aC)(ue:FnUE P w K mg base k "checked_places" ["k","row","weights"] (F9 K cs))(uw:FnUE P w K mg base k "check_place" ["row","i"] (Hc K cs))(uX:FnUE P w K mg base k "check_bracket" ["k","thing"] (K8 K cs))(ub:FnU P w K mg base k "span_sums" ["places"] (DH))(ur:FnUE P w K mg base k "check_filling" ["sums"] (Gk cs))(yr:FnU P w K mg base k "reduced" ["top","bottom"] (KR))(u7:FnU P w K mg base k "whole_sum" ["sums"] (CS))(uh:FnU P w K mg base k "bracket_sums" ["places","sums"] (ET)):FnOk P w K mg base (CXE P w) (k+1) f fd ["k","row","weights","i","bracket"] (J9):=by
 refine F.okE yq (λvs H Q E h=>?_) (λcdv A outer s H vs Q E hr h=>?_)
 ·obtain⟨k,a,i,b,wv,rfl,_⟩:=h;rfl
 obtain⟨kk,a,i,b,wv,rfl,h1,h2,ha,hw,hi,hb,hne,q⟩:=h;have hl:=Az ha;have hk4:kk.toNat<=4:=by lia
 have hb8:b<8:=by lia
 have hc:brs.getD b 0∈brs.take (2*kk).toNat:=by
  rw[List.getD_eq_getElem?_getD,Ca hb8];have:(brs.take (2*kk).toNat)[b]? =some (brs.getD b 0):=by rw[List.getElem?_take_of_lt (by lia),Ca hb8]
  exact List.mem_of_getElem? this
 have e:tbl (PP (a.map (plw (ones kk.toNat)))) kk.toNat 0 (a.map (plw (ones kk.toNat))).length=W4 kk.toNat a:=Dj _ _;obtain⟨wq,rfl,hq,hwl,hs⟩:=id hw;refine Du ⟨_,(AD (AO (i:=5) yq.nd rfl (Or.inl rfl) (AZ ue hr Ao (AA (pv 0) (AA (pv 1) (AA (pv 2) AB))))) (AD (Al (AZ uw hr Ao (AA (pv 1) (AA (pv 3) AB)))) (AD (Al (AZ uX hr Ao (AA (pv 0) (AA (pv 4) AB)))) (AD (AO (i:=6) yq.nd rfl (Or.inl rfl) (AV ub hr (AA (pv 5) AB))) (AD (Al (AZ ur hr Ao (AA (pv 6) AB))) (AF (AR (AV yr hr (AA (AH (AI K) (AH (AI K) (AV uh hr (AA (pv 5) (AA (pv 6) AB))) (pv 3) (λ_ _=>rfl)) (Bp K PySem.F.plainAttrs_str PySem.F.slot_str_index PySem.F.type_str_index R7 (BK T.g_BRACKETS) (AA (pv 4) AB)) (λ_ _=>rfl)) (AA (AV u7 hr (AA (pv 6) AB)) AB)))))))))),?_⟩;show⟨.int kk,tx a, .ref wq,rfl, .inr ⟨kk,a,_,rfl,rfl,h1,h2,ha,hw,λp H1 hp s1 hP=>?_⟩⟩;show⟨a,_,rfl,hl, .inl ⟨i,rfl,by lia,by lia,?_⟩⟩;show⟨kk,_,rfl,h1,h2, .inl ⟨brs.getD b 0,rfl,hc,?_⟩⟩;show Dd (k:=kk.toNat) hP (by rw[List.length_map];exact hl) (by lia) (FO h1 h2 hwl hs) (λs3 ad H3 tb=>?_);show⟨_,s3,ad,_,_,rfl,tb, .inl ⟨λz=>hne (e.symm.trans z),?_⟩⟩;show HD (k:=kk.toNat) (hP.same tb.sm) (by rw[List.length_map];exact hl) (by lia) (FO h1 h2 hwl hs) tb (λF0 ad4 H4 tw=>?_);have hi':i<(a.map (plw (ones kk.toNat))).length:=by rw[List.length_map];exact hi
 show AN (SqL.of tw.top) (AM (tw.at hi')) ?_;show⟨_,_,b,rfl,rfl,UA hb8,?_⟩;show AN (SqL.of (tw.row i hi')) (AM (Fj (j:=b) hb)) ?_;show Cq (tb.same tw.sm) ?_;rw[e];have et:tbl (Pat (PP (a.map (plw (ones kk.toNat)))) i b) kk.toNat 0 (a.map (plw (ones kk.toNat))).length=atB kk.toNat a i b:=by unfold atB;rw[List.length_map]
 rw[et];ext;have hc5:=Di hk4 hl;exact⟨_,_,rfl,F6 hk4 a i b,by lia,KM hc5,λT H5 _ s5 g5=>q T H5 (((s1.trans tb.sm).trans tw.sm).trans s5) g5⟩
theorem yh:FnScope ["script","k","cell"] ["script","k"] (AK G8):=scM
theorem Pg(F:Fun K "_law_pool" "_law_pool" G8 f fd)(T:Txt K mg aK cs aC):FnOk P w K mg base CX0 (k+1) f fd ["script","k"] (IH K):=by
 refine F.ok yh (λvs H Q E h=>?_) (λcdv A outer s H vs Q E hr h=>?_)
 ·obtain⟨a,ns,k,rfl,_⟩:=h;rfl
 obtain⟨a,ns,k,rfl,hS,h0,h1,q⟩:=h;have hu:=hr.units0;have big:∀ (cell:Int),N9 10 18:=λ_=>⟨by decide,by decide,by decide⟩;refine⟨_,(AD (AO (i:=2) yh.nd rfl (Or.inl rfl) AC) (AD (Ac (AW D5 (pv 1) (Ae (Ar K) rfl T.n_len PySem.boot_len (AA (pv 0) AB)) (AS _)) (AF (AO (i:=2) yh.nd rfl (Or.inl rfl) (AH (AI K) (pv 0) (pv 1) (λ_ _=>rfl)))) Ad) (AF (AR (Am (AA (pv 2) (AA (EN HR rfl T.n_int PyProof.Rows.boot_int (AA (BG JX (pv 2) (AG VT AC AC) (AS _)) AB)) (AA (AG Ax AC (pv 1)) AB)))))))),?_⟩;show BA (.inl hS) ?_;show ifd (λc=>?_) (λc=>?_)
 ·rw[List.length_map]at c;obtain⟨v,hv⟩:=Sg (ns:=ns) h0 c;show AN hS hv ?_;show⟨small (show 3<=1000 by decide),λp hp=>?_⟩;exact q p _ hp (AL hp _) Po.new
 ·show⟨small (show 3<=1000 by decide),λp hp=>?_⟩;exact q p _ hp (AL hp _) Po.new
theorem uR:FnScope ["pool","many","found","x"] ["pool","many"] (AK HA):=scM
theorem Pi(F:Fun K "_law_draw" "_law_draw" HA f fd)(T:Txt K mg aK cs aC):FnOk P w K mg base CX0 (k+1) f fd ["pool","many"] (B8):=by
 refine F.ok uR (λvs H Q E h=>?_) (λcdv A outer s H vs Q E hr h=>?_)
 ·obtain⟨p,m,rfl,_⟩:=h;rfl
 obtain⟨p,m,rfl,⟨a,b,c,hp⟩,hm0,hm1,q⟩:=h;have hu:=hr.units0;have hS:SqL K H p [.int a, .int b, .int c]:=SqL.of hp;refine⟨_,(AD (Ac (AW (A3 K hu) (AH (AI K) (pv 0) AC (λ_ _=>rfl)) AC (AS _)) (AD (AO (i:=2) uR.nd rfl (Or.inl rfl) (AG Cw (AH (AI K) (pv 0) AC (λ_ _=>rfl)) (pv 1))) (AD (BV (AG R1 (AH (AI K) (pv 0) AC (λ_ _=>rfl)) (pv 1)) (CK (pv 0) AC BO)) (AF (AR (pv 2))))) Ad) (AD (BV (AG AX (AH (AI K) (pv 0) AC (λ_ _=>rfl)) AC) (CK (pv 0) AC BO)) (AD (AO (i:=3) uR.nd rfl (Or.inl rfl) (AG Cw (AG AX (AG Cw (AH (AI K) (pv 0) AC (λ_ _=>rfl)) AC) (AG Ax AC (AH (AI K) (pv 0) AC (λ_ _=>rfl)))) AC)) (AD (AO (i:=3) uR.nd rfl (Or.inl rfl) (AG Cw (AG Ax (pv 3) (pv 3)) AC)) (AD (AO (i:=3) uR.nd rfl (Or.inl rfl) (AG Cw (AG Ax (AG AX (pv 3) AC) (pv 3)) AC)) (AF (AR (AG Cw (AG Tx (pv 3) AC) (pv 1))))))))),?_⟩;show ifd (λhb=>?_) (λhb=>?_)
 ·show BS hp (j:=0) rfl ?_;ext;exact q _ _ (Int.emod_nonneg _ (by lia)) (Int.emod_lt_of_pos _ hm0) Po.new SameBut1.upd
 ·show BS hp (j:=2) rfl ?_;have hS2:SqL K (upd H p (.lst [.int a, .int b, .int (c+1)])) p [.int a, .int b, .int (c+1)]:=SqL.of AJ;ext;exact q _ _ (Int.emod_nonneg _ (by lia)) (Int.emod_lt_of_pos _ hm0) Po.new SameBut1.upd
theorem uB:FnScope ["pool","kinds","many","found","stack","k","left","kind"] ["pool","kinds","many"] (AK Gv):=scM
theorem PM(F:Fun K "_law_right" "_law_right" Gv f fd)(T:Txt K mg aK cs aC)(ua:FnU P w K mg base k "_law_draw" ["pool","many"] (B8)):FnOk P w K mg base CX0 (k+1) f fd ["pool","kinds","many"] (Ha):=by
 refine F.ok uB (λvs H Q E h=>?_) (λcdv A outer s H vs Q E hr h=>?_)
 ·obtain⟨p,k,hf,rfl,_⟩:=h;rfl
 obtain⟨p,kk,hf,rfl,hd,hk1,hk4,hm0,hm1,q⟩:=h;have hu:=hr.units0;refine⟨_,(AD (AO (i:=3) uB.nd rfl (Or.inl rfl) (Am AB)) (AD (AO (i:=4) uB.nd rfl (Or.inl rfl) (Am AB)) (AD (A2 PassesOwn.never rfl (CH rfl T.n_range (AA (AG Ax AC (pv 2)) AB)) (AU (i:=5) uB.nd rfl (Or.inl rfl)) (AD (AO (i:=6) uB.nd rfl (Or.inl rfl) (AG My (AG Ax AC (pv 2)) (pv 5))) (AF (Ac (PW.pt (Bf (AW (A3 K hu) (pv 4) (Am AB) (AS _)) (Bo (PW.pt (El (AW D5 (Ae (Ar K) rfl T.n_len PySem.boot_len (AA (pv 4) AB)) (pv 6) (AS _)) (EY (AW (A3 K hu) (AV ua hr (AA (pv 0) (AA AC AB))) AC (AS _)))))))) (AD (AO (i:=7) uB.nd rfl (Or.inl rfl) (AV ua hr (AA (pv 0) (AA (pv 1) AB)))) (AD (Al (Bp K PySem.F.plainAttrs_list PySem.F.slot_list_append PySem.F.type_list_append CI (pv 4) (AA (pv 7) AB))) (AF (Al (Bp K PySem.F.plainAttrs_list PySem.F.slot_list_append PySem.F.type_list_append CI (pv 3) (AA (AH (AI K) (Ap (l:=[40,91,123,60]) (by decide +kernel)) (pv 7) (λ_ _=>rfl)) AB)))))) (AF (Al (Bp K PySem.F.plainAttrs_list PySem.F.slot_list_append PySem.F.type_list_append CI (pv 3) (AA (AH (AI K) (Ap (l:=[41,93,125,62]) (by decide +kernel)) (Fk K PySem.F.plainAttrs_list PySem.F.slot_list_pop PySem.F.type_list_pop F4 (pv 4)) (λ_ _=>rfl)) AB)))))))) (AF (AR (Bp K PySem.F.plainAttrs_str PySem.F.slot_str_join PySem.F.type_str_join (IV K) (Ap (l:=[]) (by decide +kernel)) (AA (pv 3) AB))))))),?_⟩;show⟨small (show 0<=1000 by decide),λfa hfa=>?_⟩;show⟨small (show 0<=1000 by decide),λsa hsa=>?_⟩;have nfp:=hd.ne hfa;have hd1:=hd.same (AL hfa (.lst []));have nsp:=hd1.ne hsa;have hF1:=AL hsa (.lst []) _ _ (AJ (H:=H) (a:=fa) (o:= .lst []));have nsf:sa≠fa:=(AT (AJ (H:=H) (a:=fa) (o:= .lst [])) hsa).symm;have hd2:=hd1.same (AL hsa (.lst []));have hS1:=AJ (H:=upd H fa (.lst [])) (a:=sa) (o:= .lst []);have u2:=(AL hfa (.lst [])).trans (AL hsa (.lst []));have hHs:H sa=none:=(AL hfa (.lst [])).free hsa;generalize upd (upd H fa _) sa _=G at*
 show⟨_,rfl,by lia,by lia,?_⟩;have e2:((2*hf).toNat:Int)=2*hf:=by lia
 refine Do (λi σ H'=>∃ (row:List Nat) (st:List Int) (o5 o6 o7:Option V),σ=[some (.ref p),some (.int kk),some (.int hf),some (.ref fa),some (.ref sa),o5,o6,o7]/\H' fa=some (.lst ((row.map λc=>[c]).map tx))/\
  H' sa=some (.lst (st.map V.int))/\run [] row=some (st.reverse.map ckd)/\(∀c∈row,kin kk c)/\(∀x∈st,0<=x/\x<kk)/\row.length=i/\st.length+i<=(2*hf).toNat/\(st.length+i)%2=0/\Po H' p/\SameBut1 p H H')
  ⟨[],[],_,_,_,rfl,hF1,hS1,rfl,(λ_ z=>nomatch z),(λ_ z=>nomatch z),rfl,by simp,by simp,hd2,SameBut1.of u2⟩ ?_ ?_
 rotate_left
 ·rintro σ H1 ⟨row,st,o5,o6,o7,rfl,hF,hS,hrun,hkin,hst,hrl,hle,hpar,hp1,s1⟩;have e0:st=[]:=List.length_eq_zero_iff.mp (by lia);subst e0;show Iy (SqL.of hF) (by rw[List.length_map,EX];lia) ?_;rw[EX];exact q row H1 hrun (by lia) hkin hp1 s1
 rintro i σ H1 hi ⟨row,st,o5,o6,o7,rfl,hF,hS,hrun,hkin,hst,hrl,hle,hpar,hp1,s1⟩;have ei:(0:Int)+(i:Int)=(i:Int):=by lia
 rw[ei];have hsl:st.length<=40:=by lia
 have opens:∀ {H2:Hp} (o6:Option V) {D:Ends},H2 fa=some (.lst ((row.map λc=>[c]).map tx))->H2 sa=some (.lst (st.map V.int))->Po H2 p->SameBut1 p H H2->st.length+2+i<=(2*hf).toNat->
  (∀σ' H',(∃ (row:List Nat) (st:List Int) (o5 o6 o7:Option V),σ'=[some (.ref p),some (.int kk),some (.int hf),some (.ref fa),some (.ref sa),o5,o6,o7]/\H' fa=some (.lst ((row.map λc=>[c]).map tx))/\
  H' sa=some (.lst (st.map V.int))/\run [] row=some (st.reverse.map ckd)/\(∀c∈row,kin kk c)/\(∀x∈st,0<=x/\x<kk)/\row.length=i+1/\st.length+(i+1)<=(2*hf).toNat/\(st.length+(i+1))%2=0/\Po H' p/\SameBut1 p H H')->D.nx σ' H')->
  (DV (Ck (CM B8 [] E0 (Ag (Ah 0) (Ag (Ah 1) tNil))) (BY 7))
    (DV (Ez (tBM K "list" rAppend (Ah 4) (Ag (Ah 7) tNil)))
      (Ez (tBM K "list" rAppend (Ah 3) (Ag (tOp (Cm K) (tC (tx [40,91,123,60])) (Ah 7)) tNil))))) D [some (.ref p),some (.int kk),some (.int hf),some (.ref fa),some (.ref sa),some (.int i),o6,o7] H2:=by
  intro H2 o6 D f2 g2 p2 s2 hl2 k2;show Bj p2 (by lia) (by lia) (λr H3 r0 r1 p3 s3=>?_);obtain⟨oc,ho1,ho2,ho3,ho4,ho5,ho6⟩:=Mx r0 r1 hk4;have g3:=s3 _ _ g2 nsp;have f3:=s3 _ _ f2 nfp;show⟨SqL.ty (SqL.of g3),?_⟩;show⟨sa,_,_,rfl,rfl,g3,DD (by rw[List.length_map];lia),?_⟩;ext;have f4:(upd H3 sa (.lst (st.map V.int++[.int r]))) fa=some (.lst ((row.map λc=>[c]).map tx)):=by rw[AE (Ne.symm nsf)];exact f3
  refine⟨SqL.ty (SqL.of f4),?_⟩;show BD (small (show 4<=1000 by decide)) ho1 ?_;show⟨fa,_,_,rfl,rfl,f4,DD (by rw[List.length_map,List.length_map];lia),?_⟩;show k2 _ _ ⟨row++[oc],st++[r],_,_,_,rfl,?_,?_,?_,?_,?_,by simp[hrl],by simp;lia,by simp;lia,?_,?_⟩
  ·rw[AJ,List.map_append,List.map_append];rfl
  ·rw[AE nsf,AJ,List.map_append];rfl
  ·rw[Hf hrun,HY ho2,List.reverse_append,List.map_append];show some (clo oc::_)=some (ckd r::_);rw[show ckd r=clo oc from by unfold ckd;rw[ho4];rfl]
   rfl
  ·intro c hc;rcases List.mem_append.mp hc with z|z
   ·exact hkin c z
   ·rw[List.mem_singleton.mp z];exact .inl ho3
  ·intro x hx;rcases List.mem_append.mp hx with z|z
   ·exact hst x z
   ·rw[List.mem_singleton.mp z];exact⟨r0,r1⟩
  ·exact(p3.keep SameBut1.upd (Ne.symm nsp)).keep SameBut1.upd (Ne.symm nfp)
  ·exact EC (EC (s2.trans s3) hHs) hfa
 have closes:∀ {H2:Hp} (o6:Option V) {D:Ends},H2 fa=some (.lst ((row.map λc=>[c]).map tx))->H2 sa=some (.lst (st.map V.int))->Po H2 p->SameBut1 p H H2->st≠[]->
  (∀σ' H',(∃ (row:List Nat) (st:List Int) (o5 o6 o7:Option V),σ'=[some (.ref p),some (.int kk),some (.int hf),some (.ref fa),some (.ref sa),o5,o6,o7]/\H' fa=some (.lst ((row.map λc=>[c]).map tx))/\
  H' sa=some (.lst (st.map V.int))/\run [] row=some (st.reverse.map ckd)/\(∀c∈row,kin kk c)/\(∀x∈st,0<=x/\x<kk)/\row.length=i+1/\st.length+(i+1)<=(2*hf).toNat/\(st.length+(i+1))%2=0/\Po H' p/\SameBut1 p H H')->D.nx σ' H')->
  (Ez (tBM K "list" rAppend (Ah 3) (Ag (tOp (Cm K) (tC (tx [41,93,125,62])) (GL K "list" rPop (Ah 4))) tNil))) D [some (.ref p),some (.int kk),some (.int hf),some (.ref fa),some (.ref sa),some (.int i),o6,o7] H2:=by
  intro H2 o6 D f2 g2 p2 s2 hne k2;obtain⟨sr,x,rfl⟩:∃sr x,st=sr++[x]:=⟨st.dropLast,st.getLast hne,(List.dropLast_concat_getLast hne).symm⟩;obtain⟨x0,x1⟩:=hst x (List.mem_append_right _ List.mem_cons_self);obtain⟨oc,ho1,ho2,ho3,ho4,ho5,ho6⟩:=Mx x0 x1 hk4;show⟨SqL.ty (SqL.of f2),?_⟩;show⟨SqL.ty (SqL.of g2),?_⟩;refine⟨sa,_, .int x,rfl,rfl,g2,by simp,?_⟩;show BD (small (show 4<=1000 by decide)) ho4 ?_;show⟨fa,_,_,rfl,rfl,(AE (Ne.symm nsf)).trans f2,DD (by rw[List.length_map,List.length_map];lia),?_⟩;show k2 _ _ ⟨row++[clo oc],sr,_,_,_,rfl,?_,?_,?_,?_,λy hy=>hst y (List.mem_append_left _ hy),by simp[hrl],by simp at hle;lia,by simp at hpar;lia,?_,?_⟩
  ·rw[AJ,List.map_append,List.map_append];rfl
  ·rw[AE nsf,AJ];simp
  ·rw[List.reverse_append,List.map_append]at hrun;rw[Hf hrun];have e:ckd x=clo oc:=by unfold ckd;rw[ho4];rfl
   show stp (ckd x::_) _=_;rw[e];exact HH ho6 _
  ·intro c hc;rcases List.mem_append.mp hc with z|z
   ·exact hkin c z
   ·rw[List.mem_singleton.mp z];exact .inr ho5
  ·exact(p2.keep SameBut1.upd (Ne.symm nsp)).keep SameBut1.upd (Ne.symm nfp)
  ·exact EC (EC s2 hHs) hfa
 show⟨small (show 0<=1000 by decide),λl hl=>?_⟩;have t1:=AL hl (.lst []);show JT (SqL.of (t1 _ _ hS)) (SqL.of AJ) (by simp[As]) rfl ?_;rw[SU];show ifd (λhc=>?_) (λhc=>?_)
 ·refine ifp rfl ?_;exact opens _ (t1 _ _ hF) (t1 _ _ hS) (hp1.same t1) (s1.trans (SameBut1.of t1)) (by subst hc;simp at hpar hle⊢;lia) (λ_ _ z=>z)
 ·show BA (.inl (SqL.of (t1 _ _ hS))) ?_;show ifd (λhc2=>?_) (λhc2=>?_)
  ·show Bj (hp1.same t1) (by lia) (by lia) (λr H3 r0 r1 p3 s3=>?_);ext;have f3:=s3 _ _ (t1 _ _ hF) nfp;have g3:=s3 _ _ (t1 _ _ hS) nsp;refine ifd (λhc3=>?_) (λhc3=>?_)
   ·exact opens _ f3 g3 p3 ((s1.trans (SameBut1.of t1)).trans s3) (by rw[List.length_map]at hc2;lia) (λ_ _ z=>z)
   ·exact closes _ f3 g3 p3 ((s1.trans (SameBut1.of t1)).trans s3) hc (λ_ _ z=>z)
  ·refine ifq rfl ?_;exact closes _ (t1 _ _ hF) (t1 _ _ hS) (hp1.same t1) (s1.trans (SameBut1.of t1)) hc (λ_ _ z=>z)
theorem uG:FnScope ["pool","kinds","many","signs","found","part","i","turn"] ["pool","kinds","many"] (AK FS):=scM
theorem QF(F:Fun K "_law_row" "_law_row" FS f fd)(T:Txt K mg aK cs aC)(yi:FnU P w K mg base k "_law_right" ["pool","kinds","many"] (Ha))(ua:FnU P w K mg base k "_law_draw" ["pool","many"] (B8)):FnOk P w K mg base CX0 (k+1) f fd ["pool","kinds","many"] (Il):=by
 refine F.ok uG (λvs H Q E h=>?_) (λcdv A outer s H vs Q E hr h=>?_)
 ·obtain⟨p,k,hf,rfl,_⟩:=h;rfl
 obtain⟨p,kk,hf,rfl,hd,hk1,hk4,hm0,hm1,q⟩:=h;have hu:=hr.units0;have hsg0:∀c∈([40,41,91,93,123,125,60,62]:List Nat).take (2*kk).toNat,c∈sgn kk:=λc hc=>(Sw hk1 hk4).mp (List.mem_append_left _ hc);have hsl0:(([40,41,91,93,123,125,60,62]:List Nat).take (2*kk).toNat).length=(2*kk).toNat:=by rw[List.length_take];simp;lia
 have unk:63∈sgn kk:=by unfold sgn;simp
 have tail:∀ (sg:List Nat) (fa:Addr) (row:List Nat) (H2:Hp),(∀c∈sg,c∈sgn kk)->sg.length=(2*kk).toNat->H2 fa=some (.lst ((row.map λc=>[c]).map tx))->(∀c∈row,c∈sgn kk)->(row.length:Int)<=2*hf+1->Po H2 p->SameBut1 p H H2->H fa=none->fa≠p->
  (DV (Ck (tOp (Cm K) (E6 (Ag (tC (V.int 2)) (Ag (tC (V.int 1)) (Ag (tC (V.int 3)) (Ag (tC (V.int 8)) tNil))))) (CM B8 [] E0 (Ag (Ah 0) (Ag (tC (V.int 4)) tNil)))) (BY 5))
  (DV (GJ (GE (Ag (tCB (E7 K) (Ag (Ah 4) tNil)) tNil)) (BY 6) (Ji (F7 (tOp (E8 K) (CM B8 [] E0 (Ag (Ah 0) (Ag (Ah 5) tNil))) (tC (V.int 0)))) (Ck (tC (tx [63])) (GP (Ah 4) (Ah 6) rSetL)) tNext))
    (DV (GJ (GE (Ag (tOp rTimes (tOp (Cm K) (E6 (Ag (tC (V.int 0)) (Ag (tC (V.int 0)) (Ag (tC (V.int 1)) (Ag (tC (V.int 2)) tNil))))) (CM B8 [] E0 (Ag (Ah 0) (Ag (tC (V.int 4)) tNil)))) (tCB rInt (Ag (tOp (EB K) (Ah 4) (E6 tNil)) tNil))) tNil)) (BY 7)
      (Ck (tOp (Cm K) (Ah 3) (CM B8 [] E0 (Ag (Ah 0) (Ag (tOp rTimes (tC (V.int 2)) (Ah 1)) tNil)))) (GP (Ah 4) (CM B8 [] E0 (Ag (Ah 0) (Ag (tCB (E7 K) (Ag (Ah 4) tNil)) tNil))) rSetL)))
      (Jh (tBM K "str" (rJoin K) (tC (tx [])) (Ag (Ah 4) tNil)))))) {nx:=λ_ H'=>Q .non H',rt:=Q} [some (.ref p),some (.int kk),some (.int hf),some (tx sg),some (.ref fa),none,none,none] H2:=by
  intro sg fa row H2 hsg hsl f2 hrow hrl p2 s2 hfa nfp;show⟨small (show 4<=1000 by decide),λl1 hl1=>?_⟩;have t1:=AL hl1 (.lst [.int 2, .int 1, .int 3, .int 8]);show Bj (p2.same t1) (by lia) (by lia) (λr1 H3 r10 r11 p3 s3=>?_);obtain⟨vp,eix,hvp⟩:=at4 (V.int 2) (V.int 1) (V.int 3) (V.int 8) r10 r11;obtain⟨pt,rfl,hp0,hp9⟩:∃pt:Int,vp= .int pt/\0<pt/\pt<10:=by rcases hvp with rfl|rfl|rfl|rfl<;>exact⟨_,rfl,by decide,by decide⟩
  have f3:=s3 _ _ (t1 _ _ f2) nfp;show AN (SqL.of (s3 _ _ AJ (p2.ne hl1))) eix ?_;have u3:SameBut1 p H H3:=(s2.trans (SameBut1.of t1)).trans s3;clear hvp eix;show BA (.inl (SqL.of f3)) ?_;ext;rw[List.length_map,List.length_map];obtain⟨n1,en1⟩:∃n1,row.length=n1:=⟨_,rfl⟩;rw[en1];refine⟨_,rfl,by lia,by lia,?_⟩;refine Do (λi σ H'=>∃ (row:List Nat) (o6:Option V),σ=[some (.ref p),some (.int kk),some (.int hf),some (tx sg),some (.ref fa),some (.int pt),o6,none]/\H' fa=some (.lst ((row.map λc=>[c]).map tx))/\(∀c∈row,c∈sgn kk)/\row.length=n1/\Po H' p/\SameBut1 p H H')
   ⟨row,none,rfl,f3,hrow,en1,p3,u3⟩ ?_ ?_
  ·rintro i σ H4 hi ⟨row',o6,rfl,f4,hrow',hrl',p4,s4⟩;have ei:(0:Int)+(i:Int)=(i:Int):=by lia
   rw[ei];show Bj p4 hp0 (by lia) (λr5 H5 r50 r51 p5 s5=>?_);have f5:=s5 _ _ f4 nfp;show ifd (λhc=>?_) (λhc=>?_)
   ·show BS f5 (j:=i) (MJ (by rw[List.length_map,List.length_map];lia)) ?_;show⟨row'.set i 63,_,rfl,?_,λc hc=>?_,by rw[List.length_set];exact hrl',p5.keep SameBut1.upd (Ne.symm nfp),EC (s4.trans s5) hfa⟩
    ·rw[AJ,List.map_set,List.map_set]
    ·rcases List.mem_or_eq_of_mem_set hc with z|z
     ·exact hrow' c z
     ·rw[z];exact unk
   ·ext;exact⟨row',_,rfl,f5,hrow',hrl',p5,s4.trans s5⟩
  ·rintro σ H4 ⟨row',o6,rfl,f4,hrow',hrl',p4,s4⟩;show⟨small (show 4<=1000 by decide),λl2 hl2=>?_⟩;have t2:=AL hl2 (.lst [.int 0, .int 0, .int 1, .int 2]);show Bj (p4.same t2) (by lia) (by lia) (λr6 H6 r60 r61 p6 s6=>?_);obtain⟨vp,eix,hvp⟩:=at4 (V.int 0) (V.int 0) (V.int 1) (V.int 2) r60 r61;obtain⟨tn,rfl,ht0,ht9⟩:∃tn:Int,vp= .int tn/\0<=tn/\tn<3:=by rcases hvp with rfl|rfl|rfl|rfl<;>exact⟨_,rfl,by decide,by decide⟩
   have f6:=s6 _ _ (t2 _ _ f4) nfp;show AN (SqL.of (s6 _ _ AJ (p4.ne hl2))) eix ?_;have u6:SameBut1 p H H6:=(s4.trans (SameBut1.of t2)).trans s6;clear hvp eix;show⟨small (show 0<=1000 by decide),λl3 hl3=>?_⟩;have t3:=AL hl3 (.lst []);show JS (SqL.of (t3 _ _ f6)) (SqL.of AJ) (SQ _) rfl ?_;ext;have hev:eqVs ((row'.map λc=>[c]).map tx) []=decide (row'=[]):=by cases row'<;>rfl
   rw[hev];refine⟨_,rfl,by split<;>lia,by split<;>lia,?_⟩;refine Do (λi σ H'=>∃ (row:List Nat) (o6 o7:Option V),σ=[some (.ref p),some (.int kk),some (.int hf),some (tx sg),some (.ref fa),some (.int pt),o6,o7]/\H' fa=some (.lst ((row.map λc=>[c]).map tx))/\(∀c∈row,c∈sgn kk)/\row.length=n1/\Po H' p/\SameBut1 p H H')
    ⟨row',_,_,rfl,t3 _ _ f6,hrow',hrl',p6.same t3,u6.trans (SameBut1.of t3)⟩ ?_ ?_
   ·rintro i σ H7 hi ⟨row7,o6,o7,rfl,f7,hrow7,hrl7,p7,s7⟩;have hne:row'≠[]:=λz=>by subst z;simp at hi
    have hn0:0<n1:=by rw[<-hrl'];exact List.length_pos_iff.mpr hne
    show Bj p7 (by lia) (by lia) (λr8 H8 r80 r81 p8 s8=>?_);obtain⟨c,hc8,hcm⟩:=ND (l:=sg) r80 (by rw[hsl];lia);show BD (small (by lia)) hc8 ?_;have f8:=s8 _ _ f7 nfp;show BA (.inl (SqL.of f8)) ?_;ext;rw[List.length_map,List.length_map];refine Bj p8 (by lia) (by lia) (λr9 H9 r90 r91 p9 s9=>?_);obtain⟨j,rfl⟩:∃j:Nat,r9=j:=⟨r9.toNat,by lia⟩;have f9:=s9 _ _ f8 nfp;show BS f9 (j:=j) (MJ (by rw[List.length_map,List.length_map];lia)) ?_;show⟨row7.set j c,_,_,rfl,?_,λd hd=>?_,by rw[List.length_set];exact hrl7,p9.keep SameBut1.upd (Ne.symm nfp),EC ((s7.trans s8).trans s9) hfa⟩
    ·rw[AJ,List.map_set,List.map_set]
    ·rcases List.mem_or_eq_of_mem_set hd with z|z
     ·exact hrow7 d z
     ·rw[z];exact hsg c hcm
   ·rintro σ H7 ⟨row7,o6,o7,rfl,f7,hrow7,hrl7,p7,s7⟩;show Iy (SqL.of f7) (by rw[List.length_map,EX];lia) ?_;rw[EX];exact q row7 H7 (by lia) hrow7 p7 s7
 refine⟨_,(AD (AO (i:=3) uG.nd rfl (Or.inr rfl) (Bw (B1 K) (Ap (l:=[40,41,91,93,123,125,60,62]) (by decide +kernel)) B5 (Bl (AG Ax AC (pv 1))))) (AD (AO (i:=4) uG.nd rfl (Or.inl rfl) (EN (QT K rfl) rfl T.n_list PyProof.Rows.boot_list (AA (AV yi hr (AA (pv 0) (AA (pv 1) (AA (pv 2) AB)))) AB))) (AD (Ac (AW (A3 K hu) (AV ua hr (AA (pv 0) (AA AC AB))) AC (AS _)) (AF (EK (i:=4) uG.nd rfl (Or.inl rfl) (own:=["k"]) (sel:=[3,0,1]) (A4 (osc:=(AK FS)) (N:=["pool","kinds","many","signs","found","part","i","turn"]) (by decide +kernel)) rfl (CH rfl T.n_range (AA (AG AX (AG Ax AC (pv 2)) (AV ua hr (AA (pv 0) (AA AC AB)))) AB)) (λ_ _ _ _ _=>(AU (i:=0) (show(["k","signs","pool","kinds"]:List Str).Nodup from by decide +kernel) rfl (Or.inl rfl))) (Ak (by decide)) (λ_ _ _ _ _=>BQ) (λ_ _ _ _ _=>(AH (AI K) (AG AX (pv 1) (Ap (l:=[63,63]) (by decide +kernel))) (AV ua hr (AA (pv 2) (AA (AG AX (AG Ax AC (pv 3)) AC) AB))) (λ_ _=>rfl))))) Ad) (AD (AO (i:=5) uG.nd rfl (Or.inl rfl) (AH (AI K) (Am (AA AC (AA AC (AA AC (AA AC AB))))) (AV ua hr (AA (pv 0) (AA AC AB))) (λ_ _=>rfl))) (AD (A2 PassesOwn.never rfl (CH rfl T.n_range (AA (Ae (Ar K) rfl T.n_len PySem.boot_len (AA (pv 4) AB)) AB)) (AU (i:=6) uG.nd rfl (Or.inl rfl)) (AF (Ac (AW (A3 K hu) (AV ua hr (AA (pv 0) (AA (pv 5) AB))) AC (AS _)) (AF (BV (Ap (l:=[63]) (by decide +kernel)) (CK (pv 4) (pv 6) BO))) Ad))) (AD (A2 PassesOwn.never rfl (CH rfl T.n_range (AA (AG Ax (AH (AI K) (Am (AA AC (AA AC (AA AC (AA AC AB))))) (AV ua hr (AA (pv 0) (AA AC AB))) (λ_ _=>rfl)) (EN HR rfl T.n_int PyProof.Rows.boot_int (AA (BG (Bq K hu) (pv 4) (Am AB) (AS _)) AB))) AB)) (AU (i:=7) uG.nd rfl (Or.inl rfl)) (AF (BV (AH (AI K) (pv 3) (AV ua hr (AA (pv 0) (AA (AG Ax AC (pv 1)) AB))) (λ_ _=>rfl)) (CK (pv 4) (AV ua hr (AA (pv 0) (AA (Ae (Ar K) rfl T.n_len PySem.boot_len (AA (pv 4) AB)) AB))) BO)))) (AF (AR (Bp K PySem.F.plainAttrs_str PySem.F.slot_str_join PySem.F.type_str_join (IV K) (Ap (l:=[]) (by decide +kernel)) (AA (pv 4) AB)))))))))),?_⟩;ext;rw[CL _ (by lia)];generalize([40,41,91,93,123,125,60,62]:List Nat).take (2*kk).toNat=sg at hsg0 hsl0⊢;show P8 hd hk1 hk4 hm0 hm1 (λrow0 H1 _ hl0 hkin p1 s1=>?_);show S4 (by lia) (λfa hfa=>?_);have t1:=AL hfa (.lst ((row0.map λc=>[c]).map tx));have f1:=AJ (H:=H1) (a:=fa) (o:= .lst ((row0.map λc=>[c]).map tx));have nfp:=p1.ne hfa;have hHf:H fa=none:=by
  cases z:H fa with
  |none=>rfl
  |some o=>rw[s1 _ _ z nfp]at hfa;cases hfa
 show Bj (p1.same t1) (by lia) (by lia) (λr2 H2 r20 r21 p2 s2=>?_);have u2:SameBut1 p H H2:=(s1.trans (SameBut1.of t1)).trans s2;show ifd (λhc=>?_) (λhc=>?_)
 ·show Bj p2 (by lia) (by lia) (λr3 H3 r30 r31 p3 s3=>?_);show⟨_,rfl,by lia,by lia,?_⟩;have hn:(2*hf+r3).toNat<=41:=by lia
  refine DK (n:=(2*hf+r3).toNat) (λD i ys H'=>∃row:List Nat,ys=(row.map λc=>[c]).map tx/\row.length=i/\(∀c∈row,c∈sgn kk)/\Po H' p/\∀b o,H3 b=some o->b≠p->H' b=some o) (λD hD=>⟨[],rfl,rfl,(λ_ z=>nomatch z),p3.same (AL hD _),λb o z _=>by rw[AE (AT z hD)];exact z⟩) (λD i ys H' _ hi _ _=>hi) (λD ys H' hD hD' hl ⟨row,e,hrl,hrow,p4,s4⟩=>⟨Nat.le_refl _,?_⟩) ?_
  ·subst e;ext;exact tail sg D row H' hsg0 hsl0 hD' hrow (by lia) p4 (λb o z n=>s4 b o (s3 b o (u2 b o z n) n) n) (by
    cases z:H D with
    |none=>rfl
    |some o=>rw[s3 _ _ (u2 _ _ z ((p3.ne hD))) (p3.ne hD)]at hD;cases hD) (p3.ne hD)
  ·rintro D i ys H' x H5 hD hi hD' hl ⟨row,e,hrl,hrow,p4,s4⟩ ⟨rfl,rfl⟩;have nDp:=p3.ne hD;show BY 0 _ _ _ _;show EE ?_;ext
   first|refine DM (small (by rw[hsl0];simp;lia)) ?_ |skip
   show Bj p4 (by lia) (by lia) (λr4 H6 r40 r41 p6 s6=>?_);obtain⟨c,hc4,hcm⟩:=ND (l:=sg++[63,63]) r40 (by rw[List.length_append,hsl0];simp;lia);show BD (small (by rw[List.length_append,hsl0];simp;lia)) hc4 ?_;refine De hi (small (by lia)) (s6 _ _ hD' nDp) hl ⟨row++[c],?_,by simp[hrl],?_,p6.keep SameBut1.upd (Ne.symm nDp),?_⟩
   ·rw[e,List.map_append,List.map_append];rfl
   ·intro d hd;rcases List.mem_append.mp hd with z|z
    ·exact hrow d z
    ·rw[List.mem_singleton.mp z];rcases List.mem_append.mp hcm with y|y
     ·exact hsg0 c y
     ·have:c=63:=by simpa using y
      rw[this];exact unk
   ·intro b o z n;rw[AE (AT z hD)];exact s6 b o (s4 b o z n) n
 ·ext;exact tail sg fa row0 H2 hsg0 hsl0 (s2 _ _ f1 nfp) (λc hc=>UJ (hkin c hc)) (by lia) p2 u2 hHf nfp
theorem uA:FnScope ["kinds","row","caught","e","other"] ["kinds","row"] (AK G9):=scM
theorem Ph(F:Fun K "_law_none" "_law_none" G9 f fd)(T:Txt K mg aK cs aC)(uC:FnUE P w K mg base k "sure_pairs" ["k","row"] (Gp cs))(uk:FnUE P w K mg base k "sure_places" ["k","row"] (FF cs)):FnOk P w K mg base CX0 (k+1) f fd ["kinds","row"] (K4):=by
 refine F.ok uA (λvs H Q E h=>?_) (λcdv A outer s H vs Q E hr h=>?_)
 ·obtain⟨kk,a,rfl,_⟩:=h;rfl
 obtain⟨kk,a,rfl,k1,k4,hro,hc,q⟩:=h;refine⟨_,(AD (AO (i:=2) uA.nd rfl (Or.inl rfl) A6) (AD (Mq (i:=3) T.e_NoFilling T.c_NoFilling ⟨rfl,rfl,rfl⟩ uA.nd rfl rfl (λpn xe R hx=>(AF (Al (AZ uC hr hx (AA (pv 0) (AA (pv 1) AB)))))) (λev=>(AF (AO (i:=2) uA.nd rfl (Or.inl rfl) (pv 3))))) (AD (AO (i:=4) uA.nd rfl (Or.inl rfl) A6) (AD (Mq (i:=3) T.e_NoFilling T.c_NoFilling ⟨rfl,rfl,rfl⟩ uA.nd rfl rfl (λpn xe R hx=>(AF (Al (AZ uk hr hx (AA (pv 0) (AA (pv 1) AB)))))) (λev=>(AF (AO (i:=4) uA.nd rfl (Or.inl rfl) (pv 3))))) (AF (AR (Er (BG Kc (pv 2) A6 (AS _)) (Eo (BG Kc (pv 4) A6 (AS _)))))))))),?_⟩;show⟨kk,a,⟨rfl,k1,k4,hro⟩, .inl ⟨hc,Mo (λy H1 s1 hy=>⟨T.mm_NoFilling,λob=>?_⟩)⟩⟩;have t1:Same H (upd H1 y (C7 ob y cs.NoFilling)):=LE s1 hy;generalize upd H1 y _=G1 at*
 ext;unfold Ec
 dsimp only
 show⟨kk,a,⟨rfl,k1,k4,hro⟩, .inl ⟨hc,Mo (λy2 H2 s2 hy2=>⟨T.mm_NoFilling,λob2=>?_⟩)⟩⟩;have t2:Same G1 (upd H2 y2 (C7 ob2 y2 cs.NoFilling)):=LE s2 hy2;generalize upd H2 y2 _=G2 at*
 ext;unfold Ec
 dsimp only
 show ifp rfl ?_;ext;exact q G2 (t1.trans t2)
theorem ug:FnScope ["kinds","row","i","many","counts","bracket","number","top","bottom"] ["kinds","row","i","many"] (AK GX):=scM
theorem OM(F:Fun K "_law_place_right" "_law_place_right" GX f fd)(T:Txt K mg aK cs aC)(yv:FnUE P w K mg base k "chance" ["k","row","weights","i","bracket"] (J9))(ui:FnUE P w K mg base k "how_many" ["k","row"] (BP K cs Dr))(ux:FnUE P w K mg base k "brackets_at" ["k","row","i"] (Ip cs)):FnOk P w K mg base (CXE P w) (k+1) f fd ["kinds","row","i","many"] (KS):=by
 refine F.okE ug (λvs H Q E h=>?_) (λcdv A outer s H vs Q E hr h=>?_)
 ·obtain⟨k,a,i,rfl,_⟩:=h;rfl
 obtain⟨kk,a,i,rfl,k1,k4,hro,hi,hc,q⟩:=h;have hl:=Az hro;have hk4:kk.toNat<=4:=by lia
 have hu:=hr.units0;have hu2:=Mc hr;have hcc:=Di hk4 hl;refine Du ⟨_,(AD (AO (i:=4) ug.nd rfl (Or.inl rfl) Rw) (AD (A2 PassesOwn.never rfl (F3 (Bw (B1 K) (Ap (l:=[40,41,91,93,123,125,60,62]) (by decide +kernel)) B5 (Bl (AG Av AC (pv 0))))) (AU (i:=5) ug.nd rfl (Or.inl rfl)) (AD (AO (i:=6) ug.nd rfl (Or.inl rfl) AC) (AD (Ac (AW (DN K) (AH (AI K) (pv 1) (pv 2) (λ_ _=>rfl)) (BW (AA (Ap (l:=[63]) (by decide +kernel)) (AA (pv 5) AB))) (by with_unfolding_all rfl)) (AF (AO (i:=6) ug.nd rfl (Or.inl rfl) (AZ ui hr Ao (AA (pv 0) (AA (AG AX (AG AX (Bw (B1 K) (pv 1) B5 (Bl (pv 2))) (pv 5)) (Bw (B1 K) (pv 1) (Bl (AG AX (pv 2) AC)) B5)) AB))))) Ad) (AD (Ac (AW DT (pv 6) AC (AS _)) (AF (TX hu2 (pv 4) (pv 5) (pv 6) rfl)) Ad) (AD (BV (AZ yv hr Ao (AA (pv 0) (AA (pv 1) (AA (AG Ax (Am (AA AC AB)) (AG Av AC (pv 0))) (AA (pv 2) (AA (pv 5) AB)))))) (By (n:=2) K rfl (Aj (AU (i:=7) ug.nd rfl (Or.inl rfl)) (Aj (AU (i:=8) ug.nd rfl (Or.inl rfl)) Bm)))) (AF (Ac (AW (Bq K hu) (AG Av (pv 7) (pv 3)) (AG Av (pv 6) (pv 8)) (AS _)) (AF (AR Cg)) Ad))))))) (AF (AR (Er (BG (Tz K hu) (AZ ux hr Ao (AA (pv 0) (AA (pv 1) (AA (pv 2) AB)))) (pv 4) (AS _)) (Eo (BG (A3 K hu) (Tg T.n_sum rfl (pv 4)) (pv 3) (AS _)))))))),?_⟩;ext;intro cd hcd;have t1:=AL hcd (.dK []);have g1:(upd H cd (.dK [])) cd=some (.dK (kvB kk.toNat a i 0)):=AJ;generalize upd H cd _=H1 at*
 show Aw (DO (by decide)) (DO (by lia)) ?_;ext;have ecut:Ba [40,41,91,93,123,125,60,62] none (some (2*kk))=brs.take (2*kk.toNat):=by
  rw[CL _ (by lia)];rw[show(2*kk).toNat=2*kk.toNat by lia];rfl
 rw[ecut];have hbl:(brs.take (2*kk.toNat)).length=2*kk.toNat:=by rw[List.length_take];show min _ 8=_;lia
 have gi:a[i]? =some (a.getD i 0):=by rw[List.getD_eq_getElem?_getD,List.getElem?_eq_getElem (by lia)];rfl
 refine UQ (λn σ H'=>∃ (o5 o6 o7 o8:Option V),σ=[some (.int kk),some (tx a),some (.int (i:Int)),some (.int (W4 kk.toNat a)),some (.ref cd),o5,o6,o7,o8]/\Same H H'/\H' cd=some (.dK (kvB kk.toNat a i n))) ⟨_,_,_,_,rfl,t1,g1⟩ ?_ ?_
 rotate_left
 ·rw[hbl];rintro σ H2 ⟨o5,o6,o7,o8,rfl,s2,g2⟩;show⟨kk,a,i,rfl,k1,k4,hro,hi, .inr ⟨hc,λD H3 hD s3 gD=>?_⟩⟩;show⟨D,cd,_,rfl,rfl, .inl gD, .inl (s3 _ _ g2),Va (by lia),UI,?_⟩;refine⟨true,rfl,?_⟩;refine ifp rfl ?_;show⟨cd,_,_,rfl, .inl (s3 _ _ g2),SE _ _ _ _,?_⟩;rw[ME hk4,NB hi];ext;rw[decide_eq_true rfl];exact q H3 (s2.trans s3)
 rintro b c σ H2 hcb ⟨o5,o6,o7,o8,rfl,s2,g2⟩;have hb:b<2*kk.toNat:=by rw[<-hbl];exact(List.getElem?_eq_some_iff.mp hcb).1
 have ec:c=brs.getD b 0:=by
  rw[List.getElem?_take_of_lt hb,Ca (by lia)]at hcb;exact(Option.some.inj hcb).symm
 subst ec;show BD (small (by lia)) (AM gi) ?_;show⟨small (show 2<=1000 by decide),λT9 hT9=>?_⟩;have t9:=AL hT9 (.tup [tx [63],tx [brs.getD b 0]]);have g9:(upd H2 T9 (.tup [tx [63],tx [brs.getD b 0]])) T9=_:=AJ;have s9:=s2.trans t9;have gd9:=t9 _ _ g2;generalize upd H2 T9 _=H3 at*
 refine E2 (.inr (SqT.of g9)) rfl rfl ?_;rw[Ja];show Vk (v:= .int (atB kk.toNat a i b)) (λH4 s4=>?_) (λhcnd N hN=>?_) (λhcnd=>?_)
 rotate_left
 ·have ho:okc (a.getD i 0) b=true:=hcnd;ext;have e2:((i:Int)+1)=((i+1:Nat):Int):=by lia
  rw[CL a (show(0:Int)<=(i:Int) by lia),Int.toNat_natCast];refine DM (small (by simp;lia)) ?_;ext;rw[e2,LY];refine DM (small (by simp;lia)) ?_;ext;rw[List.append_assoc,List.singleton_append];have hc2:Ab kk (a.take i++brs.getD b 0::a.drop (i+1))=true:=FX (by simp;lia) λc hc=>by
   rcases List.mem_append.mp hc with z|z
   ·exact EO hro c (List.mem_of_mem_take z)
   ·rcases List.mem_cons.mp z with z|z
    ·rw[z];have:=MW kk.toNat hk4 b hb;rwa[show((kk.toNat:Nat):Int)=kk by lia]at this
    ·exact EO hro c (List.mem_of_mem_drop z)
  refine .inl (EW k1 k4 hc2 (λH4 s4=>?_));rw[UV hk4 hi hb ho];exact hN H4 s4
 ·rw[Vy hk4 hi hb (by rw[show okc (a.getD i 0) b=false from hcnd];decide)]
  rfl
 have hat:=Sj hk4 hl i b;have gd4:=s4 _ _ gd9;have s14:=s9.trans s4;show Vl (key:=Sum.inr ⟨#[brs.getD b 0]⟩) gd4 (by have:=MG kk.toNat a i b;rw[sizeLine_eq];lia) rfl rfl rfl (λH5 e5=>?_);have g5:H5 cd=some (.dK (kvB kk.toNat a i (b+1))):=by
  rw[LR,e5]
  by_cases z:0<atB kk.toNat a i b
  ·rw[if_pos (decide_eq_true z),if_pos z,AJ,LG _ (MF (by lia))]
  ·rw[if_neg (by simpa using z),if_neg z];exact gd4
 have s5:Same H H5:=by
  rw[e5]
  split
  ·exact λx o z=>by rw[AE (AT z hcd)];exact s14 x o z
  ·exact s14
 clear e5 gd4 s14;show⟨small (show 1<=1000 by decide),λz hz=>?_⟩;show Aw (DO (by decide)) (DO (by lia)) ?_;have e2:(2*kk).toNat=2*kk.toNat:=by lia
 refine DS (xs:=[.int 1]) AJ (by lia) (by lia) (small (by rw[List.length_singleton,e2];lia)) (λp hp=>?_);have ew:(List.replicate (2*kk).toNat [V.int 1]).flatten=(ones kk.toNat).map V.int:=by rw[e2,Hh]
 rw[ew];have t6:Same H5 (upd (upd H5 z (.lst [.int 1])) p (.lst ((ones kk.toNat).map V.int))):=(AL hz _).trans (AL hp _);have g6:(upd (upd H5 z (.lst [.int 1])) p (.lst ((ones kk.toNat).map V.int))) p=some (iL (ones kk.toNat)):=AJ;generalize upd (upd H5 z _) p _=H6 at*
 show⟨kk,a,i,b, .ref p,rfl,k1,k4,hro,⟨p,rfl,g6,by rw[List.length_replicate];lia,IU _⟩,hi,hb,hc,λT H7 s7 gT=>?_⟩;show⟨T,_,rfl,SqT.of gT,rfl,?_⟩;have hgp:=Fs (t:=atB kk.toNat a i b) (show 0<W4 kk.toNat a by lia);show Aw (Dp (LV hat hgp)) (Dp hcc) ?_;show Aw (Dp hat) (Dp (LV hcc hgp)) ?_;rw[RB hat.1 (by lia)];show ifq (by simp) ?_;ext;exact⟨_,_,_,_,rfl,s5.trans (t6.trans s7),s7 _ _ (t6 _ _ g5)⟩
theorem uI:FnScope ["kinds","row","i","j","found","place"] ["kinds","row","i","j"] (AK Ge):=scM
theorem Oh(F:Fun K "_law_together" "_law_together" Ge f fd)(T:Txt K mg aK cs aC)(ui:FnUE P w K mg base k "how_many" ["k","row"] (BP K cs Dr)):FnOk P w K mg base (CXE P w) (k+1) f fd ["kinds","row","i","j"] (Jv):=by
 refine F.okE uI (λvs H Q E h=>?_) (λcdv A outer s H vs Q E hr h=>?_)
 ·obtain⟨k,a,i,j,rfl,_⟩:=h;rfl
 obtain⟨kk,a,i,j,rfl,k1,k4,hro,hij,hj,q⟩:=h;have hl:=Az hro;have hk4:kk.toNat<=4:=by lia
 have hu:=hr.units0;refine Du ⟨_,(AD (AO (i:=4) uI.nd rfl (Or.inl rfl) AC) (AD (A2 PassesOwn.never rfl (Bi rfl T.n_range (AA AC (AA (AG Av AC (pv 0)) (AA AC AB)))) (AU (i:=5) uI.nd rfl (Or.inl rfl)) (AF (Ac (PW.pt (El (AW (DN K) (AH (AI K) (pv 1) (pv 2) (λ_ _=>rfl)) (BW (AA (Ap (l:=[63]) (by decide +kernel)) (AA (AH (AI K) (Ap (l:=[40,41,91,93,123,125,60,62]) (by decide +kernel)) (pv 5) (λ_ _=>rfl)) AB))) (by with_unfolding_all rfl)) (EY (AW (DN K) (AH (AI K) (pv 1) (pv 3) (λ_ _=>rfl)) (BW (AA (Ap (l:=[63]) (by decide +kernel)) (AA (AH (AI K) (Ap (l:=[40,41,91,93,123,125,60,62]) (by decide +kernel)) (AG AX (pv 5) AC) (λ_ _=>rfl)) AB))) (by with_unfolding_all rfl))))) (AF (AO (i:=4) uI.nd rfl (Or.inl rfl) (AG AX (pv 4) AC))) Ad))) (AF (AR (AG Av (AG Av (pv 4) (AZ ui hr Ao (AA (pv 0) (AA (Bw (B1 K) (pv 1) (Bl (AG AX (pv 2) AC)) (Bl (pv 3))) AB)))) (AZ ui hr Ao (AA (pv 0) (AA (AG AX (Bw (B1 K) (pv 1) B5 (Bl (pv 2))) (Bw (B1 K) (pv 1) (Bl (AG AX (pv 3) AC)) B5)) AB)))))))),?_⟩;show Aw (DO (by decide)) (DO (by lia)) ?_;show⟨0,_,2,rfl,⟨by decide,by decide,B3 (by lia) (by lia) (by lia) (by lia)⟩,?_⟩;have er:rN 0 (2*kk) 2=kk.toNat:=by rw[show(2*kk)=((2*kk.toNat:Nat):Int) by lia,CA];lia
 rw[er];have hfb:∀t,t<=kk.toNat->(sm t λp=>P1 kk.toNat a i (2*p)*P1 kk.toNat a j (2*p+1))<=t/\0<=(sm t λp=>P1 kk.toNat a i (2*p)*P1 kk.toNat a j (2*p+1)):=λt ht=>by
  have h1:∀p,P1 kk.toNat a i (2*p)*P1 kk.toNat a j (2*p+1)<=1:=λp=>by
   have:=Int.mul_le_mul (GC hk4 a i (2*p)) (GC hk4 a j (2*p+1)) (CD hk4 a j (2*p+1)) (by decide);simpa using this
  have h2:=DI (g:=λ_=>1) t λp _=>h1 p;rw[DE]at h2;exact⟨by lia,A7 t λp _=>Int.mul_nonneg (CD hk4 a _ _) (CD hk4 a _ _)⟩
 refine B4 (λt σ H'=>∃ (o5:Option V),σ=[some (.int kk),some (tx a),some (.int (i:Int)),some (.int (j:Int)),some (.int (sm t λp=>P1 kk.toNat a i (2*p)*P1 kk.toNat a j (2*p+1))),o5]/\Same H H') ⟨_,rfl,Same.refl H⟩ ?_ ?_
 rotate_left
 ·rintro σ H1 ⟨o5,rfl,s1⟩;ext;have e2:((i:Int)+1)=((i+1:Nat):Int):=by lia
  have e3:((j:Int)+1)=((j+1:Nat):Int):=by lia
  rw[e2,Vs,<-List.drop_take];have hm:Ab kk ((a.take j).drop (i+1))=true:=FX (by simp;lia) λc hc=>EO hro c (List.mem_of_mem_take (List.mem_of_mem_drop hc));refine .inl (EW k1 k4 hm (λH2 s2=>?_));have b2:=Di hk4 (Az hm);rw[UW hij hj]at b2⊢;have b1:=hfb kk.toNat (Nat.le_refl _);have ep:(sm kk.toNat λp=>P1 kk.toNat a i (2*p)*P1 kk.toNat a j (2*p+1))=pr (P1 kk.toNat a) kk.toNat i j:=rfl;rw[ep]at b1⊢;refine Aw (DO (by lia)) (Dp b2) ?_;ext;rw[CL a (show(0:Int)<=(i:Int) by lia),Int.toNat_natCast,e3,LY];refine DM (small (by simp;lia)) ?_;ext;have hc:Ab kk (a.take i++a.drop (j+1))=true:=FX (by simp;lia) λc hc=>by
   rcases List.mem_append.mp hc with z|z
   ·exact EO hro c (List.mem_of_mem_take z)
   ·exact EO hro c (List.mem_of_mem_drop z)
  refine .inl (EW k1 k4 hc (λH3 s3=>?_));have b3:=Di hk4 (Az hc);rw[UX (Nat.le_of_lt hij) hj]at b3⊢;have b4:pr (P1 kk.toNat a) kk.toNat i j*tbl (P1 kk.toNat a) kk.toNat (i+1) j<=4*5^40:=Int.mul_le_mul (by lia) b2.2 b2.1 (by decide);refine Aw (An (Int.mul_nonneg b1.2 b2.1) b4 (by unfold big;decide +kernel)) (Dp b3) ?_;rw[Int.mul_assoc];exact q H3 ((s1.trans s2).trans s3)
 rintro t σ H1 ht ⟨o5,rfl,s1⟩;have e0:(0:Int)+(t:Int)*2=((2*t:Nat):Int):=by lia
 have e1:((2*t:Nat):Int)+1=((2*t+1:Nat):Int):=by lia
 rw[e0];have gi:a[i]? =some (a.getD i 0):=by rw[List.getD_eq_getElem?_getD,List.getElem?_eq_getElem (by lia)];rfl
 have gj:a[j]? =some (a.getD j 0):=by rw[List.getD_eq_getElem?_getD,List.getElem?_eq_getElem (by lia)];rfl
 show BD (small (by lia)) (AM gi) ?_;show BD (small (by decide)) (AM (Ca (show 2*t<8 by lia))) ?_;show⟨small (show 2<=1000 by decide),λT9 hT9=>?_⟩;have t9:=AL hT9 (.tup [tx [63],tx [brs.getD (2*t) 0]]);have g9:(upd H1 T9 (.tup [tx [63],tx [brs.getD (2*t) 0]])) T9=_:=AJ;have s9:=s1.trans t9;generalize upd H1 T9 _=H2 at*
 refine E2 (.inr (SqT.of g9)) rfl rfl ?_;rw[Ja];ext;have hx:=Ci hk4 (a:=a) (i:=i) (b:=2*t) (by lia) (by lia);have hy:=Ci hk4 (a:=a) (i:=j) (b:=2*t+1) (by lia) (by lia);refine ifd (λh1=>?_) (λh1=>?_)
 rotate_left
 ·refine ifq rfl ?_;show⟨some (.int ((2*t:Nat):Int)),?_,s9⟩;rw[sm,hx,if_neg (show¬okc (a.getD i 0) (2*t)=true from λz=>h1 (of_decide_eq_true z)),Int.zero_mul,Int.add_zero]
  rfl
 show BD (small (by lia)) (AM gj) ?_;ext
 first|rw[e1]|skip
 refine BD (small (by decide)) (AM (Ca (show 2*t+1<8 by lia))) ?_;show⟨small (show 2<=1000 by decide),λT8 hT8=>?_⟩;have t8:=AL hT8 (.tup [tx [63],tx [brs.getD (2*t+1) 0]]);have g8:(upd H2 T8 (.tup [tx [63],tx [brs.getD (2*t+1) 0]])) T8=_:=AJ;have s8:=s9.trans t8;generalize upd H2 T8 _=H3 at*
 refine E2 (.inr (SqT.of g8)) rfl rfl ?_;rw[Ja];show ifd (λh2=>?_) (λh2=>?_)
 ·show⟨some (.int ((2*t:Nat):Int)),?_,s8⟩;rw[sm,hx,hy,if_pos (show okc _ _=true from decide_eq_true h1),if_pos (show okc _ _=true from decide_eq_true h2)]
  rfl
 ·show⟨some (.int ((2*t:Nat):Int)),?_,s8⟩;rw[sm,hy,if_neg (show¬okc (a.getD j 0) (2*t+1)=true from λz=>h2 (of_decide_eq_true z)),Int.mul_zero,Int.add_zero]
  rfl
theorem u9:FnScope ["kinds","row","many","sure","pairs","ends","filling","there","due","i","ones","places"] ["kinds","row","many"] (AK DA):=scM
theorem OV(F:Fun K "_law_sure_right" "_law_sure_right" DA f fd)(T:Txt K mg aK cs aC)(uk:FnUE P w K mg base k "sure_places" ["k","row"] (FF cs))(uC:FnUE P w K mg base k "sure_pairs" ["k","row"] (Gp cs))(yd:FnUE P w K mg base k "partners" ["k","row"] (Jy K cs))(uT:FnUE P w K mg base k "nth_filling" ["k","row","i"] (Im K cs))(yj:FnUE P w K mg base k "likeliest" ["k","row","weights"] (Lq))(yg:FnUE P w K mg base k "weight_sum" ["k","row","weights"] (K2))(y3:FnUE P w K mg base k "_law_together" ["kinds","row","i","j"] (Jv)):FnOk P w K mg base (CXE P w) (k+1) f fd ["kinds","row","many"] (K3):=by
 refine F.okE u9 (λvs H Q E h=>?_) (λcdv A outer s H vs Q E hr h=>?_)
 ·obtain⟨k,a,rfl,_⟩:=h;rfl
 obtain⟨kk,a,rfl,k1,k4,hro,hc,q⟩:=h;have hl:=Az hro;have hk4:kk.toNat<=4:=by lia
 have hu:=hr.units0;have hu2:=Mc hr;have hcc:=Di hk4 hl;refine Du ⟨_,(AD (AO (i:=3) u9.nd rfl (Or.inl rfl) (AZ uk hr Ao (AA (pv 0) (AA (pv 1) AB)))) (AD (AO (i:=4) u9.nd rfl (Or.inl rfl) (AZ uC hr Ao (AA (pv 0) (AA (pv 1) AB)))) (AD (AO (i:=5) u9.nd rfl (Or.inl rfl) (Am (AA (AZ uT hr Ao (AA (pv 0) (AA (pv 1) (AA AC AB)))) (AA (AZ uT hr Ao (AA (pv 0) (AA (pv 1) (AA (AG My (pv 2) AC) AB)))) AB)))) (AD (A2 PassesOwn.never rfl (Bv K (pv 5)) (AU (i:=6) u9.nd rfl (Or.inr rfl)) (AD (AO (i:=7) u9.nd rfl (Or.inr rfl) (AZ yd hr Ao (AA (pv 0) (AA (pv 6) AB)))) (AD (Ac (AW (Bq K hu) (Bb (own:=["place","bracket"]) (sel:=[6]) (A4 (osc:=(AK DA)) (N:=["kinds","row","many","sure","pairs","ends","filling","there","due","i","ones","places"]) (by decide +kernel)) rfl (Bv K (pv 3)) (λ_ _ _ _ _=>(By (n:=2) K rfl (Aj (AU (i:=0) (show(["place","bracket","filling"]:List Str).Nodup from by decide +kernel) rfl (Or.inl rfl)) (Aj (AU (i:=1) (show(["place","bracket","filling"]:List Str).Nodup from by decide +kernel) rfl (Or.inl rfl)) Bm)))) (Dv (Bn A1 (Cu A1 Br) (Ak (by decide)) (Bn A1 Br (Ak (by decide)) Dw))) (λ_ _ _ _ _=>Dk (AW (Bq K hu) (AH (AI K) (pv 2) (pv 0) (λ_ _=>rfl)) (pv 1) (AS _))) (λ_ _ _ _ _=>(pv 0))) (Am AB) (AS _)) (AF (AR Cg)) Ad) (AF (Ac (AW (Bq K hu) (Bb (own:=["pair"]) (sel:=[7]) (A4 (osc:=(AK DA)) (N:=["kinds","row","many","sure","pairs","ends","filling","there","due","i","ones","places"]) (by decide +kernel)) rfl (Bv K (pv 4)) (λ_ _ _ _ _=>(AU (i:=0) (show(["pair","there"]:List Str).Nodup from by decide +kernel) rfl (Or.inl rfl))) (Ak (by decide)) (λ_ _ _ _ _=>Dk (AW (Bq K hu) (AH (AI K) (pv 1) (AH (AI K) (pv 0) AC (λ_ _=>rfl)) (λ_ _=>rfl)) (AH (AI K) (pv 0) AC (λ_ _=>rfl)) (AS _))) (λ_ _ _ _ _=>(pv 0))) (Am AB) (AS _)) (AF (AR Cg)) Ad))))) (AD (AO (i:=7) u9.nd rfl (Or.inr rfl) (AZ yd hr Ao (AA (pv 0) (AA (AH (AI K) (pv 5) AC (λ_ _=>rfl)) AB)))) (AD (AO (i:=8) u9.nd rfl (Or.inl rfl) (Am AB)) (AD (A2 PassesOwn.never rfl (CH rfl T.n_range (AA (Ae (Ar K) rfl T.n_len PySem.boot_len (AA (pv 1) AB)) AB)) (AU (i:=9) u9.nd rfl (Or.inl rfl)) (AF (Ac (PW.pt (El (AW D5 (pv 9) (AH (AI K) (pv 7) (pv 9) (λ_ _=>rfl)) (AS _)) (EY (AW (A3 K hu) (AZ y3 hr Ao (AA (pv 0) (AA (pv 1) (AA (pv 9) (AA (AH (AI K) (pv 7) (pv 9) (λ_ _=>rfl)) AB))))) (pv 2) (AS _))))) (AF (Al (Bp K PySem.F.plainAttrs_list PySem.F.slot_list_append PySem.F.type_list_append CI (pv 8) (AA (BW (AA (pv 9) (AA (AH (AI K) (pv 7) (pv 9) (λ_ _=>rfl)) AB))) AB)))) Ad))) (AD (Ac (AW (LN hr) (pv 4) (pv 8) (AS _)) (AF (AR Cg)) Ad) (AD (AO (i:=10) u9.nd rfl (Or.inl rfl) (AG Ax (Am (AA AC AB)) (AG Ax AC (pv 0)))) (AD (Ac (PW.pt (Bf (AW (LN hr) (AZ yj hr Ao (AA (pv 0) (AA (pv 1) (AA (pv 10) AB)))) (BW (AA AC (AA (AH (AI K) (pv 5) AC (λ_ _=>rfl)) AB))) (AS _)) (Bo (AW (Bq K hu) (AZ yg hr Ao (AA (pv 0) (AA (pv 1) (AA (pv 10) AB)))) (pv 2) (AS _))))) (AF (AR Cg)) Ad) (AD (EK (i:=11) u9.nd rfl (Or.inl rfl) (own:=["place","bracket"]) (sel:=[]) (A4 (osc:=(AK DA)) (N:=["kinds","row","many","sure","pairs","ends","filling","there","due","i","ones","places"]) (by decide +kernel)) rfl (Bv K (pv 3)) (λ_ _ _ _ _=>(By (n:=2) K rfl (Aj (AU (i:=0) (show(["place","bracket"]:List Str).Nodup from by decide +kernel) rfl (Or.inl rfl)) (Aj (AU (i:=1) (show(["place","bracket"]:List Str).Nodup from by decide +kernel) rfl (Or.inl rfl)) Bm)))) (Dv (Bn A1 (Cu A1 Br) (Ak (by decide)) (Bn A1 Br (Ak (by decide)) Dw))) (λ_ _ _ _ _=>BQ) (λ_ _ _ _ _=>(pv 0))) (AF (AR (Er (BG (A3 K hu) (Bb (own:=["place"]) (sel:=[1]) (A4 (osc:=(AK DA)) (N:=["kinds","row","many","sure","pairs","ends","filling","there","due","i","ones","places"]) (by decide +kernel)) rfl (Bv K (pv 11)) (λ_ _ _ _ _=>(AU (i:=0) (show(["place","row"]:List Str).Nodup from by decide +kernel) rfl (Or.inl rfl))) (Ak (by decide)) (λ_ _ _ _ _=>Dk (AW (Bq K hu) (AH (AI K) (pv 1) (pv 0) (λ_ _=>rfl)) (Ap (l:=[63]) (by decide +kernel)) (AS _))) (λ_ _ _ _ _=>(pv 0))) (Am AB) (AS _)) (Eo (BG (A3 K hu) (pv 11) (Ru K T.n_set T.n_sorted hr rfl (pv 11)) (AS _))))))))))))))))),?_⟩;show⟨kk,a,⟨rfl,k1,k4,hro⟩, .inr ⟨hc,λS vS H1 hS s1 gS sl=>?_⟩⟩;show⟨kk,a,⟨rfl,k1,k4,hro⟩, .inr ⟨hc,λP0 vP H2 hP s2 gP pl=>?_⟩⟩;show LP k1 k4 hro (by lia) (by lia) (λbs H3 s3 nb lb=>?_);show LP k1 k4 hro (by lia) (by lia) (λcs' H4 s4 nc lc=>?_);show⟨small (show 2<=1000 by decide),λe0 he0=>?_⟩;have t5:=AL he0 (.lst [tx (brt bs),tx (brt cs')]);have g5:(upd H4 e0 (.lst [tx (brt bs),tx (brt cs')])) e0=_:=AJ;have gS5:=t5 _ _ (s4 _ _ (s3 _ _ (s2 _ _ gS)));have gP5:=t5 _ _ (s4 _ _ (s3 _ _ gP));have sl5:=sl.same (s2.trans (s3.trans (s4.trans t5)));have pl5:=pl.same (s3.trans (s4.trans t5));have u5:Same H (upd H4 e0 (.lst [tx (brt bs),tx (brt cs')])):=s1.trans (s2.trans (s3.trans (s4.trans t5)));have np:P0≠e0:=AT (s4 _ _ (s3 _ _ gP)) he0;generalize upd H4 e0 _=H5 at*
 clear s1 s2 s3 s4 t5 gS gP sl pl;have mb:=MD hk4 hl (by lia) (by lia) nb lb;have mc:=MD hk4 hl (by lia) (by lia) nc lc;have fb:=R6 hk4 hl nb lb;show⟨e0,rfl,⟨_,SqL.of g5⟩,?_⟩;have slS:∀ {G:Hp} {i:Nat} {x:V},Same H5 G->vS[i]? =some x->∃ (T:Addr) (j b:Nat),x= .ref T/\G T=some (.tup [.int (j:Int),tx [brs.getD b 0]])/\(j,b)∈Au kk.toNat a:=fun{G i x} sG hx=>by
  have hi:i<(Au kk.toNat a).length:=by rw[<-sl5.1];exact(List.getElem?_eq_some_iff.mp hx).1
  obtain⟨⟨j,b⟩,hy⟩:∃y,(Au kk.toNat a)[i]? =some y:=⟨_,List.getElem?_eq_getElem hi⟩;obtain⟨T,e,g⟩:=sl5.2 i _ hy;rw[hx]at e
  cases e
  exact⟨T,j,b,rfl,sG _ _ g,List.mem_of_getElem? hy⟩
 have plP:∀ {G:Hp} {i:Nat} {x:V},Same H5 G->vP[i]? =some x->∃ (T:Addr) (j e:Nat),x= .ref T/\G T=some (.tup [.int (j:Int), .int (e:Int)])/\(j,e)∈C0 kk.toNat a:=fun{G i x} sG hx=>by
  have hi:i<(C0 kk.toNat a).length:=by rw[<-pl5.1];exact(List.getElem?_eq_some_iff.mp hx).1
  obtain⟨⟨j,b⟩,hy⟩:∃y,(C0 kk.toNat a)[i]? =some y:=⟨_,List.getElem?_eq_getElem hi⟩;obtain⟨T,e,g⟩:=pl5.2 i _ hy;rw[hx]at e
  cases e
  exact⟨T,j,b,rfl,sG _ _ g,List.mem_of_getElem? hy⟩
 refine MN (xs:=[tx (brt bs),tx (brt cs')]) (λn σ H'=>∃ (o6 o7 o8 o9 o10 o11:Option V),σ=[some (.int kk),some (tx a),some (.int (W4 kk.toNat a)),some (.ref S),some (.ref P0),some (.ref e0),o6,o7,o8,o9,o10,o11]/\Same H5 H') ⟨_,_,_,_,_,_,rfl,Same.refl _⟩ (λn σ H' _ ⟨_,_,_,_,_,_,_,sH⟩=>SqL.of (sH _ _ g5)) ?_ ?_
 rotate_left
 ·rintro σ H6 ⟨o6,o7,o8,o9,o10,o11,rfl,s6⟩;show AN (SqL.of (s6 _ _ g5)) (show atI _ (0:Int)=some (tx (brt bs))from rfl) ?_;ext;obtain⟨hR,hrow,hbl⟩:=KD k1 k4 hl mb;refine⟨_,_,rfl, .inr ⟨kk,brt bs,rfl,rfl,k1,k4,hrow, .inl ⟨hR,λr xs H7 hr7 s7 g7 hp=>?_⟩⟩⟩;obtain⟨th,hth⟩:=LL hp;rw[hbl]at hth;have hthl:∀i,i<a.length->th i<a.length:=λi hi=>by
   rcases(hth i hi).2 with z|z
   ·have:=z.2.1;lia
   ·have:=z.1;lia
  have hdue:=RX hk4 mb λi hi=>(hth i hi).2;show⟨small (show 0<=1000 by decide),λdu hdu=>?_⟩;have t8:=AL hdu (.lst []);have g8:(upd H7 du (.lst [])) du=some (.lst []):=AJ;have ndu:∀ {x:Addr} {o:HO},H7 x=some o->x≠du:=λh=>AT h hdu;generalize upd H7 du _=H8 at*
  have s67:=s6.trans s7;show⟨_,rfl,by lia,by lia,?_⟩;rw[Int.toNat_natCast];refine Do (λn σ H'=>∃ (ds:List V) (o9 o10 o11:Option V),σ=[some (.int kk),some (tx a),some (.int (W4 kk.toNat a)),some (.ref S),some (.ref P0),some (.ref e0),o6,some (.ref r),some (.ref du),o9,o10,o11]/\Same H7 H'/\H' du=some (.lst ds)/\Prl H' ds ((List.range n).filterMap (duP kk.toNat a th))/\ds.length<=n) ⟨[],_,_,_,rfl,t8,g8,⟨rfl,λm x h=>by simp at h⟩,Nat.le_refl _⟩ ?_ ?_
  rotate_left
  ·rintro σ H9 ⟨ds,o9,o10,o11,rfl,s9,gdu,prl,_⟩;rw[<-hdue]at prl;have s59:=s67.trans s9;show Lw (p:=e0) (q:=e0) (Sd.lst (s59 _ _ gP5) np ((pl5.same s59).sds (s59 _ _ g5))) (Sd.lst gdu (ndu (s67 _ _ g5)).symm (prl.sds (s59 _ _ g5))) (TZ _) ?_;show ifq rfl ?_;show⟨small (show 1<=1000 by decide),λz hz=>?_⟩;ext;have e2:(2*kk).toNat=2*kk.toNat:=by lia
   refine DS (xs:=[.int 1]) AJ (by lia) (by lia) (small (by rw[List.length_singleton,e2];lia)) (λp hp=>?_);have ew:(List.replicate (2*kk).toNat [V.int 1]).flatten=(ones kk.toNat).map V.int:=by rw[e2,Hh]
   rw[ew];have t10:Same H9 (upd (upd H9 z (.lst [.int 1])) p (.lst ((ones kk.toNat).map V.int))):=(AL hz _).trans (AL hp _);have g10:(upd (upd H9 z (.lst [.int 1])) p (.lst ((ones kk.toNat).map V.int))) p=some (iL (ones kk.toNat)):=AJ;generalize upd (upd H9 z _) p _=H10 at*
   have s510:=s59.trans t10;have wok:WOk H10 kk (.ref p) (ones kk.toNat):=⟨p,rfl,g10,by rw[List.length_replicate];lia,IU _⟩;show⟨kk,a,ones kk.toNat,⟨.ref p,rfl,k1,k4,hro,wok⟩,λv o H11 s11 ft be=>?_⟩;have eo:=best_one hk4 mb fb be;subst eo;obtain⟨Tv,rfl,gTv⟩:=ft;have s511:=s510.trans s11;show AN (SqL.of (s511 _ _ g5)) (show atI _ (0:Int)=some (tx (brt bs))from rfl) ?_;show⟨small (show 2<=1000 by decide),λT2 hT2=>?_⟩;have t12:=AL hT2 (.tup [.int 1,tx (brt bs)]);have g12:(upd H11 T2 (.tup [.int 1,tx (brt bs)])) T2=_:=AJ;have gTv12:=t12 _ _ gTv;have s512:=s511.trans t12;have s1012:=s11.trans t12;generalize upd H11 T2 _=H12 at*
   have hb8:∀b∈bs,b<8:=λb hb=>by
    have:=Cz bs [] [] (mem_ress.mp mb).1 b hb;lia
   refine Lw (d:= .tuple [.int 1, .str ⟨(brt bs).toArray⟩]) (p:=e0) (q:=e0) (Sd.tup gTv12 (CF gTv12 (s512 _ _ g5) λz=>by cases z) (.cons (.sc (.int _)) (.cons (.sc (.str _)) .nil))) (Sd.tup g12 (CF g12 (s512 _ _ g5) λz=>by cases z) (.cons (.sc (.int _)) (.cons (.sc (.str _)) .nil))) (R0 hb8) ?_;show ifq rfl ?_;show⟨kk,a,ones kk.toNat,⟨.ref p,rfl,k1,k4,hro,wok.same s1012⟩,λH13 s13=>?_⟩;have ewsm:wsm kk.toNat (ones kk.toNat) a=W4 kk.toNat a:=rfl;rw[ewsm];show ifq (by simp) ?_;have s513:=s512.trans s13;show⟨S,rfl,⟨_,SqL.of (s513 _ _ gS5)⟩,?_⟩;have hsl:=K1 kk.toNat a;refine Li (xs:=vS) (by rw[sl5.1,sizeLine_eq];lia) (s513 _ _ gS5) (λj ys=>ys=(plS ((Au kk.toNat a).take j)).map V.int) rfl ?_ ?_
   rotate_left
   ·rintro m x ys H14 R hx hyl s14 e rr;have hm:m<(Au kk.toNat a).length:=by rw[<-sl5.1];exact(List.getElem?_eq_some_iff.mp hx).1
    obtain⟨⟨j,b⟩,hy⟩:∃y,(Au kk.toNat a)[m]? =some y:=⟨_,List.getElem?_eq_getElem hm⟩;obtain⟨T,e1,g⟩:=sl5.2 m _ hy;rw[hx]at e1
    cases e1
    show⟨T,_,rfl,SqT.of (s14 _ _ (s513 _ _ g)),rfl,?_⟩;show rr _ _ (Same.refl _) ?_;rw[e,List.take_add_one,hy];unfold plS;rw[List.map_append,List.map_append];rfl
   rintro pp ys H14 hpp gpp hyl s14 e;rw[sl5.1,List.take_length]at e;subst e;show⟨pp,rfl,⟨_,SqL.of gpp⟩,?_⟩;refine HQ gpp (λD H15 hD s15 gD=>?_) (λD i x H15 R hD hx s15 hR15=>?_)
   rotate_left
   ·rw[List.getElem?_map]at hx;obtain⟨y,hy,rfl⟩:=Option.map_eq_some_iff.mp hx;unfold plS at hy;rw[List.getElem?_map]at hy;obtain⟨⟨j,b⟩,hy2,rfl⟩:=Option.map_eq_some_iff.mp hy;obtain⟨hj,h63,_,_⟩:=FU (List.mem_of_getElem? hy2);have gj:a[j]? =some 63:=by rw[<-h63,List.getD_eq_getElem?_getD,List.getElem?_eq_getElem (by lia)];rfl
    show BD (small (by lia)) (AM gj) ?_;ext;rw[show(!decide ([63]=[63]))=false by simp];exact hR15 _ _ (Same.refl _)
   show⟨small (show 0<=1000 by decide),λl5 hl5=>?_⟩;have t16:=AL hl5 (.lst []);refine JT (SqL.of (t16 _ _ gD)) (SqL.of AJ) rfl rfl ?_;have gpp16:=t16 _ _ (s15 _ _ gpp);have s516:=s513.trans (s14.trans (s15.trans t16));generalize upd H15 l5 _=H16 at*
   refine⟨true,rfl,?_⟩;refine ifp rfl ?_;ext;have hpl:(plS (Au kk.toNat a)).length=(Au kk.toNat a).length:=by unfold plS;rw[List.length_map]
   refine⟨pp,plS (Au kk.toNat a),rfl,SqL.of gpp16,by lia,λx hx=>?_,λp2 ns hp2 hpw hmm hle=>?_⟩
   ·unfold plS at hx;obtain⟨⟨j,b⟩,hy,rfl⟩:=List.mem_map.mp hx;obtain⟨hj,_⟩:=FU hy;exact⟨by show(0:Int)<=(j:Int);lia,by show(j:Int)<63;lia⟩
   have ens:ns=plS (Au kk.toNat a):=Ma hpw (RV _ _) hmm;subst ens;have t17:=AL hp2 (.lst ((plS (Au kk.toNat a)).map V.int));refine JT (SqL.of (t17 _ _ gpp16)) (SqL.of AJ) (FQ _) (FQ _) ?_;rw[RE];exact q _ (u5.trans (s516.trans t17))
  rintro i σ H9 hi ⟨ds,o9,o10,o11,rfl,s9,gdu,prl,hdl⟩;have ei:(0:Int)+(i:Int)=(i:Int):=by lia
  rw[ei];obtain⟨hx,hpr⟩:=hth i hi;have hfm:(List.range (i+1)).filterMap (duP kk.toNat a th)=(List.range i).filterMap (duP kk.toNat a th)++(duP kk.toNat a th i).toList:=by
   rw[List.range_succ,List.filterMap_append]
   cases h:duP kk.toNat a th i<;>simp[h]
  have no:∀ {G:Hp} {o9:Option V},¬ (i<th i/\pr (P1 kk.toNat a) kk.toNat i (th i)*rst (P1 kk.toNat a) kk.toNat a.length i (th i)=W4 kk.toNat a)->Same H9 G->∃ (ds:List V) (p9 p10 p11:Option V),[some (V.int kk),some (tx a),some (.int (W4 kk.toNat a)),some (.ref S),some (.ref P0),some (.ref e0),o6,some (.ref r),some (.ref du),o9,o10,o11]=[some (V.int kk),some (tx a),some (.int (W4 kk.toNat a)),some (.ref S),some (.ref P0),some (.ref e0),o6,some (.ref r),some (.ref du),p9,p10,p11]/\Same H7 G/\G du=some (.lst ds)/\Prl G ds ((List.range (i+1)).filterMap (duP kk.toNat a th))/\ds.length<=i+1:=fun{G o9} hn sG=>by
   refine⟨ds,_,_,_,rfl,s9.trans sG,sG _ _ gdu,?_,by lia⟩;have e:duP kk.toNat a th i=none:=if_neg hn;rw[hfm,e,show(none:Option (Nat×Nat)).toList=[]from rfl,List.append_nil];exact prl.same sG
  show AN (SqL.of (s9 _ _ g7)) (AM hx) ?_;show ifd (λh1=>?_) (λh1=>?_)
  rotate_left
  ·refine ifq rfl ?_;ext;exact no (λz=>h1 (by lia)) (Same.refl _)
  have h1':i<th i:=by lia
  show AN (SqL.of (s9 _ _ g7)) (AM hx) ?_;show⟨kk,a,i,th i,rfl,k1,k4,hro,h1',hthl i hi,λH10 s10=>?_⟩;show ifd (λh2=>?_) (λh2=>?_)
  rotate_left
  ·ext;exact no (λz=>h2 z.2) s10
  have gdu10:=s10 _ _ gdu;have s710:=s9.trans s10;show⟨SqL.ty (SqL.of gdu10),?_⟩;show AN (SqL.of (s710 _ _ g7)) (AM hx) ?_;show⟨small (show 2<=1000 by decide),λT hT=>?_⟩;have t11:=AL hT (.tup [.int (i:Int), .int (th i:Int)]);have g11:(upd H10 T (.tup [.int (i:Int), .int (th i:Int)])) T=_:=AJ;have gdu11:=t11 _ _ gdu10;have s711:=s710.trans t11;have prl11:=prl.same (s10.trans t11);generalize upd H10 T _=H11 at*
  show⟨du,_,_,rfl,rfl,gdu11,DD (by lia),?_⟩;refine⟨ds++[.ref T],_,_,_,rfl,λx o z=>?_,AJ,?_,by rw[List.length_append,List.length_singleton];lia⟩
  ·rw[AE (ndu z)];exact s711 x o z
  ·have e:duP kk.toNat a th i=some (i,th i):=if_pos ⟨h1',h2⟩;rw[hfm,e];exact(prl11.lst gdu11).more (by rw[AE (CF g11 gdu11 (λz=>by cases z))];exact g11)
 rintro n x σ H6 hx ⟨o6,o7,o8,o9,o10,o11,rfl,s6⟩;obtain⟨l,hml,rfl⟩:∃l,l∈BM kk.toNat a/\x=tx (brt l):=by
  match n,hx with
  |0,hx=>cases hx;exact⟨bs,mb,rfl⟩
  |1,hx=>cases hx;exact⟨cs',mc,rfl⟩
  |n+2,hx=>simp at hx
 obtain⟨hR,hrow,hbl⟩:=KD k1 k4 hl hml;have hll:l.length=a.length:=by rw[<-hbl,Ed]
 show⟨_,_,rfl, .inr ⟨kk,brt l,rfl,rfl,k1,k4,hrow, .inl ⟨hR,λr xs H7 hr7 s7 g7 hp=>?_⟩⟩⟩;obtain⟨th,hth⟩:=LL hp;have s57:=s6.trans s7;show⟨S,rfl,⟨_,SqL.of (s57 _ _ gS5)⟩,?_⟩;refine HQ (s57 _ _ gS5) (λD H8 hD s8 gD=>?_) (λD i x H8 R hD hx s8 hR8=>?_)
 rotate_left
 ·obtain⟨T,j,b,rfl,gT,hm⟩:=slS (s57.trans s8) hx;obtain⟨hj,h63,hb,hat⟩:=FU hm;have:=Si hk4 hj hb hat hml;show⟨T,_,rfl,SqT.of gT,rfl,?_⟩;show BD (small (by lia)) (AM (Vw (l:=l) (i:=j) (by lia))) ?_;rw[this];ext;rw[show(!decide ([brs.getD b 0]=[brs.getD b 0]))=false by simp];exact hR8 _ _ (Same.refl _)
 show⟨small (show 0<=1000 by decide),λl3 hl3=>?_⟩;have t3:=AL hl3 (.lst []);refine JS (SqL.of (t3 _ _ gD)) (SqL.of AJ) rfl rfl ?_;have s38:=s57.trans (s8.trans t3);have g38:=t3 _ _ (s8 _ _ g7);generalize upd H8 l3 _=H9 at*
 show ifq rfl ?_;show⟨P0,rfl,⟨_,SqL.of (s38 _ _ gP5)⟩,?_⟩;refine HQ (s38 _ _ gP5) (λD2 H10 hD2 s10 gD2=>?_) (λD2 i x H10 R hD2 hx s10 hR10=>?_)
 rotate_left
 ·obtain⟨T,j,e,rfl,gT,hm⟩:=plP (s38.trans s10) hx;obtain⟨hj,he,hpp⟩:=RW hk4 hm;have hpr:=(hpp l hml).pr hk4;obtain⟨h1,h2⟩:=hth j (by lia);have:th j=e:=by
   rcases h2 with z|z
   ·exact Ms z hpr
   ·exact(Mr hpr z).elim
  rw[this]at h1;show BB (SqT.of gT) (show atI _ (0:Int)=some (.int (j:Int))from rfl) ?_;show AN (SqL.of (s10 _ _ g38)) (AM h1) ?_;show BB (SqT.of gT) (show atI _ (1:Int)=some (.int (e:Int))from rfl) ?_;ext;rw[show(!decide ((e:Int)=(e:Int)))=false by simp];exact hR10 _ _ (Same.refl _)
 show⟨small (show 0<=1000 by decide),λl4 hl4=>?_⟩;have t4:=AL hl4 (.lst []);refine JS (SqL.of (t4 _ _ gD2)) (SqL.of AJ) rfl rfl ?_;have s410:=s38.trans (s10.trans t4);generalize upd H10 l4 _=H11 at*
 show ifq rfl ?_;ext;exact⟨_,_,_,_,_,_,rfl,s410⟩
theorem uY:FnScope ["script","pool","kinds","row","many","sure","turn","i","alone"] ["script"] (AK DU):=scM
theorem VZ(F:Fun K "law" "law" DU f fd)(T:Txt K mg aK cs aC)(ye:FnU P w K mg base k "_law_pool" ["script","k"] (IH K))(ui:FnUE P w K mg base k "how_many" ["k","row"] (BP K cs Dr))(uk:FnUE P w K mg base k "sure_places" ["k","row"] (FF cs))(uH:FnUE P w K mg base k "_law_sure_right" ["kinds","row","many"] (K3))(ua:FnU P w K mg base k "_law_draw" ["pool","many"] (B8))(yt:FnU P w K mg base k "_law_row" ["pool","kinds","many"] (Il))(y4:FnUE P w K mg base k "can_be_right" ["k","row"] (BP K cs JQ))(ym:FnU P w K mg base k "_law_none" ["kinds","row"] (K4))(uP:FnUE P w K mg base k "_law_place_right" ["kinds","row","i","many"] (KS))(ux:FnUE P w K mg base k "brackets_at" ["k","row","i"] (Ip cs)):FnOk P w K mg base CX0 (k+1) f fd ["script"] (F8 K):=by
 refine F.ok uY (λvs H Q E h=>?_) (λcdv A outer s H vs Q E hr h=>?_)
 ·obtain⟨a,ns,rfl,_⟩:=h;rfl
 obtain⟨sa,ns,rfl,hS,h63,q⟩:=h;have hu:=hr.units0;refine⟨_,(AD (AO (i:=1) uY.nd rfl (Or.inl rfl) (AV ye hr (AA (pv 0) (AA AC AB)))) (AD (AO (i:=2) uY.nd rfl (Or.inl rfl) (AG AX AC (AV ua hr (AA (pv 1) (AA AC AB))))) (AD (AO (i:=3) uY.nd rfl (Or.inl rfl) (Bw (B1 K) (AV yt hr (AA (AV ye hr (AA (pv 0) (AA AC AB))) (AA (pv 2) (AA (AV ua hr (AA (pv 1) (AA AC AB))) AB)))) B5 (Bl AC))) (AD (AO (i:=4) uY.nd rfl (Or.inl rfl) (AZ ui hr Ao (AA (pv 2) (AA (pv 3) AB)))) (AD (Ac (AW (Bq K hu) (AZ y4 hr Ao (AA (pv 2) (AA (pv 3) AB))) (BG DT (pv 4) AC (AS _)) (AS _)) (AF (AR Cg)) Ad) (AD (Ac (AW (A3 K hu) (pv 4) AC (AS _)) (AF (AR (AV ym hr (AA (pv 2) (AA (pv 3) AB))))) Ad) (AD (Ac (AW (A3 K hu) (pv 3) (Ap (l:=[]) (by decide +kernel)) (AS _)) (AF (AR (AZ uH hr Ao (AA (pv 2) (AA (pv 3) (AA (pv 4) AB)))))) Ad) (AD (AO (i:=5) uY.nd rfl (Or.inl rfl) (AZ uk hr Ao (AA (pv 2) (AA (pv 3) AB)))) (AD (A2 PassesOwn.never rfl (CH rfl T.n_range (AA AC AB)) (AU (i:=6) uY.nd rfl (Or.inl rfl)) (AD (AO (i:=7) uY.nd rfl (Or.inl rfl) (AV ua hr (AA (pv 1) (AA (Ae (Ar K) rfl T.n_len PySem.boot_len (AA (pv 3) AB)) AB)))) (AD (Ac (Be (BU K (AZ uP hr Ao (AA (pv 2) (AA (pv 3) (AA (pv 7) (AA (pv 4) AB))))))) (AF (AR Cg)) Ad) (AD (AO (i:=8) uY.nd rfl (Or.inl rfl) (BG (A3 K hu) (Ae RJ rfl T.n_len PySem.boot_len (AA (AZ ux hr Ao (AA (pv 2) (AA (pv 3) (AA (pv 7) AB)))) AB)) AC (AS _))) (AF (Ac (PW.pt (El (AW (A3 K hu) (AH (AI K) (pv 3) (pv 7) (λ_ _=>rfl)) (Ap (l:=[63]) (by decide +kernel)) (AS _)) (EY (AW (Bq K hu) (pv 8) (BG (DN K) (pv 7) (Bb (own:=["place","bracket"]) (sel:=[]) (A4 (osc:=(AK DU)) (N:=["script","pool","kinds","row","many","sure","turn","i","alone"]) (by decide +kernel)) rfl (Bv K (pv 5)) (λ_ _ _ _ _=>(By (n:=2) K rfl (Aj (AU (i:=0) (show(["place","bracket"]:List Str).Nodup from by decide +kernel) rfl (Or.inl rfl)) (Aj (AU (i:=1) (show(["place","bracket"]:List Str).Nodup from by decide +kernel) rfl (Or.inl rfl)) Bm)))) (Dv (Bn A1 (Cu A1 Br) (Ak (by decide)) (Bn A1 Br (Ak (by decide)) Dw))) (λ_ _ _ _ _=>BQ) (λ_ _ _ _ _=>(pv 0))) (by with_unfolding_all rfl)) (AS _))))) (AF (AR Cg)) Ad)))))) (AF (AR (AZ uH hr Ao (AA (pv 2) (AA (pv 3) (AA (pv 4) AB))))))))))))))),?_⟩;show KW hS (by lia) (by lia) (λp H2 hp2 s2 d2=>?_);show Bj d2 (by decide) (by decide) (λr3 H3 r30 r31 d3 s3=>?_);have u3:Same H H3:=Same.but s2 s3 hp2;ext;obtain⟨kk,ekk⟩:∃kk:Int,kk=1+r3:=⟨_,rfl⟩;have k1:1<=kk:=by lia
 have k4:kk<=4:=by lia
 rw[<-ekk];clear ekk;have hk4:kk.toNat<=4:=by lia
 refine KW (u3.seq hS) (by lia) (by lia) (λp2 H4 hp4 s4 d4=>?_);have np:p2≠p:=d3.ne hp4;have d34:=d3.same s4;show Bj d34 (by decide) (by decide) (λr5 H5 r50 r51 d5 s5=>?_);have d45:=d4.keep s5 np;show Ri d45 k1 k4 r50 (by lia) (λa0 H6 hal hasg d6 s6=>?_);have d56:=d5.keep s6 (λz=>np z.symm);ext;rw[CL a0 (show(0:Int)<=40 by decide)];obtain⟨a,ea⟩:∃a,a=a0.take (40:Int).toNat:=⟨_,rfl⟩;have hro:Ab kk a=true:=by
  rw[ea];exact FX (by rw[List.length_take];exact Nat.min_le_left _ _) λc hc=>hasg c (List.mem_of_mem_take hc)
 rw[<-ea];clear ea hasg hal d2 d3 d34 d4 d45 d5 d6 s2 s3 s4 s5 s6 u3;have hl:=Az hro;have hcc:=Di hk4 hl;refine .inl (EW k1 k4 hro (λH7 s7=>?_));show .inl (UY k1 k4 hro (λH8 s8=>?_));show ifq (by simp) ?_;have d8:=(d56.same s7).same s8;show ifd (λhc=>?_) (λhc=>?_)
 ·ext;exact⟨kk,a,rfl,k1,k4,hro,hc,λH9 s9=>q _⟩
 ext
 by_cases ha:a=[]
 ·refine ifp (by rw[ha];rfl) ?_;ext;exact⟨kk,a,rfl,k1,k4,hro,hc,λH9 s9=>q _⟩
 refine ifq (decide_eq_false ha) ?_;have ha0:0<a.length:=List.length_pos_iff.mpr ha;show⟨kk,a,⟨rfl,k1,k4,hro⟩, .inr ⟨hc,λS vS H9 hS9 s9 gS sl=>?_⟩⟩;have d9:=d8.same s9;have nS:S≠p:=d8.ne hS9;have nT:∀ {m:Nat} {x:Nat×Nat},(Au kk.toNat a)[m]? =some x->∃T:Addr,vS[m]? =some (V.ref T)/\H9 T=some (.tup [.int x.1,tx [brs.getD x.2 0]])/\T≠p:=fun{m x} hx=>by
  obtain⟨T,e,g⟩:=sl.2 m x hx;obtain⟨x1,x2,x3,gp⟩:=d9;exact⟨T,e,g,CF g gp λz=>by cases z⟩
 show⟨_,rfl,by lia,by lia,?_⟩;refine Do (λn σ H'=>∃ (o6 o7 o8:Option V),σ=[some (.ref sa),some (.ref p),some (.int kk),some (tx a),some (.int (W4 kk.toNat a)),some (.ref S),o6,o7,o8]/\SameBut1 p H9 H'/\Po H' p) ⟨_,_,_,rfl,SameBut1.refl _ _,d9⟩ ?_ ?_
 rotate_left
 ·rintro σ H10 ⟨o6,o7,o8,rfl,s10,d10⟩;ext;exact⟨kk,a,rfl,k1,k4,hro,hc,λH11 s11=>q _⟩
 rintro t σ H10 ht ⟨o6,o7,o8,rfl,s10,d10⟩;show Bj d10 (by lia) (by lia) (λr H11 r0 r1 d11 s11=>?_);obtain⟨i,rfl⟩:∃i:Nat,r=(i:Int):=⟨r.toNat,by lia⟩;have hi:i<a.length:=by lia
 have s911:=s10.trans s11;show⟨kk,a,i,rfl,k1,k4,hro,hi,hc,λH12 s12=>?_⟩;show ifq rfl ?_;show⟨kk,a,i,rfl,k1,k4,hro,hi, .inr ⟨hc,λD H13 hD s13 gD=>?_⟩⟩;show⟨D,_,rfl, .inl gD,?_⟩;ext;have s913:SameBut1 p H9 H13:=λx o z n=>s13 _ _ (s12 _ _ (s911 x o z n));have gi:a[i]? =some (a.getD i 0):=by rw[List.getD_eq_getElem?_getD,List.getElem?_eq_getElem (by lia)];rfl
 refine BD (small (by lia)) (AM gi) ?_;ext;have d13:=(d11.same s12).same s13
 by_cases h6:a.getD i 0=63
 rotate_left
 ·refine ifq (by simpa using h6) ?_;show ifq rfl ?_;ext;exact⟨_,_,_,rfl,s913,d13⟩
 refine ifp (by rw[h6];rfl) ?_;show⟨S,rfl,⟨_,SqL.of (s913 _ _ gS nS)⟩,?_⟩;have hsl:=K1 kk.toNat a;refine Li (xs:=vS) (by rw[sl.1,sizeLine_eq];lia) (s913 _ _ gS nS) (λj ys=>ys=(plS ((Au kk.toNat a).take j)).map V.int) rfl ?_ ?_
 rotate_left
 ·rintro m x ys H14 R hx hyl s14 e rr;have hm:m<(Au kk.toNat a).length:=by rw[<-sl.1];exact(List.getElem?_eq_some_iff.mp hx).1
  obtain⟨⟨j,b⟩,hy⟩:∃y,(Au kk.toNat a)[m]? =some y:=⟨_,List.getElem?_eq_getElem hm⟩;obtain⟨T,e1,g,nTp⟩:=nT hy;rw[hx]at e1
  cases e1
  show⟨T,_,rfl,SqT.of (s14 _ _ (s913 _ _ g nTp)),rfl,?_⟩;show rr _ _ (Same.refl _) ?_;rw[e,List.take_add_one,hy];unfold plS;rw[List.map_append,List.map_append];rfl
 rintro pp ys H14 hpp gpp hyl s14 e;rw[sl.1,List.take_length]at e;subst e;show E2 (.inl (SqL.of gpp)) rfl (FQ _) ?_;rw[Ho,Sk hk4 hi hc h6];show ifq (by simp) ?_;ext;exact⟨_,_,_,rfl,λx o z n=>s14 _ _ (s913 x o z n),d13.same s14⟩
end
theorem Jn(h:∀a,P [a]):∀us,us.length=1->P us|[_],_=>h _
theorem N3(h:∀a b,P [a,b]):∀us,us.length=2->P us|[_,_],_=>h _ _
theorem N2(h:∀a b c,P [a,b,c]):∀us,us.length=3->P us|[_,_,_],_=>h _ _ _
theorem N1(h:∀a b c d,P [a,b,c,d]):∀us,us.length=4->P us|[_,_,_,_],_=>h _ _ _ _
theorem N0(h:∀a b c d e,P [a,b,c,d,e]):∀us,us.length=5->P us|[_,_,_,_,_],_=>h _ _ _ _ _
def FnAt(K:W.Frag)(x:Str)(st:Stmt):Prop:=∃f fd,W.nsIn K mainGlobals x=some (some (.ref f))/\Fun K x x st f fd
theorem FnAt.mk{K:W.Frag}{kV:Value}(a:W.nsIn K mainGlobals x=some (some (.ref f)))(l:K.lookup f=some ⟨oc,od, .func (W.fnOf x x (Bc st) (BH st) (AK st) .none kV doc pm an cdv ct),osl⟩)(c:W.codeIn K cdv x=true)(k:W.keepIn K (.ref f)=true):FnAt K x st:=⟨f,_,a,Dx l c k⟩
theorem FnAt.at{K:W.Frag}(p:FnAt K x st)(X:K.In h)(G:h.Ns mainGlobals mg)(hb:∀ (kV doc pm:Value) (an:Option Addr) (cdv ct:Value) (us:List Value),us.length=ps.length->bindArgs (W.fnOf x x (Bc st) (BH st) (AK st) .none kV doc pm an cdv ct) ⟨us,[]⟩=pure (ps.zip us)):∃f fd,DefAt K mg x st ps f fd:=let⟨f,fd,a,F⟩:=p;⟨f,fd,F,W.mg_of X G a,F.binds hb⟩
theorem FnAt.u{P:Program}{K:W.Frag}{k:Nat}(p:FnAt K x st)(X:K.In h)(G:h.Ns mainGlobals mg)(ok:∀ {f fd},Fun K x x st f fd->FnOk P w K mg base CX0 k f fd ps sp)(hb:∀ (kV doc pm:Value) (an:Option Addr) (cdv ct:Value) (us:List Value),us.length=ps.length->bindArgs (W.fnOf x x (Bc st) (BH st) (AK st) .none kV doc pm an cdv ct) ⟨us,[]⟩=pure (ps.zip us):=by first|exact λ_ _ _ _ _ _=>Jn λ_=>rfl|exact λ_ _ _ _ _ _=>N3 λ_ _=>rfl|exact λ_ _ _ _ _ _=>N2 λ_ _ _=>rfl|exact λ_ _ _ _ _ _=>N1 λ_ _ _ _=>rfl|exact λ_ _ _ _ _ _=>N0 λ_ _ _ _ _=>rfl):FnU P w K mg base k x ps sp:=let⟨_,_,D⟩:=p.at X G hb;D.fnU (ok D.F)
theorem FnAt.uE{P:Program}{K:W.Frag}{k:Nat}(p:FnAt K x st)(X:K.In h)(G:h.Ns mainGlobals mg)(ok:∀ {f fd},Fun K x x st f fd->FnOk P w K mg base (CXE P w) k f fd ps sp)(hb:∀ (kV doc pm:Value) (an:Option Addr) (cdv ct:Value) (us:List Value),us.length=ps.length->bindArgs (W.fnOf x x (Bc st) (BH st) (AK st) .none kV doc pm an cdv ct) ⟨us,[]⟩=pure (ps.zip us):=by first|exact λ_ _ _ _ _ _=>Jn λ_=>rfl|exact λ_ _ _ _ _ _=>N3 λ_ _=>rfl|exact λ_ _ _ _ _ _=>N2 λ_ _ _=>rfl|exact λ_ _ _ _ _ _=>N1 λ_ _ _ _=>rfl|exact λ_ _ _ _ _ _=>N0 λ_ _ _ _ _=>rfl):FnUE P w K mg base k x ps sp:=let⟨_,_,D⟩:=p.at X G hb;D.fnUE (ok D.F)
theorem all_mk{l:W.OpenLaw}{K:W.Frag}(X:K.In h)(G:h.Ns mainGlobals mg)(hfa:mg "law"=some (.ref fa)){f21 f22 f23 f24 f25:Addr}{od21 an21 od22 an22 od23 an23 od24 an24 od25 an25:Option Addr}{sl21 sl22 sl23 sl24 sl25:Array (Option Value)}{oc21 kV21 dc21 pm21 cd21 ct21 oc22 kV22 dc22 pm22 cd22 ct22 oc23 kV23 dc23 pm23 cd23 ct23 oc24 kV24 dc24 pm24 cd24 ct24 oc25 kV25 dc25 pm25 cd25 ct25:Value}{x_NoKinds:Addr}{x_NoLine:Addr}{x_NotRight:Addr}{x_NoNumber:Addr}{x_NoWeights:Addr}{x_NoPlace:Addr}{x_NoFilling:Addr}{x_OPENING:Str}{t_OPENING:Tok}{x_CLOSING:Str}{t_CLOSING:Tok}{oK:Obj}{nK:Nat}{x_BRACKETS:Str}{t_BRACKETS:Tok}{x_UNKNOWN:Str}{t_UNKNOWN:Tok}{x_MOST_SIGNS:Int}{t_MOST_SIGNS:Tok}
 (p0:FnAt K "is_whole" HB)
 (p1:FnAt K "check_kinds" Gj)
 (p2:FnAt K "is_line" FT)
 (p3:FnAt K "check_line" Gn)
 (p4:FnAt K "check_place" Gi)
 (p5:FnAt K "matched" HP)
 (p6:FnAt K "partners" Gz)
 (p7:FnAt K "weighed_places" EJ)
 (p8:FnAt K "counted_places" GZ)
 (p9:FnAt K "pair_sum" FL)
 (p10:FnAt K "no_sums" FR)
 (p11:FnAt K "span_sums" Gs)
 (p12:FnAt K "whole_sum" Gr)
 (p13:FnAt K "check_filling" Gb)
 (p14:FnAt K "pairs_with_rest" GW)
 (p15:FnAt K "bracket_sums" FC)
 (p16:FnAt K "filled" Hv)
 (p17:FnAt K "brackets_at" FE)
 (p18:FnAt K "sure_places" FD)
 (p19:FnAt K "sure_pairs" FH)
 (p20:FnAt K "opens" IZ)
 (a21:W.findIn K (.ref aC) "__init__"=some (some (.ref f21))) (n21:W.isFn K (.ref f21)=true) (l21:K.lookup f21=some ⟨oc21,od21, .func (W.fnOf "__init__" "Course.__init__" (Bc C9) (BH C9) (AK C9) .none kV21 dc21 pm21 an21 cd21 ct21),sl21⟩) (c21:W.codeIn K cd21 "Course.__init__"=true) (k21:W.keepIn K (.ref f21)=true)
 (a22:W.findIn K (.ref aC) "many_in_all"=some (some (.ref f22))) (n22:W.isFn K (.ref f22)=true) (l22:K.lookup f22=some ⟨oc22,od22, .func (W.fnOf "many_in_all" "Course.many_in_all" (Bc Da) (BH Da) (AK Da) .none kV22 dc22 pm22 an22 cd22 ct22),sl22⟩) (c22:W.codeIn K cd22 "Course.many_in_all"=true) (k22:W.keepIn K (.ref f22)=true)
 (a23:W.findIn K (.ref aC) "many_closing"=some (some (.ref f23))) (n23:W.isFn K (.ref f23)=true) (l23:K.lookup f23=some ⟨oc23,od23, .func (W.fnOf "many_closing" "Course.many_closing" (Bc C8) (BH C8) (AK C8) .none kV23 dc23 pm23 an23 cd23 ct23),sl23⟩) (c23:W.codeIn K cd23 "Course.many_closing"=true) (k23:W.keepIn K (.ref f23)=true)
 (a24:W.findIn K (.ref aC) "many_with"=some (some (.ref f24))) (n24:W.isFn K (.ref f24)=true) (l24:K.lookup f24=some ⟨oc24,od24, .func (W.fnOf "many_with" "Course.many_with" (Bc Dc) (BH Dc) (AK Dc) .none kV24 dc24 pm24 an24 cd24 ct24),sl24⟩) (c24:W.codeIn K cd24 "Course.many_with"=true) (k24:W.keepIn K (.ref f24)=true)
 (a25:W.findIn K (.ref aC) "take"=some (some (.ref f25))) (n25:W.isFn K (.ref f25)=true) (l25:K.lookup f25=some ⟨oc25,od25, .func (W.fnOf "take" "Course.take" (Bc DC) (BH DC) (AK DC) .none kV25 dc25 pm25 an25 cd25 ct25),sl25⟩) (c25:W.codeIn K cd25 "Course.take"=true) (k25:W.keepIn K (.ref f25)=true)
 (p26:FnAt K "nth_filling" Gh)
 (p27:FnAt K "how_many" HC)
 (p28:FnAt K "can_be_right" Gf)
 (p29:FnAt K "check_weights" FB)
 (p30:FnAt K "checked_places" Ga)
 (p31:FnAt K "weight_sum" Gm)
 (p32:FnAt K "likelier" G0)
 (p33:FnAt K "likeliest_pair" GY)
 (p34:FnAt K "round_about" Gg)
 (p35:FnAt K "one_behind_the_other" GV)
 (p36:FnAt K "likeliest_spans" E9)
 (p37:FnAt K "first_likeliest" FA)
 (p38:FnAt K "likeliest" Gu)
 (p39:FnAt K "check_bracket" Gc)
 (p40:FnAt K "reduced" HN)
 (p41:FnAt K "chance" Hw)
 (p42:FnAt K "_law_pool" G8)
 (p43:FnAt K "_law_draw" HA)
 (p44:FnAt K "_law_right" Gv)
 (p45:FnAt K "_law_row" FS)
 (p46:FnAt K "_law_none" G9)
 (p47:FnAt K "_law_place_right" GX)
 (p48:FnAt K "_law_together" Ge)
 (p49:FnAt K "_law_sure_right" DA)
 (p50:FnAt K "law" DU)
 (yc:W.nsIn K mainGlobals "Course"=some (some (.ref aC))) (pg:W.plainGet K aC Str.empty=true) (hdi:W.hasDictIn K aC=true) (po:W.plainOver K aC=true) (sat:W.findIn K (.ref aC) "__setattr__"=some (some (.builtin "object.__setattr__"))) (mks:W.makesIn K aC=true) (kpc:W.keepIn K (.ref aC)=true)
 (nf_at:W.findIn K (.ref aC) "at"=some none)
 (nf_closings:W.findIn K (.ref aC) "closings"=some none)
 (nf_places:W.findIn K (.ref aC) "places"=some none)
 (nf_rests:W.findIn K (.ref aC) "rests"=some none)
 (nf_sums:W.findIn K (.ref aC) "sums"=some none)
 (y_NoKinds:W.nsIn K mainGlobals "NoKinds"=some (some (.ref x_NoKinds))) (w_NoKinds:Cj K x_NoKinds=true)
 (y_NoLine:W.nsIn K mainGlobals "NoLine"=some (some (.ref x_NoLine))) (w_NoLine:Cj K x_NoLine=true)
 (y_NotRight:W.nsIn K mainGlobals "NotRight"=some (some (.ref x_NotRight))) (w_NotRight:Cj K x_NotRight=true)
 (y_NoNumber:W.nsIn K mainGlobals "NoNumber"=some (some (.ref x_NoNumber))) (w_NoNumber:Cj K x_NoNumber=true)
 (y_NoWeights:W.nsIn K mainGlobals "NoWeights"=some (some (.ref x_NoWeights))) (w_NoWeights:Cj K x_NoWeights=true)
 (y_NoPlace:W.nsIn K mainGlobals "NoPlace"=some (some (.ref x_NoPlace))) (w_NoPlace:Cj K x_NoPlace=true)
 (y_NoFilling:W.nsIn K mainGlobals "NoFilling"=some (some (.ref x_NoFilling))) (w_NoFilling:Cj K x_NoFilling=true)
 (mm_NoFilling:W.mroIn K x_NoFilling (.ref x_NoFilling)=some true)
 (z_all:W.nsIn K mainGlobals "all"=some none)
 (z_bool:W.nsIn K mainGlobals "bool"=some none)
 (z_enumerate:W.nsIn K mainGlobals "enumerate"=some none)
 (z_int:W.nsIn K mainGlobals "int"=some none)
 (z_isinstance:W.nsIn K mainGlobals "isinstance"=some none)
 (z_len:W.nsIn K mainGlobals "len"=some none)
 (z_list:W.nsIn K mainGlobals "list"=some none)
 (z_range:W.nsIn K mainGlobals "range"=some none)
 (z_set:W.nsIn K mainGlobals "set"=some none)
 (z_sorted:W.nsIn K mainGlobals "sorted"=some none)
 (z_str:W.nsIn K mainGlobals "str"=some none)
 (z_sum:W.nsIn K mainGlobals "sum"=some none)
 (z_zip:W.nsIn K mainGlobals "zip"=some none)
 (g_OPENING:W.nsIn K mainGlobals "OPENING"=some (some (.str x_OPENING t_OPENING))) (h_OPENING:x_OPENING=⟨([40,91,123,60]:List Nat).toArray⟩)
 (g_CLOSING:W.nsIn K mainGlobals "CLOSING"=some (some (.str x_CLOSING t_CLOSING))) (h_CLOSING:x_CLOSING=⟨([41,93,125,62]:List Nat).toArray⟩)
 (g_K:W.nsIn K mainGlobals "KINDS"=some (some (.ref aK))) (l_K:K.lookup aK=some oK) (c_K:oK.cls= .type "tuple") (s_K:oK.data= .seq itK nK) (r_K:JL itK [tx [40,41],tx [91,93],tx [123,125],tx [60,62]]=true)
 (g_BRACKETS:W.nsIn K mainGlobals "BRACKETS"=some (some (.str x_BRACKETS t_BRACKETS))) (h_BRACKETS:x_BRACKETS=⟨([40,41,91,93,123,125,60,62]:List Nat).toArray⟩)
 (g_UNKNOWN:W.nsIn K mainGlobals "UNKNOWN"=some (some (.str x_UNKNOWN t_UNKNOWN))) (h_UNKNOWN:x_UNKNOWN=⟨([63]:List Nat).toArray⟩)
 (g_MOST_SIGNS:W.nsIn K mainGlobals "MOST_SIGNS"=some (some (.int x_MOST_SIGNS t_MOST_SIGNS))) (h_MOST_SIGNS:x_MOST_SIGNS=40):
 ∃fd:FuncData,(∀ (s:Shared) (v:Value),BindsTo s fd ⟨[v],[]⟩ [("script",v)])/\∀base:Heap,K.In base->base.Ns mainGlobals mg->FnOk l.prog w K mg base CX0 8 fa fd ["script"] (F8 K):=by
 have T:Txt K mg aK ⟨0,x_NoKinds,x_NoLine,x_NotRight,0,x_NoNumber,x_NoWeights,x_NoPlace,x_NoFilling,0,0,0⟩ aC:=⟨W.mg_none_of X G z_all,W.mg_none_of X G z_bool,W.mg_none_of X G z_enumerate,W.mg_none_of X G z_int,W.mg_none_of X G z_isinstance,W.mg_none_of X G z_len,W.mg_none_of X G z_list,W.mg_none_of X G z_range,W.mg_none_of X G z_set,W.mg_none_of X G z_sorted,W.mg_none_of X G z_str,W.mg_none_of X G z_sum,W.mg_none_of X G z_zip,⟨_,W.mg_of X G g_OPENING,by rw[h_OPENING];exact⟨_,rfl⟩⟩,⟨_,W.mg_of X G g_CLOSING,by rw[h_CLOSING];exact⟨_,rfl⟩⟩,⟨_,W.mg_of X G g_K,rfl⟩,λH=> .inr ⟨oK,itK,nK,l_K,c_K,s_K,P3 r_K (by decide),J8 r_K⟩,⟨_,W.mg_of X G g_BRACKETS,by rw[h_BRACKETS];exact⟨_,rfl⟩⟩,⟨_,W.mg_of X G g_UNKNOWN,by rw[h_UNKNOWN];exact⟨_,rfl⟩⟩,⟨_,W.mg_of X G g_MOST_SIGNS,by rw[h_MOST_SIGNS];exact⟨_,rfl⟩⟩,W.mg_of X G y_NoKinds,DJ w_NoKinds,W.mg_of X G y_NoLine,DJ w_NoLine,W.mg_of X G y_NotRight,DJ w_NotRight,W.mg_of X G y_NoNumber,DJ w_NoNumber,W.mg_of X G y_NoWeights,DJ w_NoWeights,W.mg_of X G y_NoPlace,DJ w_NoPlace,W.mg_of X G y_NoFilling,DJ w_NoFilling,W.mg_of X G yc,⟨pg,hdi,po,sat⟩,nf_at,nf_closings,nf_places,nf_rests,nf_sums,mm_NoFilling⟩;have F21:=Dx (st:=C9) l21 c21 k21;have B21:Binds K _ ["self","k","row"] []:=F21.binds (ps:=["self","k","row"]) λ_ _ _ _ _ _ us hl=>match us,hl with|[_,_,_],_=>rfl
 have F22:=Dx (st:=Da) l22 c22 k22;have B22:Binds K _ ["self"] []:=F22.binds (ps:=["self"]) λ_ _ _ _ _ _ us hl=>match us,hl with|[_],_=>rfl
 have F23:=Dx (st:=C8) l23 c23 k23;have B23:Binds K _ ["self","start","closing"] []:=F23.binds (ps:=["self","start","closing"]) λ_ _ _ _ _ _ us hl=>match us,hl with|[_,_,_],_=>rfl
 have F24:=Dx (st:=Dc) l24 c24 k24;have B24:Binds K _ ["self","bracket"] []:=F24.binds (ps:=["self","bracket"]) λ_ _ _ _ _ _ us hl=>match us,hl with|[_,_],_=>rfl
 have F25:=Dx (st:=DC) l25 c25 k25;have B25:Binds K _ ["self","bracket"] []:=F25.binds (ps:=["self","bracket"]) λ_ _ _ _ _ _ us hl=>match us,hl with|[_,_],_=>rfl
 obtain⟨f50,e50,D50⟩:=p50.at (ps:=["script"]) X G λ_ _ _ _ _ _=>Jn λ_=>rfl;have e:=hfa.symm.trans D50.m
 cases e
 obtain⟨_,_,kV50,dc50,pm50,an50,cd50,ct50,_,rfl,_,_⟩:=D50.F.ex;refine⟨W.fnOf "law" "law" (Bc DU) (BH DU) (AK DU) .none kV50 dc50 pm50 an50 cd50 ct50,λs v=> .of_eq rfl,λbase _ _=>?_⟩;have uj:=p0.u X G λF=>Pj (k:=0) (P:=l.prog) (w:=w) (base:=base) F T;have y8:=p1.uE X G λF=>Oy (k:=1) F T (uj.mono (by decide));have yn:=p2.uE X G λF=>QG (k:=2) F T (y8.mono (by decide));have u4:=p3.uE X G λF=>O8 (k:=3) F T (yn.mono (by decide));have uw:=p4.uE X G λF=>Ox (k:=1) F T (uj.mono (by decide));have yo:=p5.u X G λF=>QE (k:=0) (P:=l.prog) (w:=w) (base:=base) F T;have yd:=p6.uE X G λF=>Pd (k:=4) F T (u4.mono (by decide)) (yo.mono (by decide));have uq:=p7.u X G λF=>OT (k:=0) (P:=l.prog) (w:=w) (base:=base) F T;have ud:=p8.u X G λF=>OW (k:=1) F T (uq.mono (by decide));have uu:=p9.u X G λF=>Pe (k:=0) (P:=l.prog) (w:=w) (base:=base) F T;have uV:=p10.u X G λF=>QD (k:=0) (P:=l.prog) (w:=w) (base:=base) F T;have ub:=p11.u X G λF=>PK (k:=1) F T (uV.mono (by decide)) (uu.mono (by decide));have u7:=p12.u X G λF=>PJ (k:=0) (P:=l.prog) (w:=w) (base:=base) F T;have ur:=p13.uE X G λF=>Oc (k:=1) F T (u7.mono (by decide));have uo:=p14.u X G λF=>OJ (k:=1) F T (uV.mono (by decide)) (uu.mono (by decide));have uh:=p15.u X G λF=>Oj (k:=2) F T (uo.mono (by decide));have uD:=p16.uE X G λF=>Qr (k:=2) F T (ud.mono (by decide)) (ub.mono (by decide)) (ur.mono (by decide));have ux:=p17.uE X G λF=>Oz (k:=4) F T (u4.mono (by decide)) (uw.mono (by decide)) (uD.mono (by decide)) (uh.mono (by decide));have uk:=p18.uE X G λF=>Ot (k:=4) F T (u4.mono (by decide)) (uD.mono (by decide)) (u7.mono (by decide)) (uh.mono (by decide));have uC:=p19.uE X G λF=>O7 (k:=4) F T (u4.mono (by decide)) (uD.mono (by decide)) (u7.mono (by decide)) (uo.mono (by decide)) (uu.mono (by decide));have yf:=p20.u X G λF=>R3 (k:=0) (P:=l.prog) (w:=w) (base:=base) F T;have uM:MkU l.prog w K mg base 4 aC ["self","k","row"] (IL aC):=⟨⟨3,_,_,Nat.le_refl _,OO (k:=2) F21 T (ud.mono (by decide)) (ub.mono (by decide)),⟨mks,a21,n21,kpc⟩,B21⟩⟩;have uF:MeU l.prog w K mg base 2 aC "many_in_all" ["self"] (Io aC):=⟨⟨_,_,OE (k:=1) F22 T (u7.mono (by decide)),⟨a22,n22,k22⟩,B22⟩⟩;have uf:MeU l.prog w K mg base 1 aC "many_closing" ["self","start","closing"] (FK aC):=⟨⟨_,_,OC (k:=0) F23 T,⟨a23,n23,k23⟩,B23⟩⟩;have uy:MeU l.prog w K mg base 2 aC "many_with" ["self","bracket"] (IJ aC):=⟨⟨_,_,OH (k:=1) F24 T (yf.mono (by decide)) (uf.mono (by decide)),⟨a24,n24,k24⟩,B24⟩⟩;have y9:MeU l.prog w K mg base 2 aC "take" ["self","bracket"] (IK aC):=⟨⟨_,_,O0 (k:=1) F25 T (yf.mono (by decide)) (uf.mono (by decide)),⟨a25,n25,k25⟩,B25⟩⟩;have uT:=p26.uE X G λF=>Ow (k:=4) F T (u4.mono (by decide)) (uM.mono (by decide)) (y9.mono (by decide)) (uj.mono (by decide)) (uy.mono (by decide)) (uF.mono (by decide));have ui:=p27.uE X G λF=>Pl (k:=4) F T (u4.mono (by decide)) (u7.mono (by decide)) (ub.mono (by decide)) (ud.mono (by decide));have y4:=p28.uE X G λF=>Oi (k:=5) F T (ui.mono (by decide));have uW:=p29.uE X G λF=>Ob (k:=1) F T (uj.mono (by decide));have ue:=p30.uE X G λF=>OX (k:=4) F T (u4.mono (by decide)) (uW.mono (by decide)) (uq.mono (by decide));have yg:=p31.uE X G λF=>O6 (k:=5) F T (u7.mono (by decide)) (ub.mono (by decide)) (ue.mono (by decide));have uL:=p32.u X G λF=>Pf (k:=0) (P:=l.prog) (w:=w) (base:=base) F T;have uU:=p33.u X G λF=>OU (k:=1) F T (uL.mono (by decide));have ya:=p34.u X G λF=>Ov (k:=0) (P:=l.prog) (w:=w) (base:=base) F T;have uz:=p35.u X G λF=>OB (k:=0) (P:=l.prog) (w:=w) (base:=base) F T;have uN:=p36.u X G λF=>OL (k:=2) F T (ya.mono (by decide)) (uU.mono (by decide)) (uz.mono (by decide)) (uL.mono (by decide));have uO:=p37.u X G λF=>ON (k:=3) F T (uN.mono (by decide));have yj:=p38.uE X G λF=>PL (k:=5) F T (uO.mono (by decide)) (ue.mono (by decide));have uX:=p39.uE X G λF=>Od (k:=0) (P:=l.prog) (w:=w) (base:=base) F T;have yr:=p40.u X G λF=>QC (k:=0) (P:=l.prog) (w:=w) (base:=base) F T;have yv:=p41.uE X G λF=>Qs (k:=5) F T (ue.mono (by decide)) (uw.mono (by decide)) (uX.mono (by decide)) (ub.mono (by decide)) (ur.mono (by decide)) (yr.mono (by decide)) (u7.mono (by decide)) (uh.mono (by decide));have ye:=p42.u X G λF=>Pg (k:=0) (P:=l.prog) (w:=w) (base:=base) F T;have ua:=p43.u X G λF=>Pi (k:=0) (P:=l.prog) (w:=w) (base:=base) F T;have yi:=p44.u X G λF=>PM (k:=1) F T (ua.mono (by decide));have yt:=p45.u X G λF=>QF (k:=2) F T (yi.mono (by decide)) (ua.mono (by decide));have ym:=p46.u X G λF=>Ph (k:=5) F T (uC.mono (by decide)) (uk.mono (by decide));have uP:=p47.uE X G λF=>OM (k:=6) F T (yv.mono (by decide)) (ui.mono (by decide)) (ux.mono (by decide));have y3:=p48.uE X G λF=>Oh (k:=5) F T (ui.mono (by decide));have uH:=p49.uE X G λF=>OV (k:=6) F T (uk.mono (by decide)) (uC.mono (by decide)) (yd.mono (by decide)) (uT.mono (by decide)) (yj.mono (by decide)) (yg.mono (by decide)) (y3.mono (by decide));exact VZ (k:=7) D50.F T (ye.mono (by decide)) (ui.mono (by decide)) (uk.mono (by decide)) (uH.mono (by decide)) (ua.mono (by decide)) (yt.mono (by decide)) (y4.mono (by decide)) (ym.mono (by decide)) (uP.mono (by decide)) (ux.mono (by decide))
theorem walk{l:W.OpenLaw}(hn:l.most=some 63)(hdf:d.params.defaults=[])
 (hY:∀ (w:World) (h:Heap),YP w h->(K w.params).In h)
 (F:∀ (w:World) (mg:Str->Option Value) (fa:Addr) (h:Heap),(K w.params).In h->h.Ns mainGlobals mg->mg d.name=some (.ref fa)->
   ∃fd:FuncData,(∀ (s:Shared) (u:Value),BindsTo s fd ⟨[u],[]⟩ [("script",u)])/\∀base:Heap,(K w.params).In base->base.Ns mainGlobals mg->FnOk l.prog w (K w.params) mg base CX0 8 fa fd ["script"] (F8 (K w.params))):
 W.WalkO q loose XP YP l.row.toRowW d [] (λf vs=>PySem.call f vs):=
 L2.walk_of (n:=63) (k:=8) (x:="script") (CX:=λ_=>CX0) (sp:=λw=>F8 (K w.params)) hn (by decide) hdf ⟨rfl,by decide,by decide,rfl⟩ hY F (λ_ _ a ns hl _ hS=>⟨a,ns,rfl,hS,hl,λ_=>rfl⟩) λ_ _ _ _ _ z=>z
end Bk
namespace PySem.W.Fast
def tw407370665863451834:=0
def tw11519385977849341715:=0
def tw16016777089644592810:=0
def tw16372459895866319022:=0
def tw14502291387335795205:=0
def tw8314704104657971032:=0
def tw17138698221151850809:=0
def tw14957653002120208134:=0
def tw16972783576894925033:=0
def tw5970797461996339005:=0
def tw14005976218835309420:=0
def tw15080655615500946689:=0
def tw15954064336992670658:=0
def tw3266124788450460618:=0
def tw6424696331938423756:=0
def tw10060463071298986785:=0
def tw5341712466044047759:=0
def tw344337066874820380:=0
def tw2360688031245925882:=0
def tw7668728151955551391:=0
def tw16683449615258091920:=0
def tw14529009828931651252:=0
def tw2565442001104389731:=0
def tw9425102355032806504:=0
def tw4430532546239125319:=0
def tw13536260947308258376:=0
def tw8940831056480757627:=0
def tw11552412986359230231:=0
def tw2050469372623032635:=0
def tw1895829927390825153:=0
def tw9252857640931514514:=0
def tw333333408770402568:=0
def tw7297558528794935987:=0
def tw17978533412376700804:=0
def tw1394580644214422526:=0
def tw9670393604583224012:=0
def tw7662787910558212550:=0
def tw10560094067319400524:=0
def tw13282988766593705189:=0
def tw6335817098294666193:=0
def tw2446018919784967110:=0
def tw16027294354770408945:=0
def tw17903567262535088583:=0
def tw7280869909235189378:=0
def tw11542143647773392440:=0
def tw8365689646621722551:=0
def tw15457642440828194004:=0
def tw7051763849240151168:=0
def tw11372750305956036815:=0
def tw3997934508741258914:=0
def tw1909750885509848343:=0
def tw9823324161684169982:=0
def tw17981052133430254515:=0
def tw4663549849637028181:=0
def tw3809904032515508089:=0
def tw11118933561804516830:=0
def tw11836553899335761567:=0
def tw18365326907476784684:=0
def tw16353962579038262558:=0
def tw15497327434387199365:=0
def tw530919532950537968:=0
def tw17123476414400800928:=0
def tw8647105743454718130:=0
def tw16868199133101072251:=0
def tw13310130429477137527:=0
def tw16596723568836749181:=0
def tw16049314261041709790:=0
def tw5887117150686268656:=0
def tw899729544727435170:=0
def tw11231381517203502593:=0
def tw17847632293835655826:=0
def tw5732736001887946546:=0
def tw16655866565718843560:=0
def tw12226752609391845765:=0
def tw17304795665500252015:=0
def tw6913290763999753038:=0
def tw13455838836796765740:=0
def tw9918431067955152822:=0
def tw16460536642357183160:=0
def tw9662015753577374556:=0
def tw16964089578567263416:=0
def tw4831489781569008905:=0
def tw18212396344870291416:=0
def tw2684576832357049027:=0
def tw3440732383862027030:=0
def tw9158954568296062737:=0
def tw4630358070576088608:=0
def tw7647413679526407957:=0
def tw8796682821927198267:=0
def tw10940795127705209092:=0
def tw17476447553513834447:=0
def tw5442538750972555845:=0
def tw13723287352291180501:=0
def tw10508791749539147111:=0
def tw16466185308997959725:=0
def tw6044434679297745306:=0
def tw9721317181418642597:=0
def tw16355591739169951557:=0
def tw1493107823326390783:=0
def tw3324026294228330381:=0
def tw6004716693034192215:=0
def tw3068894776753707873:=0
def tw13450304503401462357:=0
def tw15262515884224176571:=0
def tw6057523709776679531:=0
def tw6820086944060672692:=0
def tw3982663344777837805:=0
def tw4959444703351065858:=0
def tw14008041152521059396:=0
def tw6461893605039022561:=0
def tw126245319685374042:=0
def tw10559383793376032410:=0
def tw18076033169044607912:=0
def tw5258999060682010971:=0
def tw2707966494183434430:=0
def tw4404714112438075809:=0
def tw15859475103328171190:=0
def tw18221848716118744276:=0
def tw14399661846767612140:=0
def tw694708589801519981:=0
def tw5376671169988397267:=0
def tw10190614269669344056:=0
def tw2016444444982040615:=0
def tw9710662962571338396:=0
def tw7203597196064550086:=0
def tw13735165812515694512:=0
def tw1096246524127783097:=0
def tw11511916729412174631:=0
def tw12563730049148043324:=0
def tw10493422992936301127:=0
def tw2248881550627182953:=0
def tw2906886290082637662:=0
def tw3877102196015593867:=0
end PySem.W.Fast
end
open PySem PySem.W PyProof.Rows
set_option maxRecDepth 100000 in
set_option maxHeartbeats 0 in
theorem PySem.Challenge.cw_bracketrows_k30_whole_sure_in_long_rows_holds : PySem.Challenge.rw_bracketrows_k30_whole_sure_in_long_rows.Holds := by
  w_on; o_law; k_head; (case hw => w_witness2)
  k_fill
  refine Bk.walk (l := PySem.Challenge.rw_bracketrows_k30_whole_sure_in_long_rows) rfl rfl (fun w h Y => PySem.W.kIn_of Y) ?F
  case F =>
    intro w mg fa h KX G hmg
    refine' Bk.all_mk KX G hmg ?p0 ?p1 ?p2 ?p3 ?p4 ?p5 ?p6 ?p7 ?p8 ?p9 ?p10 ?p11 ?p12 ?p13 ?p14 ?p15 ?p16 ?p17 ?p18 ?p19 ?p20 ?a21 ?n21 ?l21 ?c21 ?k21 ?a22 ?n22 ?l22 ?c22 ?k22 ?a23 ?n23 ?l23 ?c23 ?k23 ?a24 ?n24 ?l24 ?c24 ?k24 ?a25 ?n25 ?l25 ?c25 ?k25 ?p26 ?p27 ?p28 ?p29 ?p30 ?p31 ?p32 ?p33 ?p34 ?p35 ?p36 ?p37 ?p38 ?p39 ?p40 ?p41 ?p42 ?p43 ?p44 ?p45 ?p46 ?p47 ?p48 ?p49 ?p50 ?yc ?pg ?hdi ?po ?sat ?mks ?kpc ?nf_at ?nf_closings ?nf_places ?nf_rests ?nf_sums ?y_NoKinds ?w_NoKinds ?y_NoLine ?w_NoLine ?y_NotRight ?w_NotRight ?y_NoNumber ?w_NoNumber ?y_NoWeights ?w_NoWeights ?y_NoPlace ?w_NoPlace ?y_NoFilling ?w_NoFilling ?mm_NoFilling ?z_all ?z_bool ?z_enumerate ?z_int ?z_isinstance ?z_len ?z_list ?z_range ?z_set ?z_sorted ?z_str ?z_sum ?z_zip ?g_OPENING ?h_OPENING ?g_CLOSING ?h_CLOSING ?g_K ?l_K ?c_K ?s_K ?r_K ?g_BRACKETS ?h_BRACKETS ?g_UNKNOWN ?h_UNKNOWN ?g_MOST_SIGNS ?h_MOST_SIGNS
    (case p0 | p1 | p2 | p3 | p4 | p5 | p6 | p7 | p8 | p9 | p10 | p11 | p12 | p13 | p14 | p15 | p16 | p17 | p18 | p19 | p20 | p26 | p27 | p28 | p29 | p30 | p31 | p32 | p33 | p34 | p35 | p36 | p37 | p38 | p39 | p40 | p41 | p42 | p43 | p44 | p45 | p46 | p47 | p48 | p49 | p50 => (apply Bk.FnAt.mk; k_is; k_is; k_is; k_is))
    (case yc | a21 | n21 | l21 | c21 | k21 | a22 | n22 | l22 | c22 | k22 | a23 | n23 | l23 | c23 | k23 | a24 | n24 | l24 | c24 | k24 | a25 | n25 | l25 | c25 | k25 | pg | hdi | po | sat | mks | kpc | nf_at | nf_closings | nf_places | nf_rests | nf_sums | y_NoKinds => k_is)
    (case w_NoKinds => kernel_rfl)
    (case y_NoLine => k_is)
    (case w_NoLine => kernel_rfl)
    (case y_NotRight => k_is)
    (case w_NotRight => kernel_rfl)
    (case y_NoNumber => k_is)
    (case w_NoNumber => kernel_rfl)
    (case y_NoWeights => k_is)
    (case w_NoWeights => kernel_rfl)
    (case y_NoPlace => k_is)
    (case w_NoPlace => kernel_rfl)
    (case y_NoFilling => k_is)
    (case w_NoFilling => kernel_rfl)
    (case mm_NoFilling => kernel_rfl)
    (case z_all | z_bool | z_enumerate | z_int | z_isinstance | z_len | z_list | z_range | z_set | z_sorted | z_str | z_sum | z_zip | g_OPENING => k_is)
    (case h_OPENING => first | rfl | decide +kernel)
    (case g_CLOSING => k_is)
    (case h_CLOSING => first | rfl | decide +kernel)
    (case g_K | l_K => k_is)
    (case c_K => rfl)
    (case s_K => rfl)
    (case r_K => decide +kernel)
    (case g_BRACKETS => k_is)
    (case h_BRACKETS => first | rfl | decide +kernel)
    (case g_UNKNOWN => k_is)
    (case h_UNKNOWN => first | rfl | decide +kernel)
    (case g_MOST_SIGNS => k_is)
    (case h_MOST_SIGNS => rfl)
