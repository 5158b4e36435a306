import PyProof.Rows.All
import Wide.All
import OpenK.AllK
import Wide.FinOn
import Lean
import PyProof.EqAt
import PyProof.EqKinds
import PyProof.TupleCall
import PyProof.ZipIter
import PyProof.Draws
import PyProof.EnumMake
import PyProof.ExcStrCall
import PyProof.ExcStrAll.ValueError
import PyProof.TupleOfStr
import PyProof.DictIter
import PyProof.DictWalks
import PyProof.Rows.SetFrom
import PyProof.CollectWalk
import PyProof.Rows.SortShell
import PyProof.Rows.SortWalk
import PyProof.ListRange
import KE.KEqDict
import KE.KDictSum
import KE.KIntText
import PyProof.Rows.StrFirst
import PyProof.Rows.FStr
import PyProof.FString
import PyProof.PureStr
import PyProof.FactsAll.str_6
import PyProof.ToksMono
import PyProof.FitsReplace
import PySem.Challenge.RW_bracketrows_k49_refused_in_order
set_option Elab.async false
set_option linter.all false
set_option maxRecDepth 100000
section
local macro_rules | `(tactic| lia) => `(tactic| first|lia (splits:=9)|omega)
set_option compiler.extract_closed false
namespace L2
open PySem PySem.Spec PyProof.Rows
abbrev Key:=Sum Int Str
def DL:Key->Value->Bool
 | .inl k,v=>Value.isInt k v
 | .inr x,v=>Value.isStrOf x v
def Vh(w:World):Key->Int
 | .inl k=>hashInt k
 | .inr x=>hashStr w x
theorem B3:∀ {k:Key} {v:Value},DL k v=true->(∃i t,k=Sum.inl i/\v=Value.int i t)\/(∃x t,k=Sum.inr x/\v=Value.str x t)
 | .inl i,v,h=>by
   obtain⟨t,e⟩:=Value.isInt_shape (k:=i) (v:=v) h;exact .inl ⟨i,t,rfl,e⟩
 | .inr x,v,h=>by
   obtain⟨t,e⟩:=Value.isStrOf_shape (x:=x) (v:=v) h;exact .inr ⟨x,t,rfl,e⟩
theorem On(i:Int)(t:Tok):DL (.inl i) (.int i t)=true:=by simp[DL,Value.isInt]
theorem FA(x:Str)(t:Tok):DL (.inr x) (.str x t)=true:=by simp[DL,Value.isStrOf]
theorem Tx(a b:Int):decide ((Sum.inl a:Key)=Sum.inl b)=(a==b):=by
 by_cases e:a=b
 ·subst e;simp
 ·have h:¬ (Sum.inl a:Key)=Sum.inl b:=λq=>e (Sum.inl.inj q);rw[decide_eq_false h];exact(beq_eq_false_iff_ne.mpr e).symm
theorem Tt(a b:Str):decide ((Sum.inr a:Key)=Sum.inr b)=decide (a=b):=by
 by_cases e:a=b
 ·subst e;simp
 ·have h:¬ (Sum.inr a:Key)=Sum.inr b:=λq=>e (Sum.inr.inj q);rw[decide_eq_false h,decide_eq_false e]
theorem Tw(a:Int)(b:Str):decide ((Sum.inl a:Key)=Sum.inr b)=false:=decide_eq_false (λq=>nomatch q)
theorem Tu(a:Str)(b:Int):decide ((Sum.inr a:Key)=Sum.inl b)=false:=decide_eq_false (λq=>nomatch q)
def Au(prog:Program)(w:World):PySem.KeyKind prog w Key where
 is:=DL
 hash:=Vh w
 inj:=λv a b ha hb=>by
  rcases B3 ha with⟨i,t,rfl,rfl⟩|⟨x,t,rfl,rfl⟩
  ·rcases B3 hb with⟨j,u,rfl,e⟩|⟨y,u,rfl,e⟩
   ·injection e with e1 _;rw[e1]
   ·exact nomatch e
  ·rcases B3 hb with⟨j,u,rfl,e⟩|⟨y,u,rfl,e⟩
   ·exact nomatch e
   ·injection e with e1 _;rw[e1]
 byValue:=λk v h=>by
  rcases B3 h with⟨i,t,rfl,rfl⟩|⟨x,t,rfl,rfl⟩<;>rfl
 pyHash:=λhv h=>by
  rcases B3 hv with⟨i,t,rfl,rfl⟩|⟨x,t,rfl,rfl⟩
  ·exact wpAny_pyHash_int h
  ·exact wpAny_pyHash_str h
 eqBool:=λhu hv h=>by
  rcases B3 hu with⟨i,t,rfl,rfl⟩|⟨x,t,rfl,rfl⟩
  ·rcases B3 hv with⟨j,u,rfl,rfl⟩|⟨y,u,rfl,rfl⟩
   ·rw[Tx]at h;exact wpAny_eqBool_int h
   ·rw[Tw]at h;exact SeqAt.EqAt.int_str i t y u _ _ _ _ h
  ·rcases B3 hv with⟨j,u,rfl,rfl⟩|⟨y,u,rfl,rfl⟩
   ·rw[Tu]at h;exact SeqAt.EqAt.str_int x t j u _ _ _ _ h
   ·rw[Tt]at h;exact wpAny_eqBool_str h
 «strs»:=λk x t v h=>by
  rcases B3 h with⟨i,u,rfl,e⟩|⟨y,u,rfl,e⟩
  ·exact nomatch e
  ·injection e with e1 _
   subst e1
   cases v<;>rfl
theorem NO(prog:Program)(w:World)(i:Int)(t:Tok):(Au prog w).is (.inl i) (.int i t)=true:=On i t
theorem NN(prog:Program)(w:World)(x:Str)(t:Tok):(Au prog w).is (.inr x) (.str x t)=true:=FA x t
inductive V where
 |non|bl (b:Bool)|int (i:Int)|str (x:Str)|byt (b:Array UInt8)|flt (b:UInt64)|ref (a:Addr)|ty (n:String)
 deriving DecidableEq
def RelV:V->Value->Prop
 | .non,u=>u=Value.none
 | .bl b,u=>u=Value.bool b
 | .int i,u=>∃t,u=Value.int i t
 | .str x,u=>∃t,u=Value.str x t
 | .byt b,u=>∃t,u=Value.bytes b t
 | .flt b,u=>∃t,u=Value.float b t
 | .ref a,u=>u=Value.ref a
 | .ty n,u=>u=Value.type n
abbrev Vals:List V->List Value->Prop:=Paired RelV
theorem Vals.length{xs:List V}{us:List Value}(r:Vals xs us):xs.length=us.length:=Paired.length r
theorem Vals.get:∀ {xs:List V} {us:List Value} {i:Nat} {x:V},Vals xs us->xs[i]? =some x->∃u,us[i]? =some u/\RelV x u
 |_,_,_,_, .nil,e=>by simp at e
 |_,_,0,_, .cons r _,e=>by simp at e;subst e;exact⟨_,rfl,r⟩
 |_,_,i+1,x, .cons _ t,e=>by
  obtain⟨u,h1,h2⟩:=Vals.get (i:=i) (x:=x) t (by simpa using e);exact⟨u,by simpa using h1,h2⟩
theorem Vals.set{x:V}{u:Value}(r:RelV x u):∀ {xs:List V} {us:List Value} (i:Nat),Vals xs us->Vals (xs.set i x) (us.set i u)
 |_,_,_, .nil=> .nil
 |_,_,0, .cons _ t=> .cons r t
 |_,_,i+1, .cons q t=> .cons q (Vals.set r i t)
theorem Vals.append:∀ {xs ys:List V} {us ws:List Value},Vals xs us->Vals ys ws->Vals (xs++ys) (us++ws)
 |_,_,_,_, .nil,s=>s
 |_,_,_,_, .cons r t,s=> .cons r (Vals.append t s)
theorem Vals.take:∀ {xs:List V} {us:List Value} (n:Nat),Vals xs us->Vals (xs.take n) (us.take n)
 |_,_,0,_=> .nil
 |_,_,_+1, .nil=> .nil
 |_,_,n+1, .cons r t=> .cons r (Vals.take n t)
theorem Vals.drop:∀ {xs:List V} {us:List Value} (n:Nat),Vals xs us->Vals (xs.drop n) (us.drop n)
 |_,_,0,r=>r
 |_,_,_+1, .nil=> .nil
 |_,_,n+1, .cons _ t=>Vals.drop n t
def RelO:Option V->Option Value->Prop
 |some v,some u=>RelV v u
 |none,none=>True
 |_,_=>False
def KV{κ:Type}:List (κ×V)->List (κ×Value)->Prop:=Paired fun(p:κ×V) (q:κ×Value)=>p.1=q.1/\RelV p.2 q.2
def kV:Key->V
 | .inl i=> .int i
 | .inr x=> .str x
inductive HO where
 |lst (xs:List V)
 |tup (xs:List V)
 |dK (kvs:List (Key×V))|dT (kvs:List (List Key×V))
 |set (S:Int->Bool) (n:Nat)
 |ins (C dx:Addr) (fs:List (Str×V))
 |own (x:Addr)
 |xd (fs:List (Str×V))
 |met (f x:Addr)
 |rng (lo hi:Int)
 |frz (o:Obj) (u:HO)
 |tbl (ps:Array Value)
 |ext (φ:Heap->Prop)
abbrev Hp:=Addr->Option HO
def upd(H:Hp)(a:Addr)(o:HO):Hp:=λb=>if b=a then some o else H b
theorem AF{H:Hp}{a:Addr}{o:HO}:upd H a o a=some o:=by unfold upd;rw[if_pos rfl]
theorem AG{H:Hp}{a b:Addr}{o:HO}(h:b≠a):upd H a o b=H b:=by unfold upd;rw[if_neg h]
theorem VB{H:Hp}{a b:Addr}{o u:HO}(h:H a=some o)(h':H b=some u)(d:o≠u):a≠b:=by
 intro e;subst e;rw[h]at h';exact d (Option.some.inj h')
theorem AQ{H:Hp}{a b:Addr}{o:HO}(h:H a=some o)(h':H b=none):a≠b:=by
 intro e;subst e;rw[h]at h';cases h'
section
variable(P:Program)(w:World)
def ObjOk(H:Hp)(h:Heap)(a:Addr):HO->Prop
 | .lst xs=>xs.length<=sizeLine/\∃ (its:List Value) (n:Nat),Vals xs its/\h.get? a=some {cls:= .type "list",data:= .seq its.toArray n}
 | .tup xs=>xs.length<=sizeLine/\∃its:List Value,Vals xs its/\IsTup h a its.toArray
 | .dK kvs=>kvs.length<=sizeLine/\(a==sysModules)=false/\∃vs,KV kvs vs/\h.DictOf (Au P w) a vs
 | .dT kvs=>kvs.length<=sizeLine/\(a==sysModules)=false/\∃xs:List (List Key×Addr×Value),
     Paired (fun(p:List Key×V) (q:List Key×Addr×Value)=>p.1=q.1/\H q.2.1=some (.tup (p.1.map kV))/\RelV p.2 q.2.2) kvs xs/\
     ∃o es ep,h.get? a=some o/\o.ExactDict/\o.data= .dict es ep/\es.toList=xs.map (entryOfKey (tupleKind (Au P w)))/\(xs.map (·.1)).Nodup
 | .set S n=>h.SetOf (intKind P w) a S n
 | .ins C dx fs=>H dx=some (.own a)/\fs.length<=1000/\dx≠a/\h.get? a=some (W.instObj C dx)/\
     ∃mA,h.Ns1 dx mA/\(∀f,RelO (fs.lookup f) (mA f))/\PySem.Within mA (fs.map (·.1))
 | .own _=>∃o,h.get? a=some o
 | .xd fs=>∃mA,h.Ns1 a mA/\∀f,RelO (fs.lookup f) (mA f)
 | .rng lo hi=>∃t u v,h.get? a=some {cls:= .type "range",data:= .fields #[.int lo t, .int hi u, .int 1 v]}
 | .frz o u=>h.get? a=some o/\ObjOk H h a u
 | .tbl ps=>h.get? a=some {cls:= .none,data:= .fields ps}
 | .met f x=>h.get? a=some (W.methodObj (.ref f) (.ref x))
 | .ext φ=>φ h/\(∃o,h.get? a=some o)/\∀h1 h2:Heap,φ h1->(∀o,h1.get? a=some o->h2.get? a=some o)->φ h2
structure HOk (H:Hp) (h:Heap):Prop where
 all:∀a o,H a=some o->ObjOk P w H h a o
 sm:∀o,H sysModules=some o->∃ob u,o= .frz ob u
 bg:∃b o,1<b/\h.get? b=some o
instance (H:Hp) (h:Heap):CoeFun (HOk P w H h) λ_=>∀a o,H a=some o->ObjOk P w H h a o:=⟨HOk.all⟩
end
section
variable{P:Program}{w:World}{H H':Hp}{h h':Heap}{a:Addr}{o:HO}
theorem ObjOk.lt(x:ObjOk P w H h a o):a<h.objs.size:=by
 cases o with
 |lst xs=>obtain⟨_,_,_,_,e⟩:=x;exact Heap.lt_size e
 |tup xs=>obtain⟨_,_,_,p⟩:=x;exact p.lt
 |dK kvs=>obtain⟨_,_,_,_,o,_,_,e,_⟩:=x;exact Heap.lt_size e
 |dT kvs=>obtain⟨_,_,_,_,o,_,_,e,_⟩:=x;exact Heap.lt_size e
 |set S n=>obtain⟨o,_,_,_,e,_⟩:=x;exact Heap.lt_size e
 |ins C dx fs=>obtain⟨_,_,_,e,_⟩:=x;exact Heap.lt_size e
 |own y=>obtain⟨_,e⟩:=x;exact Heap.lt_size e
 |xd fs=>obtain⟨_,⟨_,_,_,e,_⟩,_⟩:=x;exact Heap.lt_size e
 |rng lo hi=>obtain⟨_,_,_,e⟩:=x;exact Heap.lt_size e
 |frz ob u=>obtain⟨e,_⟩:=x;exact Heap.lt_size e
 |tbl ps=>exact Heap.lt_size (show h.get? a=some _ from x)
 |met f y=>exact Heap.lt_size (show h.get? a=some _ from x)
 |ext φ=>obtain⟨_,⟨_,e⟩,_⟩:=x;exact Heap.lt_size e
theorem Paired.mapP{α β:Type}{F G:α->β->Prop}:∀ {l₁:List α} {l₂:List β},Paired F l₁ l₂->(∀a b,F a b->G a b)->Paired G l₁ l₂
 |_,_, .nil,_=> .nil
 |_,_, .cons r t,f=> .cons (f _ _ r) (Paired.mapP t f)
theorem ObjOk.stay(x:ObjOk P w H h a o)(k:∀b u,(b=a\/H b=some (.own a))->h.get? b=some u->h'.get? b=some u)
 (ho:∀b,H b=some (.own a)->H' b=some (.own a)) (ht:∀b xs,H b=some (.tup xs)->H' b=some (.tup xs)):ObjOk P w H' h' a o:=by
 induction o with
 |lst xs=>obtain⟨z,its,n,r,e⟩:=x;exact⟨z,its,n,r,k _ _ (.inl rfl) e⟩
 |tup xs=>obtain⟨z,its,r,ob,e,c⟩:=x;exact⟨z,its,r,ob,k _ _ (.inl rfl) e,c⟩
 |dK kvs=>obtain⟨z,y,vs,r,ob,es,ep,e,c⟩:=x;exact⟨z,y,vs,r,ob,es,ep,k _ _ (.inl rfl) e,c⟩
 |dT kvs=>
  obtain⟨z,y,xs,r,ob,es,ep,e,c⟩:=x;exact⟨z,y,xs,Paired.mapP r λp q z=>⟨z.1,ht _ _ z.2.1,z.2.2⟩,ob,es,ep,k _ _ (.inl rfl) e,c⟩
 |set S n=>obtain⟨ob,es,ep,t,e,c⟩:=x;exact⟨ob,es,ep,t,k _ _ (.inl rfl) e,c⟩
 |ins C dx fs=>
  obtain⟨d,z,ne,e,mA,⟨od,es,ep,e2,c⟩,r⟩:=x;exact⟨ho _ d,z,ne,k _ _ (.inl rfl) e,mA,⟨od,es,ep,k _ _ (.inr d) e2,c⟩,r⟩
 |own y=>obtain⟨ob,e⟩:=x;exact⟨ob,k _ _ (.inl rfl) e⟩
 |xd fs=>obtain⟨mA,⟨od,es,ep,e,c⟩,r⟩:=x;exact⟨mA,⟨od,es,ep,k _ _ (.inl rfl) e,c⟩,r⟩
 |rng lo hi=>obtain⟨t,u,v,e⟩:=x;exact⟨t,u,v,k _ _ (.inl rfl) e⟩
 |frz ob u ih=>obtain⟨e,q⟩:=x;exact⟨k _ _ (.inl rfl) e,ih q⟩
 |tbl ps=>
  have e:h.get? a=some {cls:= .none,data:= .fields ps}:=x;show h'.get? a=some {cls:= .none,data:= .fields ps};exact k a _ (.inl rfl) e
 |met f y=>
  have e:h.get? a=some (W.methodObj (.ref f) (.ref y)):=x;show h'.get? a=some (W.methodObj (.ref f) (.ref y));exact k a _ (.inl rfl) e
 |ext φ=>obtain⟨p,⟨o,e⟩,st⟩:=x;exact⟨st _ _ p λo q=>k _ _ (.inl rfl) q,⟨o,k _ _ (.inl rfl) e⟩,st⟩
theorem HOk.lt(x:HOk P w H h)(e:H a=some o):a<h.objs.size:=(x a o e).lt
theorem HOk.fresh(x:HOk P w H h)(e:h.objs.size<=a):H a=none:=by
 cases q:H a with
 |none=>rfl
 |some u=>exact absurd (Nat.lt_of_lt_of_le (x.lt q) e) (Nat.lt_irrefl _)
theorem HOk.kept(x:HOk P w H h)(k:∀b u,h.get? b=some u->h'.get? b=some u):HOk P w H h':=⟨λa o e=>
 (x a o e).stay (λb u _ q=>k b u q) (λ_ q=>q) λ_ _ q=>q,x.sm,let⟨b,o,l,e⟩:=x.bg;⟨b,o,l,k _ _ e⟩⟩
theorem HOk.laid(x:HOk P w H h)(k:∀b u,h.get? b=some u->h'.get? b=some u)(hp:h.objs.size<=a)(new:ObjOk P w (upd H a o) h' a o):HOk P w (upd H a o) h':=by
 refine⟨λb u e=>?_,λu e=>?_,let⟨b,o,l,e⟩:=x.bg;⟨b,o,l,k _ _ e⟩⟩
 rotate_left
 ·by_cases hb:sysModules=a
  ·obtain⟨b,o,l,q⟩:=x.bg;exact absurd (Nat.lt_trans l (show b<sysModules from by rw[hb];exact Nat.lt_of_lt_of_le (Heap.lt_size q) hp)) (Nat.lt_irrefl 1)
  ·rw[AG hb]at e;exact x.sm u e
 have hn:=x.fresh hp
 by_cases hb:b=a
 ·subst hb;rw[AF]at e;cases e;exact new
 ·rw[AG hb]at e;exact(x b u e).stay (λc v _ q=>k c v q) (λc q=>by rw[AG (AQ q hn)];exact q) λc xs q=>by rw[AG (AQ q hn)];exact q
end
def Rd(H:Hp)(a:Addr)(u:HO):Prop:=H a=some u\/∃o,H a=some (.frz o u)
theorem Rd.ok{P:Program}{w:World}{H:Hp}{h:Heap}{a:Addr}{u:HO}(r:Rd H a u)(x:HOk P w H h):ObjOk P w H h a u:=by
 rcases r with r|⟨o,r⟩
 ·exact x a u r
 ·obtain⟨_,q⟩:=x a _ r;exact q
def Mut:Option HO->Prop
 |some (.lst _)=>True
 |some (.dK _)=>True
 |some (.dT _)=>True
 |some (.set _ _)=>True
 |some (.ins _ _ _)=>True
 |some (.ext _)=>True
 |_=>False
section
variable{P:Program}{w:World}{H:Hp}{h h':Heap}{x e:Addr}{o':HO}
theorem HOk.write(ok:HOk P w H h)(mu:Mut (H x))(he:e=x\/H e=some (.own x))(k:∀b u,b≠e->h.get? b=some u->h'.get? b=some u)(heo:∃u,h'.get? e=some u)
 (new:ObjOk P w (upd H x o') h' x o'):HOk P w (upd H x o') h':=by
 refine⟨λb u q=>?_,λu q=>?_,?_⟩
 rotate_left
 ·by_cases hb:sysModules=x
  ·exfalso;subst hb
   cases z:H sysModules with
   |none=>rw[z]at mu;exact mu
   |some o=>
    obtain⟨ob,v,rfl⟩:=ok.sm o z;rw[z]at mu;exact mu
  ·rw[AG hb]at q;exact ok.sm u q
 ·obtain⟨b,o,l,z⟩:=ok.bg
  by_cases hb:b=e
  ·obtain⟨v,hv⟩:=heo;exact⟨e,v,hb▸l,hv⟩
  ·exact⟨b,o,l,k b o hb z⟩
 have nown:∀c y,H c=some (.own y)->c≠x:=λc y r z=>by subst z;rw[r]at mu;exact mu
 have ntup:∀c xs,H c=some (.tup xs)->c≠x:=λc xs r z=>by subst z;rw[r]at mu;exact mu
 by_cases hb:b=x
 ·subst hb;rw[AF]at q;cases q;exact new
 ·rw[AG hb]at q
  by_cases hbe:b=e
  ·have q':H b=some (.own x):=by
    rcases he with z|z
    ·exact absurd (hbe.trans z) hb
    ·rw[hbe];exact z
   rw[q]at q';cases q';obtain⟨v,hv⟩:=heo;exact⟨v,by rw[hbe];exact hv⟩
  ·refine(ok b u q).stay (λc v hc r=>k c v ?_ r) (λc r=>by rw[AG (nown c b r)];exact r) λc xs r=>by rw[AG (ntup c xs r)];exact r
   rcases hc with rfl|hc
   ·exact hbe
   ·rintro rfl;rcases he with z|z
    ·exact nown c b hc z
    ·rw[hc]at z;cases z;exact hb rfl
end
structure Un (fs ex:List Addr) (H H':Hp) (h h':Heap):Prop where
 keep:∀b o,h.get? b=some o->H b=none->b∉fs->b∉ex->h'.get? b=some o
 slot:∀b o,h.get? b=some o->H b=none->b∈fs->b∉ex->∃sl,h'.get? b=some {o with slots:=sl}
 free:∀b o,h.get? b=some o->H b=none->b∉ex->H' b=none
 there:∀b o,h.get? b=some o->b∉ex->∃o',h'.get? b=some o'
 tups:∀b xs,H b=some (.tup xs)->H' b=some (.tup xs)
 frzs:∀b o u,H b=some (.frz o u)->H' b=some (.frz o u)
 tbls:∀b ps,H b=some (.tbl ps)->∃more,H' b=some (.tbl (ps++more))
section
variable{fs fs' ex ex':List Addr}{H H1 H2:Hp}{h h1 h2 h':Heap}{a x e:Addr}{o:HO}
theorem Un.any(u:Un fs ex H H1 h h1){b:Addr}{ob:Obj}(q:h.get? b=some ob)(n:H b=none)(hx:b∉ex):∃sl,h1.get? b=some {ob with slots:=sl}:=by
 by_cases hb:b∈fs
 ·exact u.slot b ob q n hb hx
 ·exact⟨ob.slots,u.keep b ob q n hb hx⟩
theorem Un.kept(k:∀b u,h.get? b=some u->h'.get? b=some u):Un fs ex H H h h':=
 ⟨λb ob q _ _ _=>k b ob q,λb ob q _ _ _=>⟨ob.slots,k b ob q⟩,λ_ _ _ n _=>n,λb ob q _=>⟨ob,k b ob q⟩,λ_ _ q=>q,λ_ _ _ q=>q,λ_ ps q=>⟨#[],by rw[q];simp⟩⟩
theorem Un.refl:Un fs ex H H h h:=Un.kept λ_ _ q=>q
theorem Un.laid(k:∀b u,h.get? b=some u->h'.get? b=some u)(hp:h.objs.size<=a)(hn:H a=none):Un fs ex H (upd H a o) h h' where
 keep:=λb u q _ _ _=>k b u q
 slot:=λb u q _ _ _=>⟨u.slots,k b u q⟩
 free:=λb u q n _=>by rw[AG (Nat.ne_of_lt (Nat.lt_of_lt_of_le (Heap.lt_size q) hp))];exact n
 there:=λb u q _=>⟨u,k b u q⟩
 tups:=λb xs q=>by rw[AG (AQ q hn)];exact q
 frzs:=λb u xs q=>by rw[AG (AQ q hn)];exact q
 tbls:=λb ps q=>⟨#[],by rw[AG (AQ q hn),q];simp⟩
theorem Un.write(mu:Mut (H x))(he:e=x\/H e=some (.own x))(k:∀b u,b≠e->h.get? b=some u->h'.get? b=some u)(heo:∃u,h'.get? e=some u):Un fs ex H (upd H x o) h h':=by
 have hx:∀b,H b=none->b≠x:=λb n z=>by subst z;rw[n]at mu;exact mu
 have hb:∀b,H b=none->b≠e:=λb n z=>by
  subst z;rcases he with r|r
  ·exact hx b n r
  ·rw[n]at r;cases r
 have hm:∀b u,H b=some u->¬Mut (some u)->b≠x:=λb u q nm z=>by subst z;rw[q]at mu;exact nm mu
 refine⟨λb u q n _ _=>k b u (hb b n) q,λb u q n _ _=>⟨u.slots,k b u (hb b n) q⟩,λb u q n _=>by rw[AG (hx b n)];exact n,λb u q _=>?_,
  λb xs q=>by rw[AG (hm b _ q λz=>z)];exact q,λb u xs q=>by rw[AG (hm b _ q λz=>z)];exact q,λb ps q=>⟨#[],by rw[AG (hm b _ q λz=>z),q];simp⟩⟩
 by_cases hbe:b=e
 ·subst hbe;exact heo
 ·exact⟨u,k b u hbe q⟩
end
def trk(h:Heap)(H:Hp):List Addr:=(List.range h.objs.size).filter λa=>(H a).isSome
def CO(h:Heap)(H:Hp):Heap:=W.hideAll h (trk h H)
theorem Ov(h:Heap)(H:Hp):(CO h H).objs.size=h.objs.size:=W.hideAll_size _ _
theorem QI{h:Heap}{H:Hp}{b:Addr}{o:Obj}(e:h.get? b=some o)(n:H b=none):(CO h H).get? b=some o:=
 W.hideAll_get _ e λhm=>by
  have q:(H b).isSome=true:=(List.mem_filter.mp hm).2;rw[n]at q;simp at q
theorem Rc{h:Heap}{H:Hp}{b:Addr}{o:Obj}(e:(CO h H).get? b=some o):h.get? b=some o/\H b=none:=by
 have e':h.get? b=some o:=W.of_hideAll (trk h H) e;refine⟨e',?_⟩
 cases q:H b with
 |none=>rfl
 |some x=>
  have hm:b∈trk h H:=List.mem_filter.mpr ⟨List.mem_range.mpr (Heap.lt_size e'),by simp[q]⟩;have z:(CO h H).get? b=none:=W.hideAll_none (trk h H) hm;rw[z]at e;cases e
structure Mod (K:W.Frag) (mg:Str->Option Value) (base:Heap):Prop where
 kin:K.In base
 glob:base.Ns mainGlobals mg
 blt:∃mb,base.Ns builtinsNs mb/\∀x:Str,x≠"__name__"->mb x=bootBuiltins x
 nolimit:base.NoLimit
structure Cx where
 prog:Program
 w:World
 K:W.Frag
 mg:Str->Option Value
 base:Heap
 A:Around
 N:List Str
 s₀:Shared
 H₀:Hp
 env:Env
 outer:List Env
 stack:List Env
 ex:List Addr
 fn:Str->Bool
 calm:Bool
 pn:List (Addr×Obj)
 xe:Value->Shared->Prop
def frs(l:List Env):List Addr:=l.filterMap (·.frame)
abbrev Cx.fs(X:Cx):List Addr:=frs X.outer
def Vis(sc:Scope)(x:Str):Prop:=sc.names.lookup x=some .local\/sc.names.lookup x=some .cell\/sc.names.lookup x=some .free
def Loc(sc:Scope)(x:Str):Prop:=sc.names.lookup x=some .local\/sc.names.lookup x=some .cell
def Look(env:Env)(h:Heap)(m:Str->Option Value)(x:Str)(u:Value):Prop:=
 (env.kindOf x=some .local/\m x=some u)\/((env.kindOf x=some .cell\/env.kindOf x=some .free)/\∃c,env.cells.lookup x=some c/\h.IsCell c (some u))
structure Cx.Ok (X:Cx):Prop where
 mod:Mod X.K X.mg X.base
 kind:X.env.scope.kind= .function
 glob:X.env.globals=mainGlobals
 blt:X.env.builtins=builtinsNs
 above:X.s₀.heap.objs.size<=X.env.locals
 inj:∀x y c,X.env.cells.lookup x=some c->X.env.cells.lookup y=some c->x=y
 has:∀x,(X.env.kindOf x=some .cell\/X.env.kindOf x=some .free)->∃c,X.env.cells.lookup x=some c
 cab:∀x c,X.fn x=true->X.env.cells.lookup x=some c->X.s₀.heap.objs.size<=c
 hd:X.calm=true->X.A.handled=none
 frames:X.A.frames=some X.stack
 stk:X.stack=X.outer\/(X.stack=X.env::X.outer/\X.env.frame=some X.env.locals)
 exf:∀b∈X.ex,b≠X.env.locals/\∀x c,X.env.cells.lookup x=some c->c≠b
 bs:∀b o,X.base.get? b=some o->X.s₀.heap.get? b=some o/\X.H₀ b=none
 bsz:X.base.objs.size<=X.s₀.heap.objs.size
 noex:∀b o,X.base.get? b=some o->b∉X.ex
 exfs:∀b∈X.ex,b∉X.fs
 funs:X.s₀.heap.FunFrames X.base X.outer
 frf:∀b∈X.fs,X.H₀ b=none
structure Inv (X:Cx) (pins:List (Addr×Obj)) (σ:List (Option V)) (H:Hp) (s:Shared):Prop where
 ok:X.Ok
 os:s.os=X.s₀.os
 bare:AllBare s.gens
 base:Un X.fs X.ex X.H₀ H X.s₀.heap s.heap
 loc:∃m,s.heap.Ns X.env.locals m/\∀ (i:Nat) (x:Str) (v:V),X.N[i]? =some x->σ[i]? =some (some v)->Vis X.env.scope x->∃u,RelV v u/\Look X.env s.heap m x u
 cell:∀x c,X.env.cells.lookup x=some c->∃v,s.heap.IsCell c v
 free:H X.env.locals=none
 freeC:∀x c,X.env.cells.lookup x=some c->H c=none
 pin:∀p∈X.pn++pins,s.heap.get? p.1=some p.2/\H p.1=none/\p.1≠X.env.locals/\p.1∉X.fs/\∀v,p.2.data≠ .cell v
 hok:HOk X.prog X.w H s.heap
 len:σ.length=X.N.length
section
variable{X:Cx}{pins:List (Addr×Obj)}{σ:List (Option V)}{H H':Hp}{s:Shared}{h':Heap}
theorem Cx.Ok.nofr(ok:X.Ok){b:Addr}{o:Obj}(e:X.base.get? b=some o):b∉X.fs:=λhb=>by
 have:=(ok.funs.mem hb).1;rw[e]at this;cases this
theorem Inv.bs(I:Inv X pins σ H s):∀b o,X.base.get? b=some o->s.heap.get? b=some o/\H b=none:=λb o e=>
 ⟨I.base.keep b o (I.ok.bs b o e).1 (I.ok.bs b o e).2 (I.ok.nofr e) (I.ok.noex b o e),I.base.free b o (I.ok.bs b o e).1 (I.ok.bs b o e).2 (I.ok.noex b o e)⟩
theorem Inv.bk(I:Inv X pins σ H s):∀b o,X.base.get? b=some o->s.heap.get? b=some o:=λb o e=>(I.bs b o e).1
theorem Inv.mod(I:Inv X pins σ H s):Mod X.K X.mg X.base:=I.ok.mod
theorem Inv.kIn(I:Inv X pins σ H s):X.K.In s.heap:=I.ok.mod.kin.keeps I.bk
theorem Inv.lt(I:Inv X pins σ H s):X.env.locals<s.heap.objs.size:=let⟨_,hn,_⟩:=I.loc;hn.lt
theorem Inv.sz(I:Inv X pins σ H s):X.s₀.heap.objs.size<=s.heap.objs.size:=Nat.le_trans I.ok.above (Nat.le_of_lt I.lt)
theorem Inv.nofs(I:Inv X pins σ H s){a:Addr}(h:s.heap.objs.size<=a):a∉X.fs:=λhb=>by
 obtain⟨_,o,ho,_⟩:=I.ok.funs.mem hb;exact absurd (Nat.lt_of_lt_of_le (Heap.lt_size ho) (Nat.le_trans I.sz h)) (Nat.lt_irrefl _)
theorem Inv.cne(I:Inv X pins σ H s):∀x c,X.env.cells.lookup x=some c->c≠X.env.locals:=λx c e z=>by
 obtain⟨v,o,ho,hd⟩:=I.cell x c e;obtain⟨m,⟨o',es,ep,ho',hd',_⟩,_⟩:=I.loc;rw[z,ho']at ho;cases ho;rw[hd']at hd;cases hd
theorem Inv.funs(I:Inv X pins σ H s):s.heap.FunFrames X.base X.outer:=by
 have all:∀ (l:List Env),(∀b∈frs l,b∈X.fs)->X.s₀.heap.FunFrames X.base l->s.heap.FunFrames X.base l:=by
  intro l
  induction l with
  |nil=>intro _ _;trivial
  |cons env r ih=>
   intro hs hl;obtain⟨hk,⟨L,o,hf,hn,ho,hd⟩,hr⟩:=hl;have hL:L∈X.fs:=hs L (by unfold frs;rw[List.filterMap_cons,hf];exact List.mem_cons_self);obtain⟨sl,e⟩:=I.base.slot L o ho (I.ok.frf L hL) hL λz=>I.ok.exfs L z hL;exact⟨hk,⟨L,_,hf,hn,e,hd⟩,ih (λb hb=>hs b (by unfold frs;rw[List.filterMap_cons,hf];exact List.mem_cons_of_mem _ hb)) hr⟩
 exact all X.outer (λ_ hb=>hb) I.ok.funs
theorem Inv.stack(I:Inv X pins σ H s):s.heap.FunFrames X.base X.stack:=by
 rcases I.ok.stk with e|⟨e,hf⟩
 ·rw[e];exact I.funs
 ·rw[e];obtain⟨m,hn,_⟩:=I.loc;refine .cons (by rw[I.ok.kind];decide) hf hn ?_ I.funs;exact Heap.get?_none_of_le (Nat.le_trans I.ok.bsz I.ok.above)
theorem Inv.stkSub(I:Inv X pins σ H s):∀b∈frs X.stack,b∈X.env.locals::X.fs:=λb hb=>by
 rcases I.ok.stk with e|⟨e,hf⟩
 ·rw[e]at hb;exact List.mem_cons_of_mem _ hb
 ·rw[e]at hb;unfold frs at hb;rw[List.filterMap_cons,hf]at hb;exact hb
theorem Inv.stkFree(I:Inv X pins σ H s):∀b∈frs X.stack,H b=none:=λb hb=>by
 rcases List.mem_cons.mp (I.stkSub b hb)with e|hb
 ·rw[e];exact I.free
 ·obtain⟨_,o,ho,_⟩:=I.ok.funs.mem hb;exact I.base.free b o ho (I.ok.frf b hb) λz=>I.ok.exfs b z hb
theorem Inv.step{g':Array GenState}{t':Nat}{d':Drawn}{ch:List Addr}(I:Inv X pins σ H s)
 (hch:∀b∈ch,(b∈X.ex\/X.s₀.heap.objs.size<=b)/\b≠X.env.locals/\(∀x c,X.env.cells.lookup x=some c->c≠b)/\∀p∈X.pn++pins,p.1≠b)
 (keep:∀b o,b≠X.env.locals->b∉X.fs->b∉ch->s.heap.get? b=some o->H b=none->h'.get? b=some o)
 (slot:∀b o,b≠X.env.locals->b∈X.fs->b∉ch->s.heap.get? b=some o->H b=none->∃sl,h'.get? b=some {o with slots:=sl}) (free:∀b o,b∉ch->s.heap.get? b=some o->H b=none->H' b=none)
 (there:∀b o,b∉ch->s.heap.get? b=some o->∃o',h'.get? b=some o')
 (tups:∀b xs,H b=some (.tup xs)->H' b=some (.tup xs)) (frzs:∀b o u,H b=some (.frz o u)->H' b=some (.frz o u)) (tbls:∀b ps,H b=some (.tbl ps)->∃more,H' b=some (.tbl (ps++more)))
 (ns:∀m,s.heap.Ns X.env.locals m->h'.Ns X.env.locals m) (hok:HOk X.prog X.w H' h') (hg:AllBare g'):
 Inv X pins σ H' {s with heap:=h',gens:=g',drawn:=d',toks:=t'}:=by
 have neL:∀b o,X.s₀.heap.get? b=some o->b≠X.env.locals:=λb o e=>Nat.ne_of_lt (Nat.lt_of_lt_of_le (Heap.lt_size e) I.ok.above);have neC:∀b o,X.s₀.heap.get? b=some o->b∉X.ex->b∉ch:=λb o e hx hb=>by
  rcases(hch b hb).1 with z|z
  ·exact hx z
  ·exact absurd (Nat.lt_of_lt_of_le (Heap.lt_size e) z) (Nat.lt_irrefl _)
 have cellK:∀x c,X.env.cells.lookup x=some c->∀v,s.heap.IsCell c v->h'.IsCell c v:=λx c e v ⟨o,ho,hd⟩=>by
  have nch:c∉ch:=λz=>(hch c z).2.2.1 x c e rfl
  by_cases hc:c∈X.fs
  ·obtain⟨sl,q⟩:=slot c o (I.cne x c e) hc nch ho (I.freeC x c e);exact⟨_,q,hd⟩
  ·exact⟨o,keep c o (I.cne x c e) hc nch ho (I.freeC x c e),hd⟩
 refine⟨I.ok,I.os,hg,⟨λb o e n hb hx=>?_,λb o e n hb hx=>?_,λb o e n hx=>?_,λb o e hx=>?_,λb xs e=>tups b xs (I.base.tups b xs e),λb o xs e=>frzs b o xs (I.base.frzs b o xs e),λb ps e=>?_⟩,?_,λx c e=>?_,?_,λx c e=>?_,λp hp=>?_,hok,I.len⟩
 ·exact keep b o (neL b o e) hb (neC b o e hx) (I.base.keep b o e n hb hx) (I.base.free b o e n hx)
 ·obtain⟨sl,e1⟩:=I.base.slot b o e n hb hx;obtain⟨sl',e2⟩:=slot b _ (neL b o e) hb (neC b o e hx) e1 (I.base.free b o e n hx);exact⟨sl',e2⟩
 ·obtain⟨o',e1⟩:=I.base.there b o e hx;exact free b o' (neC b o e hx) e1 (I.base.free b o e n hx)
 ·obtain⟨o',e1⟩:=I.base.there b o e hx;exact there b o' (neC b o e hx) e1
 ·obtain⟨m1,e1⟩:=I.base.tbls b ps e;obtain⟨m2,e2⟩:=tbls b _ e1;exact⟨m1++m2,by rw[e2,Array.append_assoc]⟩
 ·obtain⟨m,hn,hl⟩:=I.loc;refine⟨m,ns m hn,λi x v e1 e2 e3=>?_⟩;obtain⟨u,r,l⟩:=hl i x v e1 e2 e3;refine⟨u,r,?_⟩;rcases l with l|⟨k,c,e,z⟩
  ·exact .inl l
  ·exact .inr ⟨k,c,e,cellK x c e _ z⟩
 ·obtain⟨v,z⟩:=I.cell x c e;exact⟨v,cellK x c e v z⟩
 ·obtain⟨m,⟨o,_,_,ho,_⟩,_⟩:=I.loc;exact free _ o (λz=>(hch _ z).2.1 rfl) ho I.free
 ·obtain⟨v,o,ho,hd⟩:=I.cell x c e;exact free c o (λz=>(hch c z).2.2.1 x c e rfl) ho (I.freeC x c e)
 ·obtain⟨e,n,ne,nf,d⟩:=I.pin p hp;have nch:p.1∉ch:=λz=>(hch p.1 z).2.2.2 p hp rfl;exact⟨keep p.1 p.2 ne nf nch e n,free p.1 p.2 nch e n,ne,nf,d⟩
theorem Inv.un{t':Nat}(I:Inv X pins σ H s)(u:Un X.fs [] H H' s.heap h')(hok:HOk X.prog X.w H' h'):Inv X pins σ H' {s with heap:=h',toks:=t'}:=by
 obtain⟨m,⟨o,es,ep,ho,r⟩,_⟩:=id I.loc;obtain⟨sl,hL⟩:=u.any ho I.free (by simp);exact I.step (g':=s.gens) (d':=s.drawn) (ch:=[]) (λ_ z=>nomatch z) (λb o _ hb _ e n=>u.keep b o e n hb (by simp)) (λb o _ hb _ e n=>u.slot b o e n hb (by simp)) (λb o _ e n=>u.free b o e n (by simp)) (λb o _ e=>u.there b o e (by simp)) u.tups u.frzs u.tbls (λm' hm=>by
  obtain⟨o',es',ep',ho',r'⟩:=hm;rw[ho]at ho';cases ho';exact⟨_,es',ep',hL,r'⟩) hok I.bare
theorem Inv.call{g':Array GenState}{t':Nat}{d':Drawn}{ch:List Addr}(I:Inv X pins σ H s)(u:Un (frs X.stack) ch H H' s.heap h')(hok:HOk X.prog X.w H' h')(hg:AllBare g')
 (hch:∀b∈ch,(b∈X.ex\/X.s₀.heap.objs.size<=b)/\b≠X.env.locals/\(∀x c,X.env.cells.lookup x=some c->c≠b)/\∀p∈X.pn++pins,p.1≠b):
 Inv X pins σ H' {s with heap:=h',gens:=g',drawn:=d',toks:=t'}:=by
 obtain⟨m,⟨o,es,ep,ho,r⟩,_⟩:=id I.loc;obtain⟨sl,hL⟩:=u.any ho I.free λz=>(hch _ z).2.1 rfl;exact I.step (ch:=ch) hch (λb o hL hb hc e n=>u.keep b o e n (λz=>(List.mem_cons.mp (I.stkSub b z)).elim hL hb) hc) (λb o _ _ hc e n=>u.any e n hc) (λb o hc e n=>u.free b o e n hc) (λb o hc e=>u.there b o e hc) u.tups u.frzs u.tbls (λm' hm=>by
  obtain⟨o',es',ep',ho',r'⟩:=hm;rw[ho]at ho';cases ho';exact⟨_,es',ep',hL,r'⟩) hok hg
theorem Inv.turned{t':Nat}{it:Addr}(I:Inv X pins σ H s)(k:∀b o,b≠it->s.heap.get? b=some o->h'.get? b=some o)(hn:H it=none)(hL:it≠X.env.locals)
 (h1:it∈X.ex\/X.s₀.heap.objs.size<=it) (h2:∀x c,X.env.cells.lookup x=some c->c≠it) (h3:∀p∈X.pn++pins,p.1≠it):Inv X pins σ H {s with heap:=h',toks:=t'}:=by
 have nit:∀b u,H b=some u->b≠it:=λb u e z=>by rw[z,hn]at e;cases e
 refine I.step (g':=s.gens) (d':=s.drawn) (ch:=[it]) (λb hb=>?_) (λb o _ _ hc e _=>k b o (λz=>hc (by simp[z])) e) (λb o _ _ hc e _=>⟨o.slots,k b o (λz=>hc (by simp[z])) e⟩) (λ_ _ _ _ n=>n)
  (λb o hc e=>⟨o,k b o (λz=>hc (by simp[z])) e⟩) (λ_ _ e=>e) (λ_ _ _ e=>e) (λb ps e=>⟨#[],by rw[e];simp⟩) (λm hm=>?_) ⟨λb u e=>?_,I.hok.sm,let⟨o,_,_,e,_⟩:=I.ok.mod.glob;⟨mainGlobals,o,by decide,k _ _ (λz=>by
    rcases h1 with q|q
    ·exact I.ok.noex _ _ e (z▸q)
    ·exact absurd (Nat.lt_of_lt_of_le (Heap.lt_size e) (Nat.le_trans I.ok.bsz q)) (by rw[z];exact Nat.lt_irrefl _)) (I.bk _ _ e)⟩⟩ I.bare
 ·have e:b=it:=by simpa using hb
  subst e;exact⟨h1,hL,h2,h3⟩
 ·obtain⟨o,es,ep,ho,r⟩:=hm;exact⟨o,es,ep,k _ o (Ne.symm hL) ho,r⟩
 ·refine(I.hok b u e).stay (λc v hc q=>k c v ?_ q) (λ_ q=>q) λ_ _ q=>q;rcases hc with z|z
  ·rw[z];exact nit b u e
  ·exact nit c _ z
theorem Inv.tok(I:Inv X pins σ H s)(t:Nat):Inv X pins σ H {s with toks:=t}:=I.un (h':=s.heap) (t':=t) Un.refl I.hok
theorem Inv.kept{t':Nat}(I:Inv X pins σ H s)(k:∀b u,s.heap.get? b=some u->h'.get? b=some u):Inv X pins σ H {s with heap:=h',toks:=t'}:=I.un (Un.kept k) (I.hok.kept k)
theorem Inv.laid{a:Addr}{o:HO}{t':Nat}(I:Inv X pins σ H s)(k:∀b u,s.heap.get? b=some u->h'.get? b=some u)(hp:s.heap.objs.size<=a)(new:ObjOk X.prog X.w (upd H a o) h' a o):
 Inv X pins σ (upd H a o) {s with heap:=h',toks:=t'}:=I.un (Un.laid k hp (I.hok.fresh hp)) (I.hok.laid k hp new)
theorem Inv.write{x e:Addr}{o:HO}{t':Nat}(I:Inv X pins σ H s)(mu:Mut (H x))(he:e=x\/H e=some (.own x))(k:∀b u,b≠e->s.heap.get? b=some u->h'.get? b=some u)(heo:∃u,h'.get? e=some u)
 (new:ObjOk X.prog X.w (upd H x o) h' x o):Inv X pins σ (upd H x o) {s with heap:=h',toks:=t'}:=I.un (Un.write mu he k heo) (I.hok.write mu he k heo new)
theorem Inv.weak{σ':List (Option V)}(I:Inv X pins σ H s)(hl:σ'.length=σ.length)(w:∀ (i:Nat) v,σ'[i]? =some (some v)->σ[i]? =some (some v)):Inv X pins σ' H s:=
 ⟨I.ok,I.os,I.bare,I.base,let⟨m,hn,hl'⟩:=I.loc;⟨m,hn,λi x v e1 e2 e3=>hl' i x v e1 (w i v e2) e3⟩,I.cell,I.free,I.freeC,I.pin,I.hok,hl.trans I.len⟩
theorem Inv.pins_of{pins':List (Addr×Obj)}(I:Inv X pins σ H s)(h:∀p∈pins',s.heap.get? p.1=some p.2/\H p.1=none/\p.1≠X.env.locals/\p.1∉X.fs/\∀v,p.2.data≠ .cell v):Inv X pins' σ H s:=
 ⟨I.ok,I.os,I.bare,I.base,I.loc,I.cell,I.free,I.freeC,λp hp=>(List.mem_append.mp hp).elim (λz=>I.pin p (List.mem_append_left _ z)) (h p),I.hok,I.len⟩
theorem FQ{N:List Str}(hN:N.Nodup){i j:Nat}{x:Str}(a:N[i]? =some x)(b:N[j]? =some x):i=j:=by
 obtain⟨h1,e1⟩:=List.getElem?_eq_some_iff.mp a;obtain⟨h2,e2⟩:=List.getElem?_eq_some_iff.mp b;exact(List.getElem_inj hN).mp (e1.trans e2.symm)
theorem E5{M:Model}{A:Around}{E:Value->Shared->Prop}{i:Nat}{x:Str}{v:V}{u:Value}{Q:Unit->Shared->Prop}(I:Inv X pins σ H s)(hN:X.N.Nodup)(hi:X.N[i]? =some x)(hx:Loc X.env.scope x)(r:RelV v u)
 (h:∀s',Inv X pins (σ.set i (some v)) H s'->(∃a,Heap.SameBut a s.heap s'.heap/\(a=X.env.locals\/X.env.cells.lookup x=some a))->Q () s') (hf:X.fn x=true\/X.env.scope.names.lookup x=some .local:=by first|exact .inl rfl|exact .inr rfl|assumption):wpAny M A (storeName X.env x u) Q E s:=by
 obtain⟨m,hn,hl⟩:=id I.loc;have hcls:(X.env.scope.kind== .class||(X.env.scope.kind== .module&&X.env.locals !=X.env.globals))=false:=by rw[I.ok.kind];rfl
 have hiσ:i<σ.length:=by rw[I.len];exact(List.getElem?_eq_some_iff.mp hi).1
 have cne:=I.cne;have tracked:∀ {a:Addr} {h':Heap},(∃o,s.heap.get? a=some o/\H a=none)->Heap.SameBut a s.heap h'->(∃o',h'.get? a=some o')->HOk X.prog X.w H h':=fun{a h'} ha hs hz=>by
  refine⟨λb ob e=>?_,I.hok.sm,?_⟩
  rotate_left
  ·obtain⟨b,o,l,e⟩:=I.hok.bg
   by_cases hb:b=a
   ·obtain⟨v,hv⟩:=hz;exact⟨a,v,hb▸l,hv⟩
   ·exact⟨b,o,l,(hs.2 b hb).trans e⟩
  obtain⟨_,_,hfree⟩:=ha;refine(I.hok b ob e).stay (λc w' hc q=>(hs.2 c ?_).trans q) (λ_ q=>q) λ_ _ q=>q;rintro rfl;rcases hc with rfl|hc
  ·rw[hfree]at e;cases e
  ·rw[hfree]at hc;cases hc
 rcases hx with hk|hk
 ·refine wpAny_storeName_local hk hn (λh' hn' hs=>?_) hcls;obtain⟨oL,_,_,hoL,_⟩:=id hn;refine h _ ⟨I.ok,I.os,I.bare,⟨λb o e n hb hx=>?_,λb o e n hb hx=>?_,I.base.free,λb o e hx=>?_,I.base.tups,I.base.frzs,I.base.tbls⟩,⟨_,hn',λj y v' e1 e2 e3=>?_⟩,λy c e=>?_,I.free,I.freeC,λp hp=>?_,tracked ⟨oL,hoL,I.free⟩ hs (let⟨o,_,_,e,_⟩:=hn';⟨o,e⟩),by simpa using I.len⟩ ⟨_,hs, .inl rfl⟩
  ·exact(hs.2 b (Nat.ne_of_lt (Nat.lt_of_lt_of_le (Heap.lt_size e) I.ok.above))).trans (I.base.keep b o e n hb hx)
  ·obtain⟨sl,e1⟩:=I.base.slot b o e n hb hx;exact⟨sl,(hs.2 b (Nat.ne_of_lt (Nat.lt_of_lt_of_le (Heap.lt_size e) I.ok.above))).trans e1⟩
  ·obtain⟨o',e1⟩:=I.base.there b o e hx;exact⟨o',(hs.2 b (Nat.ne_of_lt (Nat.lt_of_lt_of_le (Heap.lt_size e) I.ok.above))).trans e1⟩
  ·by_cases hj:j=i
   ·subst hj;rw[hi]at e1;cases e1;rw[List.getElem?_set_self hiσ]at e2
    cases e2
    exact⟨u,r, .inl ⟨hk,by simp⟩⟩
   ·rw[List.getElem?_set_ne (Ne.symm hj)]at e2;obtain⟨u',r',q⟩:=hl j y v' e1 e2 e3;refine⟨u',r',?_⟩;rcases q with⟨k,e⟩|⟨k,c,e,z⟩
    ·refine .inl ⟨k,?_⟩;have:y≠x:=λe=>hj (FQ hN e1 (e▸hi));simp[this,e]
    ·exact .inr ⟨k,c,e,z.sameBut hs (cne y c e)⟩
  ·obtain⟨w',z⟩:=I.cell y c e;exact⟨w',z.sameBut hs (cne y c e)⟩
  ·obtain⟨e,n,ne,nf,d⟩:=I.pin p hp;exact⟨(hs.2 p.1 ne).trans e,n,ne,nf,d⟩
 ·have hfn:X.fn x=true:=by
   rcases hf with z|z
   ·exact z
   ·rw[z]at hk;cases hk
  obtain⟨c,hc⟩:=I.ok.has x (.inl hk);obtain⟨w',z⟩:=I.cell x c hc;refine wpAny_storeName_cell I.ok.kind hk hc z (λh' hc' hs=>?_);obtain⟨oc,hoc,hocd⟩:=id z;refine h {s with heap:=h'} ⟨I.ok,I.os,I.bare,⟨λb o e n hb hx=>?_,λb o e n hb hx=>?_,I.base.free,λb o e hx=>?_,I.base.tups,I.base.frzs,I.base.tbls⟩,⟨m,hn.sameBut hs (Ne.symm (cne x c hc)),λj y v' e1 e2 e3=>?_⟩,λy c' e=>?_,I.free,I.freeC,λp hp=>?_,tracked ⟨oc,hoc,I.freeC x c hc⟩ hs (let⟨o,e,_⟩:=hc';⟨o,e⟩),by simpa using I.len⟩ ⟨c,hs, .inr hc⟩
  ·exact(hs.2 b (Nat.ne_of_lt (Nat.lt_of_lt_of_le (Heap.lt_size e) (I.ok.cab x c hfn hc)))).trans (I.base.keep b o e n hb hx)
  ·obtain⟨sl,e1⟩:=I.base.slot b o e n hb hx;exact⟨sl,(hs.2 b (Nat.ne_of_lt (Nat.lt_of_lt_of_le (Heap.lt_size e) (I.ok.cab x c hfn hc)))).trans e1⟩
  ·obtain⟨o',e1⟩:=I.base.there b o e hx;exact⟨o',(hs.2 b (Nat.ne_of_lt (Nat.lt_of_lt_of_le (Heap.lt_size e) (I.ok.cab x c hfn hc)))).trans e1⟩
  ·by_cases hj:j=i
   ·subst hj;rw[hi]at e1;cases e1;rw[List.getElem?_set_self hiσ]at e2
    cases e2
    exact⟨u,r, .inr ⟨.inl hk,c,hc,hc'⟩⟩
   ·rw[List.getElem?_set_ne (Ne.symm hj)]at e2;obtain⟨u',r',q⟩:=hl j y v' e1 e2 e3;refine⟨u',r',?_⟩;rcases q with q|⟨k,c',e,z'⟩
    ·exact .inl q
    ·refine .inr ⟨k,c',e,z'.sameBut hs ?_⟩;rintro rfl;exact hj (FQ hN e1 (I.ok.inj _ _ _ e hc▸hi))
  ·by_cases hcc:c'=c
   ·subst hcc;exact⟨_,hc'⟩
   ·obtain⟨w2,z2⟩:=I.cell y c' e;exact⟨w2,z2.sameBut hs hcc⟩
  ·obtain⟨e,n,ne,nf,d⟩:=I.pin p hp;refine⟨(hs.2 p.1 ?_).trans e,n,ne,nf,d⟩;intro q;rw[q,hoc]at e;have q':oc=p.2:=Option.some.inj e;exact d w' (by rw[<-q'];exact hocd)
theorem FG{M:Model}{A:Around}{E:Value->Shared->Prop}{i:Nat}{x:Str}{v:V}{u:Value}{Q:Unit->Shared->Prop}(I:Inv X pins σ H s)(hN:X.N.Nodup)(hi:X.N[i]? =some x)(hx:Loc X.env.scope x)(r:RelV v u)
 (h:∀s',Inv X pins (σ.set i (some v)) H s'->Q () s') (hf:X.fn x=true\/X.env.scope.names.lookup x=some .local:=by first|exact .inl rfl|exact .inr rfl|assumption):wpAny M A (storeName X.env x u) Q E s:=
 E5 I hN hi hx r (λs' I' _=>h s' I') hf
theorem Inv.call'{s':Shared}{ch:List Addr}(I:Inv X pins σ H s)(ho:s'.os=s.os)(u:Un (frs X.stack) ch H H' s.heap s'.heap)(hok:HOk X.prog X.w H' s'.heap)(hg:AllBare s'.gens)
 (hch:∀b∈ch,(b∈X.ex\/X.s₀.heap.objs.size<=b)/\b≠X.env.locals/\(∀x c,X.env.cells.lookup x=some c->c≠b)/\∀p∈X.pn++pins,p.1≠b):Inv X pins σ H' s':=by
 obtain⟨h',g',d',t',o'⟩:=s';have e:o'=s.os:=ho;subst e;exact I.call (g':=g') (t':=t') (d':=d') u hok hg hch
end
abbrev XK:=Value->Option Addr->Hp->Prop
abbrev St:=List (Option V)
abbrev VK:=V->Hp->Prop
abbrev TE:=St->Hp->VK->Prop
abbrev TT:=St->Hp->(Bool->Hp->Prop)->Prop
abbrev TA:=St->Hp->(List V->Hp->Prop)->Prop
structure Ends where
 nx:St->Hp->Prop
 rt:VK
 bk:St->Hp->Prop:=λ_ _=>False
 ct:St->Hp->Prop:=λ_ _=>False
abbrev TS:=Ends->St->Hp->Prop
def EP(X:Cx)(pins:List (Addr×Obj))(σ:St)(Q:VK)(u:Value)(s':Shared):Prop:=∃v H',Inv X pins σ H' s'/\RelV v u/\Q v H'
def TP(X:Cx)(pins:List (Addr×Obj))(σ:St)(Q:Bool->Hp->Prop)(b:Bool)(s':Shared):Prop:=∃H',Inv X pins σ H' s'/\Q b H'
def AP(X:Cx)(pins:List (Addr×Obj))(σ:St)(Q:List V->Hp->Prop)(us:List Value)(s':Shared):Prop:=∃vs H',Inv X pins σ H' s'/\Vals vs us/\Q vs H'
def SP(X:Cx)(pins:List (Addr×Obj))(D:Ends)(f:Flow)(s':Shared):Prop:=
 match f with
 | .next=>∃σ' H',Inv X pins σ' H' s'/\D.nx σ' H'
 | .brk=>∃σ' H',Inv X pins σ' H' s'/\D.bk σ' H'
 | .cont=>∃σ' H',Inv X pins σ' H' s'/\D.ct σ' H'
 | .ret u=>∃v σ' H',Inv X pins σ' H' s'/\RelV v u/\D.rt v H'
def PE(X:Cx)(e:Expr)(t:TE):Prop:=
 ∀ (pins:List (Addr×Obj)) (s:Shared) (σ:St) (H:Hp) (Q:VK),Inv X pins σ H s->t σ H Q->wpAny (model X.prog X.w) X.A (eval e X.env) (EP X pins σ Q) X.xe s
def PT(X:Cx)(e:Expr)(t:TT):Prop:=
 ∀ (pins:List (Addr×Obj)) (s:Shared) (σ:St) (H:Hp) (Q:Bool->Hp->Prop),Inv X pins σ H s->t σ H Q->wpAny (model X.prog X.w) X.A (isTrue e X.env (eval e X.env)) (TP X pins σ Q) X.xe s
def PW(X:Cx)(e:Expr)(t:TT):Prop:=
 ∀ (whole:Sem Value) (pins:List (Addr×Obj)) (s:Shared) (σ:St) (H:Hp) (Q:Bool->Hp->Prop),Inv X pins σ H s->t σ H Q->wpAny (model X.prog X.w) X.A (isTrue e X.env whole) (TP X pins σ Q) X.xe s
theorem PW.pt{X:Cx}{e:Expr}{t:TT}(h:PW X e t):PT X e t:=h _
def PA(X:Cx)(es:List Expr)(t:TA):Prop:=
 ∀ (pos:Pos) (pins:List (Addr×Obj)) (s:Shared) (σ:St) (H:Hp) (Q:List V->Hp->Prop),Inv X pins σ H s->t σ H Q->wpAny (model X.prog X.w) X.A (spliced (backTo pos (starEach es X.env))) (AP X pins σ Q) X.xe s
def PS(X:Cx)(st:Stmt)(t:TS):Prop:=
 ∀ (pins:List (Addr×Obj)) (s:Shared) (σ:St) (H:Hp) (D:Ends),Inv X pins σ H s->t D σ H->wpAny (model X.prog X.w) X.A (exec st X.env) (SP X pins D) X.xe s
def PSs(X:Cx)(st:List Stmt)(t:TS):Prop:=
 ∀ (pins:List (Addr×Obj)) (s:Shared) (σ:St) (H:Hp) (D:Ends),Inv X pins σ H s->t D σ H->wpAny (model X.prog X.w) X.A (execs st X.env) (SP X pins D) X.xe s
theorem thn{α:Type}{t:Sem α}{Q Q':α->Shared->Prop}{M:Model}{A:Around}{E:Value->Shared->Prop}{s:Shared}(h:wpAny M A t Q E s)(hQ:∀a s,Q a s->Q' a s):wpAny M A t Q' E s:=wpAny_mono h hQ λ_ _ x=>x
section
variable{X:Cx}
def A7(i:Nat):TE:=λσ H Q=>∃v,σ[i]? =some (some v)/\Q v H
def tC(v:V):TE:=λ_ H Q=>Q v H
theorem KU{i:Nat}{x:Str}{pos:Pos}(hN:X.N[i]? =some x)(hv:Vis X.env.scope x)(hd:(x==("__debug__":Str))=false:=by decide)(hcd:(x==("__classdict__":Str))=false:=by decide):PE X (.Name x pos) (A7 i):=by
 intro pins s σ H Q I h;obtain⟨v,e,h⟩:=h;obtain⟨m,hn,hl⟩:=I.loc;obtain⟨u,r,l⟩:=hl i x v hN e hv;have fin:EP X pins σ Q u s:=⟨v,H,I,r,h⟩;rcases l with⟨hk,hm⟩|⟨hk,c,hc,hcell⟩
 ·exact wpAny_Name (wpAny_loadName_local I.ok.kind hk hn hm fin) hd
 ·rcases hk with hk|hk
  ·exact wpAny_Name (wpAny_loadName_cell I.ok.kind hk hc hcell fin) hd
  ·exact wpAny_Name (wpAny_loadName_free I.ok.kind hk hc hcell fin hcd) hd
theorem AC{i j pos}:PE X (.Constant (.int i) j pos) (tC (.int i)):=λ_ _ _ H _ I h=>wpAny_Constant_int ⟨.int i,H,I.tok _,⟨_,rfl⟩,h⟩
theorem Bp{b j pos}:PE X (.Constant (.bool b) j pos) (tC (.bl b)):=λ_ _ _ H _ I h=>Constant_bool ⟨.bl b,H,I,rfl,h⟩
theorem Ae{j pos}:PE X (.Constant .none j pos) (tC .non):=λ_ _ _ H _ I h=>Constant_none ⟨.non,H,I,rfl,h⟩
theorem CZ{x j pos}:PE X (.Constant (.str x) j pos) (tC (.str x)):=λ_ _ _ H _ I h=>Calls.Constant_str ⟨.str x,H,I.tok _,⟨_,rfl⟩,h⟩
def Gl(X:Cx)(x:Str):Prop:=X.env.kindOf x=some .globalImplicit
theorem Cm{E:Value->Shared->Prop}{pins:List (Addr×Obj)}{s:Shared}{σ:St}{H:Hp}{x:Str}{u:Value}{pos:Pos}{Q:Value->Shared->Prop}(I:Inv X pins σ H s)(hg:Gl X x)(hm:X.mg x=some u)(h:Q u s)
 (hd:(x==("__debug__":Str))=false:=by decide):wpAny (model X.prog X.w) X.A (eval (.Name x pos) X.env) Q E s:=
 Calls.Name_function_global I.ok.kind hg (Calls.loadGlobal_global (by rw[I.ok.glob];exact I.mod.glob.keeps I.bk) hm h) hd
theorem Bn{E:Value->Shared->Prop}{pins:List (Addr×Obj)}{s:Shared}{σ:St}{H:Hp}{x:Str}{u:Value}{pos:Pos}{Q:Value->Shared->Prop}(I:Inv X pins σ H s)(hg:Gl X x)(hm:X.mg x=none)(hv:bootBuiltins x=some u)(h:Q u s)
 (hn:x≠"__name__":=by decide) (hd:(x==("__debug__":Str))=false:=by decide):wpAny (model X.prog X.w) X.A (eval (.Name x pos) X.env) Q E s:=by
 obtain⟨mb,h1,h2⟩:=I.mod.blt;exact Calls.Name_function_global I.ok.kind hg (Calls.loadGlobal_builtin (by rw[I.ok.glob];exact I.mod.glob.keeps I.bk) hm (by rw[I.ok.blt];exact h1.keeps I.bk) ((h2 x hn).trans hv) h) hd
theorem RQ{x:Str}{v:V}{u:Value}{pos:Pos}(hg:Gl X x)(hm:X.mg x=some u)(r:RelV v u)(hd:(x==("__debug__":Str))=false:=by decide):PE X (.Name x pos) (tC v):=
 λ_ _ _ H _ I h=>Cm I hg hm ⟨v,H,I,r,h⟩ hd
theorem RX{x:Str}{v:V}{u:Value}{pos:Pos}(hg:Gl X x)(hm:X.mg x=none)(hv:bootBuiltins x=some u)(r:RelV v u)(hn:x≠"__name__":=by decide)(hd:(x==("__debug__":Str))=false:=by decide):PE X (.Name x pos) (tC v):=
 λ_ _ _ H _ I h=>Bn I hg hm hv ⟨v,H,I,r,h⟩ hn hd
variable{a b:Expr}{ta tb:TE}{pos:Pos}
def PC(X:Cx)(op:CmpOp)(a b:Expr)(t:TE):Prop:=
 ∀ (pins:List (Addr×Obj)) (s:Shared) (σ:St) (H:Hp) (Q:VK),Inv X pins σ H s->t σ H Q->
   wpAny (model X.prog X.w) X.A (eval a X.env) (λv s₁=>wpAny (model X.prog X.w) X.A (eval b X.env) (λu s₂=>wpAny (model X.prog X.w) X.A (compareOp op v u) (EP X pins σ Q) X.xe s₂) X.xe s₁) X.xe s
def tB(t:TE):TT:=λσ H Q=>t σ H λx H1=>∃c,x= .bl c/\Q c H1
theorem KR{op:CmpOp}{t:TE}(h:PC X op a b t)(h1:behindInMarks op b=false:=by first|exact nobehind _ (by decide) (by decide)|rfl):PT X (.Compare a [op] [b] pos) (tB t):=by
 intro pins s σ H Q I hw;refine wpAny_isTrue_Compare1 (thn (h pins s σ H _ I hw) λv s1 h1=>thn h1 λu s2 h2=>thn h2 λc s3 ⟨x,H1,I1,r1,q1⟩=>?_) h1;obtain⟨d,rfl,q⟩:=q1
 cases r1
 exact wpAny_truthy_bool ⟨H1,I1,q⟩
variable{tA tB':TT}{rest:List Expr}
def Ld(t u:TT):TT:=λσ H Q=>t σ H λc H1=>if c=true then u σ H1 Q else Q false H1
def tOr(t u:TT):TT:=λσ H Q=>t σ H λc H1=>if c=true then Q true H1 else u σ H1 Q
def LY(t:TT):TT:=λσ H Q=>t σ H λc H1=>Q (!c) H1
theorem Dg(ha:PT X a tA):PW X (.BoolOp .And [a] pos) tA:=by
 intro wh pins s σ H Q I h;refine isTrue_and (thn (ha pins s σ H Q I h) λc s1 e=>?_)
 cases c with
 |true=>exact isTrue_and_nil e
 |false=>exact e
theorem BX(ha:PT X a tA):PW X (.BoolOp .Or [a] pos) tA:=by
 intro wh pins s σ H Q I h;refine isTrue_or (thn (ha pins s σ H Q I h) λc s1 e=>?_)
 cases c with
 |false=>exact isTrue_or_nil e
 |true=>exact e
theorem Dp(ha:PT X a tA)(hb:PW X (.BoolOp .And (b::rest) pos) tB'):PW X (.BoolOp .And (a::b::rest) pos) (Ld tA tB'):=by
 intro wh pins s σ H Q I h;refine isTrue_and (thn (ha pins s σ H _ I h) λc s1 ⟨H1,I1,q1⟩=>?_)
 cases c with
 |true=>exact hb wh pins s1 σ H1 Q I1 q1
 |false=>exact⟨H1,I1,q1⟩
theorem BL(ha:PT X a tA)(hb:PW X (.BoolOp .Or (b::rest) pos) tB'):PW X (.BoolOp .Or (a::b::rest) pos) (tOr tA tB'):=by
 intro wh pins s σ H Q I h;refine isTrue_or (thn (ha pins s σ H _ I h) λc s1 z_=>?_);obtain⟨H1,I1,q1⟩:=z_
 cases c with
 |true=>exact⟨H1,I1,q1⟩
 |false=>exact hb wh pins s1 σ H1 Q I1 q1
theorem BU(ha:PT X a tA):PT X (.UnaryOp .Not a pos) (LY tA):=by
 intro pins s σ H Q I h;exact isTrue_not (ha pins s σ H (λc H1=>Q (!c) H1) I h)
def Ku(ta tb:TE):TE:=λσ H Q=>ta σ H λx H1=>∃c,x= .bl c/\if c=true then tb σ H1 Q else Q (.bl false) H1
def LX(ta tb:TE):TE:=λσ H Q=>ta σ H λx H1=>∃c,x= .bl c/\if c=true then Q (.bl true) H1 else tb σ H1 Q
def Kr(ta:TE):TE:=λσ H Q=>ta σ H λx H1=>∃c,x= .bl c/\Q (.bl (!c)) H1
theorem Dq{op}{t:TE}(h:PE X a t):PE X (.BoolOp op [a] pos) t:=λpins s σ H Q I hw=>BoolOp_one (h pins s σ H Q I hw)
theorem F8(ha:PE X a ta)(hb:PE X (.BoolOp .And (b::rest) pos) tb):PE X (.BoolOp .And (a::b::rest) pos) (Ku ta tb):=by
 intro pins s σ H Q I h;refine BoolOp_and (thn (ha pins s σ H _ I h) λv s1 z_=>?_);obtain⟨x,H1,I1,r1,q1⟩:=z_;obtain⟨c,rfl,q1⟩:=q1
 cases r1
 refine wpAny_truthy_bool ?_
 cases c with
 |true=>exact hb pins s1 σ H1 Q I1 q1
 |false=>exact⟨.bl false,H1,I1,rfl,q1⟩
theorem K8(ha:PE X a ta)(hb:PE X (.BoolOp .Or (b::rest) pos) tb):PE X (.BoolOp .Or (a::b::rest) pos) (LX ta tb):=by
 intro pins s σ H Q I h;refine BoolOp_or (thn (ha pins s σ H _ I h) λv s1 z_=>?_);obtain⟨x,H1,I1,r1,q1⟩:=z_;obtain⟨c,rfl,q1⟩:=q1
 cases r1
 refine wpAny_truthy_bool ?_
 cases c with
 |false=>exact hb pins s1 σ H1 Q I1 q1
 |true=>exact⟨.bl true,H1,I1,rfl,q1⟩
theorem KW(ha:PE X a ta):PE X (.UnaryOp .Not a pos) (Kr ta):=by
 intro pins s σ H Q I h;refine UnaryOp_ (thn (ha pins s σ H _ I h) λv s1 z_=>?_);obtain⟨x,H1,I1,r1,q1⟩:=z_;obtain⟨c,rfl,q1⟩:=q1
 cases r1
 exact not_of (wpAny_truthy_bool ⟨.bl (!c),H1,I1,rfl,q1⟩)
def tIf(t:TT)(ta tb:TE):TE:=λσ H Q=>t σ H λc H1=>if c=true then ta σ H1 Q else tb σ H1 Q
theorem BK{c:Expr}(hc:PT X c tA)(ha:PE X a ta)(hb:PE X b tb):PE X (.IfExp c a b pos) (tIf tA ta tb):=by
 intro pins s σ H Q I h;refine wpAny_IfExp (thn (hc pins s σ H _ I h) λd s1 ⟨H1,I1,q1⟩=>?_)
 cases d with
 |true=>exact ha pins s1 σ H1 Q I1 q1
 |false=>exact hb pins s1 σ H1 Q I1 q1
end
def SqL(K:W.Frag)(H:Hp)(a:Addr)(xs:List V):Prop:=
 Rd H a (.lst xs)\/
  ∃ (o:Obj) (its:Array Value) (n:Nat),K.lookup a=some o/\o.cls= .type "list"/\o.dict=none/\o.data= .seq its n/\its.size<=sizeLine/\Vals xs its.toList
def SqT(K:W.Frag)(H:Hp)(a:Addr)(xs:List V):Prop:=
 Rd H a (.tup xs)\/
  ∃ (o:Obj) (its:Array Value) (n:Nat),K.lookup a=some o/\o.cls= .type "tuple"/\o.data= .seq its n/\its.size<=sizeLine/\Vals xs its.toList
def Es:Value->Option V
 | .none=>some .non
 | .bool b=>some (.bl b)
 | .int i _=>some (.int i)
 | .str x _=>some (.str x)
 | .bytes b _=>some (.byt b)
 | .float b _=>some (.flt b)
 | .ref a=>some (.ref a)
 | .type n=>some (.ty n)
 |_=>none
theorem RelV.abs{x:V}{u:Value}(r:RelV x u):Es u=some x:=by
 cases x with
 |non=>cases r;rfl
 |bl _=>cases r;rfl
 |int _=>obtain⟨t,rfl⟩:=r;rfl
 |str _=>obtain⟨t,rfl⟩:=r;rfl
 |byt _=>obtain⟨t,rfl⟩:=r;rfl
 |flt _=>obtain⟨t,rfl⟩:=r;rfl
 |ref _=>cases r;rfl
 |ty _=>cases r;rfl
theorem RelV.inj{x y:V}{u:Value}(r:RelV x u)(q:RelV y u):x=y:=Option.some.inj (r.abs.symm.trans q.abs)
theorem Vals.inj:∀ {xs ys:List V} {us:List Value},Vals xs us->Vals ys us->xs=ys
 |_,_,_, .nil, .nil=>rfl
 |_,_,_, .cons r t, .cons r' t'=>by rw[r.inj r',Vals.inj t t']
section
variable{X:Cx}{pins:List (Addr×Obj)}{σ:St}{H:Hp}{s:Shared}{a:Addr}{xs ys:List V}
theorem SqL.of{K:W.Frag}(h:H a=some (.lst xs)):SqL K H a xs:= .inl (.inl h)
theorem SqT.of{K:W.Frag}(h:H a=some (.tup xs)):SqT K H a xs:= .inl (.inl h)
theorem Inv.list(I:Inv X pins σ H s)(h:SqL X.K H a xs):∃its:List Value,Vals xs its/\PlainL s.heap a its.toArray/\xs.length<=sizeLine:=by
 rcases h with h|⟨o,its,n,hk,hc,hd,hs,hz,r⟩
 ·obtain⟨z,its,n,r,e⟩:=h.ok I.hok;exact⟨its,r,⟨_,n,e,rfl,rfl,rfl⟩,z⟩
 ·refine⟨its.toList,r,⟨o,n,I.kIn a o hk,hc,hd,by simpa using hs⟩,?_⟩;have e:=r.length;simp only[Array.length_toList]at e;lia
theorem Inv.tuple(I:Inv X pins σ H s)(h:SqT X.K H a xs):∃its:List Value,Vals xs its/\IsTup s.heap a its.toArray/\xs.length<=sizeLine:=by
 rcases h with h|⟨o,its,n,hk,hc,hs,hz,r⟩
 ·obtain⟨z,its,r,p⟩:=h.ok I.hok;exact⟨its,r,p,z⟩
 ·refine⟨its.toList,r,⟨o,I.kIn a o hk,hc,n,by simpa using hs⟩,?_⟩;have e:=r.length;simp only[Array.length_toList]at e;lia
theorem Inv.list_inj(I:Inv X pins σ H s)(h:SqL X.K H a xs)(h':SqL X.K H a ys):xs=ys:=by
 obtain⟨its,r,⟨o,n,e,_,_,d⟩,_⟩:=I.list h;obtain⟨its',r',⟨o',n',e',_,_,d'⟩,_⟩:=I.list h';rw[e]at e';cases e';rw[d]at d';injection d' with d1 _
 have:its=its':=by simpa using congrArg Array.toList d1
 subst this;exact r.inj r'
end
abbrev Cx.wish(X:Cx)(E:Value->Shared->Prop):Cx:={X with xe:=E}
abbrev Cx.nox(X:Cx):Cx:=X.wish λ_ _=>False
theorem Cx.Ok.wish{X:Cx}(ok:X.Ok)(E:Value->Shared->Prop):(X.wish E).Ok:=
 ⟨ok.mod,ok.kind,ok.glob,ok.blt,ok.above,ok.inj,ok.has,ok.cab,ok.hd,ok.frames,ok.stk,ok.exf,ok.bs,ok.bsz,ok.noex,ok.exfs,ok.funs,ok.frf⟩
theorem Cx.Ok.unwish{X:Cx}{E:Value->Shared->Prop}(ok:(X.wish E).Ok):X.Ok:=
 ⟨ok.mod,ok.kind,ok.glob,ok.blt,ok.above,ok.inj,ok.has,ok.cab,ok.hd,ok.frames,ok.stk,ok.exf,ok.bs,ok.bsz,ok.noex,ok.exfs,ok.funs,ok.frf⟩
section
variable{X:Cx}{pins:List (Addr×Obj)}{σ:St}{H:Hp}{s:Shared}{E:Value->Shared->Prop}
theorem Inv.wish(I:Inv X pins σ H s)(E:Value->Shared->Prop):Inv (X.wish E) pins σ H s:=⟨I.ok.wish E,I.os,I.bare,I.base,I.loc,I.cell,I.free,I.freeC,I.pin,I.hok,I.len⟩
theorem Inv.unwish(I:Inv (X.wish E) pins σ H s):Inv X pins σ H s:=⟨I.ok.unwish,I.os,I.bare,I.base,I.loc,I.cell,I.free,I.freeC,I.pin,I.hok,I.len⟩
theorem SP.unwish{D:Ends}{f:Flow}{s':Shared}(h:SP (X.wish E) pins D f s'):SP X pins D f s':=by
 cases f with
 |next=>obtain⟨σ',H',I,q⟩:=h;exact⟨σ',H',I.unwish,q⟩
 |brk=>obtain⟨σ',H',I,q⟩:=h;exact⟨σ',H',I.unwish,q⟩
 |cont=>obtain⟨σ',H',I,q⟩:=h;exact⟨σ',H',I.unwish,q⟩
 |ret u=>obtain⟨v,σ',H',I,r,q⟩:=h;exact⟨v,σ',H',I.unwish,r,q⟩
theorem PSs.nox{st:List Stmt}{t:TS}(h:PSs X.nox st t):PSs X st t:=λpins s σ H D I hw=>
 wpAny_mono (h pins s σ H D (I.wish _) hw) (λ_ _ q=>q.unwish) λ_ _ z=>False.elim z
end
section
variable{X:Cx}{st:Stmt}{rest:List Stmt}{t u:TS}{e:Expr}{te:TE}{pos:Pos}
def tNext:TS:=λD σ H=>D.nx σ H
def Dy(t u:TS):TS:=λD σ H=>t {D with nx:=u D} σ H
theorem AX:PSs X [] tNext:=λ_ _ σ H _ I h=>wpAny_execs_nil ⟨σ,H,I,h⟩
theorem AD(h1:PS X st t)(h2:PSs X rest u):PSs X (st::rest) (Dy t u):=by
 intro pins s σ H D I h;refine wpAny_execs_cons (thn (h1 pins s σ H {D with nx:=u D} I h) λf s1 q=>?_)
 cases f with
 |next=>
  obtain⟨σ',H',I',q⟩:=q;exact h2 pins s1 σ' H' D I' q
 |ret v=>exact q
 |brk=>exact q
 |cont=>exact q
theorem AE(h1:PS X st t):PSs X [st] t:=by
 intro pins s σ H D I h;refine wpAny_execs_cons (thn (h1 pins s σ H D I h) λf s1 q=>?_)
 cases f with
 |next=>exact wpAny_execs_nil q
 |ret v=>exact q
 |brk=>exact q
 |cont=>exact q
def tCont:TS:=λD σ H=>D.ct σ H
theorem M6:PS X (.Continue pos) tCont:=λ_ _ σ H _ I h=>wpAny_Continue ⟨σ,H,I,h⟩
theorem Inv.quiet{pins:List (Addr×Obj)}{σ:St}{H:Hp}{s:Shared}(I:Inv X pins σ H s):interactive X.env=false:=by simp[interactive,I.ok.kind]
def Ks(te:TE):TS:=λD σ H=>te σ H λ_ H1=>D.nx σ H1
theorem BC(he:PE X e te)(hs:swapsWith e none pos.line X.env=pure false:=by rfl):PS X (.Expr e pos) (Ks te):=by
 intro pins s σ H D I h;exact wpAny_Expr_any (thn (he pins s σ H _ I h) λv s1 ⟨x,H1,I1,r1,q1⟩=>⟨σ,H1,I1,q1⟩) I.quiet hs
def GV(te:TE):TS:=λD σ H=>te σ H D.rt
theorem AK(he:PE X e te):PS X (.Return (some e) pos) (GV te):=by
 intro pins s σ H D I h;exact wpAny_Return_some (thn (he pins s σ H _ I h) λv s1 ⟨x,H1,I1,r1,q1⟩=>⟨x,σ,H1,I1,r1,q1⟩)
def DN(c:TT)(t u:TS):TS:=λD σ H=>c σ H λb H1=>if b=true then t D σ H1 else u D σ H1
theorem AV{c:Expr}{a b:List Stmt}{tc:TT}(hc:PT X c tc)(ha:PSs X a t)(hb:PSs X b u):PS X (.If c a b pos) (DN tc t u):=by
 intro pins s σ H D I h;refine wpAny_If (thn (hc pins s σ H _ I h) λd s1 z_=>?_);obtain⟨H1,I1,q1⟩:=z_
 cases d with
 |true=>exact ha pins s1 σ H1 D I1 q1
 |false=>exact hb pins s1 σ H1 D I1 q1
def tNever:TS:=λ_ _ _=>False
theorem B5:PS X st tNever:=λ_ _ _ _ _ _ h=>h.elim
end
abbrev TG:=V->St->Hp->(St->Hp->Prop)->Prop
abbrev TGs:=List V->St->Hp->(St->Hp->Prop)->Prop
def PG(X:Cx)(target:Expr)(t:TG):Prop:=
 ∀ (pins:List (Addr×Obj)) (s:Shared) (σ:St) (H:Hp) (v:V) (u:Value) (Q:St->Hp->Prop),Inv X pins σ H s->RelV v u->t v σ H Q->
   wpAny (model X.prog X.w) X.A (assign target X.env u) (λ_ s'=>∃σ' H',Inv X pins σ' H' s'/\Q σ' H') X.xe s
def PGs(X:Cx)(ts:List Expr)(t:TGs):Prop:=
 ∀ (pins:List (Addr×Obj)) (s:Shared) (σ:St) (H:Hp) (vs:List V) (us:List Value) (Q:St->Hp->Prop),Inv X pins σ H s->Vals vs us->t vs σ H Q->
   wpAny (model X.prog X.w) X.A (assignInOrder ((assignEach ts X.env).map (·.2)) us) (λ_ s'=>∃σ' H',Inv X pins σ' H' s'/\Q σ' H') X.xe s
abbrev TSet:=V->V->V->Hp->(Hp->Prop)->Prop
def Gj(X:Cx)(t:TSet):Prop:=
 ∀ (pins:List (Addr×Obj)) (s:Shared) (σ:St) (H:Hp) (o i v:V) (ov iv u:Value) (Q:Hp->Prop),Inv X pins σ H s->RelV o ov->RelV i iv->RelV v u->t o i v H Q->
   wpAny (model X.prog X.w) X.A (setItem ov iv u) (λ_ s'=>∃H',Inv X pins σ H' s'/\Q H') X.xe s
abbrev TIp:=V->V->Hp->VK->Prop
def PIp(X:Cx)(op:Operator)(t:TIp):Prop:=
 ∀ (pins:List (Addr×Obj)) (s:Shared) (σ:St) (H:Hp) (x y:V) (v u:Value) (Q:VK),Inv X pins σ H s->RelV x v->RelV y u->t x y H Q->
   wpAny (model X.prog X.w) X.A (inplaceOp op v u) (EP X pins σ Q) X.xe s
section
variable{X:Cx}{pos:Pos}
def Aw(i:Nat):TG:=λv σ H Q=>Q (σ.set i (some v)) H
theorem Ah{i:Nat}{x:Str}(hN:X.N.Nodup)(hi:X.N[i]? =some x)(hx:Loc X.env.scope x)(hf:X.fn x=true\/X.env.scope.names.lookup x=some .local:=by first|exact .inl rfl|exact .inr rfl|assumption):PG X (.Name x pos) (Aw i):=by
 intro pins s σ H v u Q I r h;exact wpAny_assign_Name (FG I hN hi hx r (λs' I'=>⟨_,H,I',h⟩) hf)
def gNil:TGs:=λvs σ H Q=>vs=[]/\Q σ H
def Eh(t:TG)(u:TGs):TGs:=λvs σ H Q=>∃v r,vs=v::r/\t v σ H λσ' H'=>u r σ' H' Q
theorem Bi:PGs X [] gNil:=by
 intro pins s σ H vs us Q I r h;obtain⟨e,h⟩:=h;subst e
 cases r
 exact assignInOrder_nil ⟨σ,H,I,h⟩
theorem Ao{e:Expr}{es:List Expr}{t:TG}{u:TGs}(h1:PG X e t)(h2:PGs X es u)
 (hs:(assignEach (e::es) X.env).map (·.2)=assign e X.env::(assignEach es X.env).map (·.2):=by rfl):PGs X (e::es) (Eh t u):=by
 intro pins s σ H vs us Q I r h;obtain⟨v,vr,e1,h⟩:=h;subst e1
 cases r with
 |cons r rr=>
  rw[hs];refine assignInOrder_cons (thn (h1 pins s σ H _ _ _ I r h) λ_ s1 z_=>?_);obtain⟨σ1,H1,I1,q1⟩:=z_;exact h2 pins s1 σ1 H1 _ _ Q I1 rr q1
def Er(K:W.Frag)(n:Nat)(t:TGs):TG:=λv σ H Q=>∃a xs,v= .ref a/\SqT K H a xs/\xs.length=n/\t xs σ H Q
theorem TQ{es:List Expr}{k:Nat}{t:TGs}{n:Nat}(hc:X.calm=true)(h:PGs X es t)
 (hn:(assignEach es X.env).length=n:=by rfl) (hst:(assignEach es X.env).findIdx? (·.1)=none:=by rfl):PG X (.Tuple es k pos) (Er X.K n t):=by
 intro pins s σ H v u Q I r hw;obtain⟨a,xs,e1,hq,hl,hw⟩:=hw;subst e1
 cases r
 obtain⟨its,rv,ht,hz⟩:=I.tuple hq;refine assign_Tuple_tuple (I.ok.hd hc) ht (by simp[hn,<-hl,rv.length]) hst λh' hx=>?_;have I1:Inv X pins σ H {s with heap:=h'}:=I.kept (t':=s.toks) λb o e=>hx b o (Nat.ne_of_lt (Heap.lt_size e)) e;exact h pins _ σ H xs _ Q I1 (by simpa using rv) hw
def Gf(to ti:TE)(t:TSet):TG:=λv σ H Q=>to σ H λo H1=>ti σ H1 λi H2=>t o i v H2 λH3=>Q σ H3
theorem CI{o i:Expr}{to ti:TE}{t:TSet}(ho:PE X o to)(hi:PE X i ti)(hs:Gj X t)
 (ha:∀v,assign (.Subscript o i pos) X.env v=(do
   let ov<-holding [v] (eval o X.env)
   let iv<-holding [v,ov] (eval i X.env)
   standAt pos
   holding [v,ov,iv] (setItem ov iv v)
   release [v,ov,iv] []):=by intro _;rfl):PG X (.Subscript o i pos) (Gf to ti t):=by
 intro pins s σ H v u Q I r h;rw[ha];refine wpAny_bind (wpAny_holding (thn (ho pins s σ H _ I h) λov s1 z_=>?_));obtain⟨x,H1,I1,r1,q1⟩:=z_;refine wpAny_bind (wpAny_holding (thn (hi pins s1 σ H1 _ I1 q1) λiv s2 z_=>?_));obtain⟨y,H2,I2,r2,q2⟩:=z_;refine wpAny_bind (wpAny_standAt (wpAny_bind (wpAny_holding (thn (hs pins s2 σ H2 x y v ov iv u _ I2 r1 r2 r q2) λ_ s3 z_=>?_))));obtain⟨H3,I3,q3⟩:=z_;exact wpAny_release ⟨σ,H3,I3,q3⟩
def Bf(te:TE)(g:TG):TS:=λD σ H=>te σ H λx H1=>g x σ H1 D.nx
theorem BY{tg e:Expr}{te:TE}{g:TG}(he:PE X e te)(hg:PG X tg g)(hs:swapsWithSole [tg] e pos.line X.env=pure false:=by rfl)(hw:swappedStores [tg] e X.env=pure none:=by rfl)
 (h1:(assignEach [tg] X.env).map (·.2)=[assign tg X.env]:=by rfl):PS X (.Assign [tg] e pos) (Bf te g):=by
 intro pins s σ H D I h;refine wpAny_Assign_stores (thn (he pins s σ H _ I h) λv s1 ⟨x,H1,I1,r1,q1⟩=>?_) hs hw;rw[h1];exact thn (hg pins s1 σ H1 x v _ I1 r1 q1) λ_ s2 q=>q
theorem CH{i:Nat}{x:Str}{e:Expr}{te:TE}{pos':Pos}(hN:X.N.Nodup)(hi:X.N[i]? =some x)(hx:Loc X.env.scope x)(he:PE X e te)(hs:swapsWith e (some (.Name x pos')) pos.line X.env=pure false:=by rfl)(hf:X.fn x=true\/X.env.scope.names.lookup x=some .local:=by first|exact .inl rfl|exact .inr rfl|assumption):
 PS X (.Assign [.Name x pos'] e pos) (Bf te (Aw i)):=by
 intro pins s σ H D I h;refine wpAny_Assign_Name (thn (he pins s σ H _ I h) λv s1 ⟨y,H1,I1,r1,q1⟩=>?_) hs;exact FG I1 hN hi hx r1 (λs2 I2=>⟨_,H1,I2,q1⟩) hf
def Kt(to ti te:TE)(tget:V->V->Hp->VK->Prop)(tip:TIp)(tset:TSet):TS:=λD σ H=>to σ H λo H1=>ti σ H1 λi H2=>tget o i H2 λx H3=>te σ H3 λy H4=>tip x y H4 λz H5=>tset o i z H5 λH6=>D.nx σ H6
def Ly(X:Cx)(t:V->V->Hp->VK->Prop):Prop:=
 ∀ (pins:List (Addr×Obj)) (s:Shared) (σ:St) (H:Hp) (o i:V) (ov iv:Value) (Q:VK),Inv X pins σ H s->RelV o ov->RelV i iv->t o i H Q->
   wpAny (model X.prog X.w) X.A (getItem ov iv) (EP X pins σ Q) X.xe s
theorem RJ{o i e:Expr}{to ti te:TE}{tget:V->V->Hp->VK->Prop}{tip:TIp}{tset:TSet}{op:Operator}{tpos:Pos}(ho:PE X o to)(hi:PE X i ti)(hg:Ly X tget)(he:PE X e te)(hp:PIp X op tip)(hs:Gj X tset)
 (ha:∀ov iv new,augStore i ov iv new=(do holding [new,ov,iv] (setItem ov iv new);release [new,ov,iv] [];pure .next):=by intros;rfl):PS X (.AugAssign (.Subscript o i tpos) op e pos) (Kt to ti te tget tip tset):=by
 intro pins s σ H D I h;refine wpAny_AugAssign_SubscriptAny (thn (ho pins s σ H _ I h) λov s1 ⟨x1,H1,I1,r1,q1⟩=>?_) ha;refine thn (hi pins s1 σ H1 _ I1 q1) λiv s2 z_=>?_;obtain⟨x2,H2,I2,r2,q2⟩:=z_;refine thn (hg pins s2 σ H2 x1 x2 ov iv _ I2 r1 r2 q2) λold s3 z_=>?_;obtain⟨x3,H3,I3,r3,q3⟩:=z_;refine thn (he pins s3 σ H3 _ I3 q3) λv s4 z_=>?_;obtain⟨x4,H4,I4,r4,q4⟩:=z_;refine thn (hp pins s4 σ H4 x3 x4 old v _ I4 r3 r4 q4) λnew s5 z_=>?_;obtain⟨x5,H5,I5,r5,q5⟩:=z_;exact thn (hs pins s5 σ H5 x1 x2 x5 ov iv new _ I5 r1 r2 r5 q5) λ_ s6 ⟨H6,I6,q6⟩=>⟨σ,H6,I6,q6⟩
def ipI(f:Int->Int->Int):TIp:=λx y H Q=>∃i j,x= .int i/\y= .int j/\Q (.int (f i j)) H
theorem UD:PIp X .Add (ipI λi j=>i+j):=by
 intro pins s σ H x y v u Q I r1 r2 h;obtain⟨i,j,e1,e2,q⟩:=h;subst e1;subst e2;obtain⟨t,rfl⟩:=r1;obtain⟨t',rfl⟩:=r2;exact iadd_int ⟨.int _,H,I.tok _,⟨_,rfl⟩,q⟩
def KG(c:TT)(tb:TS):TS:=λD σ H=>∃W:Nat->St->Hp->Prop,(∃m,W m σ H)/\∀m σ H,W m σ H->
 c σ H λb H1=>if b=true then∃N:St->Hp->Prop,(∀σ' H',N σ' H'->∃m',m'<m/\W m' σ' H')/\tb {D with nx:=N,ct:=N,bk:=D.nx} σ H1 else D.nx σ H1
theorem Ih{c:Expr}{body:List Stmt}{tc:TT}{tb:TS}(hp:PassesOwn (model X.prog X.w) X.A X.env X.xe)(hc:PT X c tc)(hb:PSs X body tb):PS X (.While c body [] pos) (KG tc tb):=by
 intro pins s σ H D I h;obtain⟨W,⟨m0,w0⟩,turn⟩:=h;refine wpAny_While (codeAny_whileLoop (λn s'=>∃σ' H',Inv X pins σ' H' s'/\W n σ' H') ?_ m0 ⟨σ,H,I,w0⟩);rintro n s1 ⟨σ1,H1,I1,w1⟩;refine wpAny_passesOwn hp (thn (hc pins s1 σ1 H1 _ I1 (turn n σ1 H1 w1)) λb s2 z_=>?_);obtain⟨H2,I2,q2⟩:=z_
 cases b with
 |true=>
  obtain⟨N,hN,q2⟩:=q2;rw[if_pos rfl];refine wpAny_passesOwn hp (thn (hb pins s2 σ1 H2 _ I2 q2) λf s3 q3=>?_)
  cases f with
  |next=>
   obtain⟨σ3,H3,I3,n3⟩:=q3;obtain⟨m',hm,w3⟩:=hN σ3 H3 n3;exact⟨m',hm,σ3,H3,I3,w3⟩
  |cont=>
   obtain⟨σ3,H3,I3,n3⟩:=q3;obtain⟨m',hm,w3⟩:=hN σ3 H3 n3;exact⟨m',hm,σ3,H3,I3,w3⟩
  |brk=>exact q3
  |ret v=>exact q3
 |false=>
  rw[if_neg Bool.false_ne_true];exact wpAny_execs_nil ⟨σ1,H2,I2,q2⟩
end
structure It where
 go:Nat->Hp->Prop
 yld:Nat->Hp->V->Hp->Prop
 stop:Nat->Hp->Prop
def BH(X:Cx)(pins:List (Addr×Obj))(H:Hp)(b:Addr):Prop:=
 H b=none/\b≠X.env.locals/\b∉X.fs/\(b∈X.ex\/X.s₀.heap.objs.size<=b)/\(∀x c,X.env.cells.lookup x=some c->c≠b)/\∀p∈X.pn++pins,p.1≠b
theorem Inv.fpOk{X:Cx}{pins:List (Addr×Obj)}{σ:St}{H H':Hp}{s:Shared}{b:Addr}(I:Inv X pins σ H s)(hb:s.heap.objs.size<=b)(hn:H' b=none):BH X pins H' b:=by
 refine⟨hn,Nat.ne_of_gt (Nat.lt_of_lt_of_le I.lt hb),I.nofs hb, .inr (Nat.le_trans I.sz hb),λx c e z=>?_,λp hp z=>?_⟩
 ·obtain⟨v,q⟩:=I.cell x c e;exact absurd (Nat.lt_of_lt_of_le q.lt (by rw[z];exact hb)) (Nat.lt_irrefl _)
 ·exact absurd (Nat.lt_of_lt_of_le (Heap.lt_size (I.pin p hp).1) (by rw[z];exact hb)) (Nat.lt_irrefl _)
structure Turn (P:Program) (w:World) (K:W.Frag) (tg:Expr) (J:It) (fp:List Addr) (it:Addr) (tn:Nat->Heap->Prop):Prop where
 mem:it∈fp
 obj:∀i h,tn i h->∀b∈fp,∃o,h.get? b=some o/\∀v,o.data≠ .cell v
 keep:∀i h h',tn i h->(∀b∈fp,∀o,h.get? b=some o->h'.get? b=some o)->tn i h'
 item:∀ (X:Cx),X.prog=P->X.w=w->X.K=K->X.calm=true->∀ (i:Nat) (pins:List (Addr×Obj)) (s:Shared) (σ:St) (H:Hp) (E:Value->Shared->Prop),Inv X pins σ H s->(∀b∈fp,BH X pins H b)->tn i s.heap->J.go i H->
  wpAny (model P w) X.A (pyNext (.ref it)) (λr s1=>∃u,r=some u/\
   wpAny (model P w) X.A (letOwnedTupleGo tg (.ref it) u) (λ_ s2=>∃x H',Inv X pins σ H' s2/\RelV x u/\J.yld i H x H'/\tn (i+1) s2.heap/\∀b∈fp,H' b=none) E s1) E s
 done:∀ (X:Cx),X.prog=P->X.w=w->X.K=K->X.calm=true->∀ (i:Nat) (pins:List (Addr×Obj)) (s:Shared) (σ:St) (H:Hp) (E:Value->Shared->Prop),Inv X pins σ H s->(∀b∈fp,BH X pins H b)->tn i s.heap->J.stop i H->
  wpAny (model P w) X.A (pyNext (.ref it)) (λr s1=>r=none/\Inv X pins σ H s1) E s
 self:∀ (A:Around) (i:Nat) (s:Shared) (Q:Value->Shared->Prop) (E:Value->Shared->Prop),tn i s.heap->Q (.ref it) s->wpAny (model P w) A (pyIter (.ref it)) Q E s
abbrev TI:=St->Hp->(It->Hp->Prop)->Prop
def PIE(X:Cx)(pins:List (Addr×Obj))(σ:St)(tg:Expr)(R:It->Hp->Prop)(itv:Value)(s2:Shared):Prop:=
 ∃ (it:Addr) (fp:List Addr) (tn:Nat->Heap->Prop) (J:It) (H':Hp),itv= .ref it/\Inv X pins σ H' s2/\Turn X.prog X.w X.K tg J fp it tn/\tn 0 s2.heap/\(∀b∈fp,BH X pins H' b)/\R J H'
def PI(X:Cx)(tg iter:Expr)(wi:TI):Prop:=
 ∀ (pins:List (Addr×Obj)) (s:Shared) (σ:St) (H:Hp) (R:It->Hp->Prop),Inv X pins σ H s->wi σ H R->
   wpAny (model X.prog X.w) X.A (eval iter X.env) (λv s1=>wpAny (model X.prog X.w) X.A (pyIter v) (PIE X pins σ tg R) X.xe s1) X.xe s
theorem Eg{M:Model}{A:Around}{E:Value->Shared->Prop}{s:Shared}{tg:Expr}{it:Addr}{u:Value}{o:Obj}{n:String}{vs:Array Value}{Q:Unit->Shared->Prop}(ho:s.heap.get? it=some o)(hc:o.cls= .type n)(hd:o.data= .fields vs)
 (hn:["enumerate","zip","dict_itemiterator","dict_reverseitemiterator","odict_iterator","itertools.zip_longest","itertools.pairwise"].contains n=false) (hQ:Q () s):wpAny M A (letOwnedTupleGo tg (.ref it) u) Q E s:=by
 unfold letOwnedTupleGo
 cases tg<;>first
  |exact wpAny_pure hQ
  |(cases u<;>first
     |exact wpAny_pure hQ
     |(refine wpAny_bind (wpAny_load ho ?_)
       rw[hc,hd];show wpAny M A (if(["enumerate","zip","dict_itemiterator","dict_reverseitemiterator","odict_iterator","itertools.zip_longest","itertools.pairwise"].contains n&&vs[0]? ==some (rawInt _))=true then _ else _) Q E s;rw[if_neg (by intro h;rw[hn,Bool.false_and]at h;cases h)];exact wpAny_pure hQ))
def Itl(K:W.Frag)(a:Addr):It:=
 ⟨λi H=>∃xs x,SqL K H a xs/\xs[i]? =some x,λi H x H'=>H'=H/\∀xs,SqL K H a xs->xs[i]? =some x,λi H=>∃xs,SqL K H a xs/\xs.length<=i⟩
def Itr(lo:Int)(n:Nat):It:=⟨λi _=>i<n,λi H x H'=>H'=H/\x= .int (lo+i),λi _=>n<=i⟩
theorem OG{P:Program}{w:World}{K:W.Frag}{tg:Expr}(a it:Addr):Turn P w K tg (Itl K a) [it] it (λi h=>h.IsListIter it a i) where
 mem:=by simp
 obj:=λi h st b hb=>by
  have e:b=it:=by simpa using hb
  subst e;obtain⟨o,e,c,d⟩:=st;exact⟨o,e,λv z=>by rw[d]at z;cases z⟩
 keep:=λi h h' st k=>st.at λo e=>k it (by simp) o e
 item:=by
  intro X hP hw hK hc i pins s σ H E I hf st hg;subst hP hw hK;obtain⟨xs,x,hq,hx⟩:=hg;obtain⟨its,rv,p,hz⟩:=I.list hq;obtain⟨u,hu,ru⟩:=rv.get hx;obtain⟨f0,f1,f2,f3,f4,f5⟩:=hf it (by simp);refine wpAny_pyNext_list_item st p.isList (x:=u) (by simpa using hu) λh' st' sb=>?_;have I1:Inv X pins σ H {s with heap:=h'}:=I.turned (t':=s.toks) (λb o hb e=>(sb.2 b hb).trans e) f0 f1 f3 f4 f5;obtain⟨o,e,c,d⟩:=id st';exact⟨u,rfl,Eg (s:={s with heap:=h'}) e c d (by decide) ⟨x,H,I1,ru,⟨rfl,λys hy=>by rw[I.list_inj hy hq];exact hx⟩,st',λb hb=>(hf b hb).1⟩⟩
 done:=by
  intro X hP hw hK hc i pins s σ H E I hf st hg;subst hP hw hK;obtain⟨xs,hq,hx⟩:=hg;obtain⟨its,rv,p,hz⟩:=I.list hq;obtain⟨f0,f1,f2,f3,f4,f5⟩:=hf it (by simp);have hl:=rv.length;exact wpAny_pyNext_list_end (I.ok.hd hc) st p.isList (by simp;lia) λh' eb=>⟨rfl,I.turned (t':=s.toks) (λb o hb e=>eb b o hb e) f0 f1 f3 f4 f5⟩
 self:=λ_ _ _ _ _ st h=>wpAny_pyIter_listiter st h
theorem NX{P:Program}{w:World}{K:PySem.W.Frag}{tg:Expr}(it:Addr)(lo:Int)(n:Nat):Turn P w K tg (Itr lo n) [it] it (λi h=>IsRangeIter h it (lo+(i:Nat)*1) ((n:Int)-(i:Nat)) 1) where
 mem:=by simp
 obj:=λi h st b hb=>by
  have e:b=it:=by simpa using hb
  subst e;exact⟨_,st,λv z=>by
   have z':Data.fields _=Data.cell v:=z
   cases z'⟩
 keep:=λi h h' st k=>k it (by simp) _ st
 item:=by
  intro X hP hw hK hc i pins s σ H E I hf st hg;subst hP hw hK;obtain⟨f0,f1,f2,f3,f4,f5⟩:=hf it (by simp);have W:=Walks.range (prog:=X.prog) (w:=X.w) (I.ok.hd hc) it lo 1 n;refine W.item i s _ _ hg st λv h' tk hv st' kk=>?_;obtain⟨t,rfl⟩:=hv;have I1:Inv X pins σ H {s with heap:=h',toks:=tk}:=I.turned (λb o hb e=>kk b o (by simpa using hb) e) f0 f1 f3 f4 f5;refine⟨_,rfl,Eg (s:={s with heap:=h',toks:=tk}) (n:="range_iterator") st' rfl rfl (by decide) ⟨.int (lo+i),H,I1,⟨t,?_⟩,⟨rfl,rfl⟩,st',λb hb=>(hf b hb).1⟩⟩;rw[Int.mul_one]
 done:=by
  intro X hP hw hK hc i pins s σ H E I hf st hg;subst hP hw hK;obtain⟨f0,f1,f2,f3,f4,f5⟩:=hf it (by simp);exact wpAny_pyNext_range_end (I.ok.hd hc) st (by have:n<=i:=hg;lia) λh' eb=>⟨rfl,I.turned (t':=s.toks) (λb o hb e=>eb b o hb e) f0 f1 f3 f4 f5⟩
 self:=λ_ _ _ _ _ st h=>wpAny_pyIter_rangeiter st h
section
variable{X:Cx}{tg:Expr}
def GS(K:W.Frag)(tl:TE):TI:=λσ H R=>tl σ H λx H1=>∃a,x= .ref a/\(∃xs,SqL K H1 a xs)/\R (Itl K a) H1
theorem RM{l:Expr}{tl:TE}(hl:PE X l tl):PI X tg l (GS X.K tl):=by
 intro pins s σ H R I h;refine thn (hl pins s σ H _ I h) λv s1 z_=>?_;obtain⟨x,H1,I1,r1,q1⟩:=z_;obtain⟨a,e,⟨xs,hq⟩,q⟩:=q1;subst e
 cases r1
 obtain⟨its,rv,p,hz⟩:=I1.list hq;refine wpAny_pyIter_list p.isList ?_;refine⟨s1.heap.objs.size,[s1.heap.objs.size],_,_,H1,rfl,I1.kept (t':=s1.toks) λb o e=>Heap.get?_push_of_some _ e,OG a _,⟨_,Heap.get?_push_size _ rfl,rfl,rfl⟩,λb hb=>?_,q⟩;have e:b=s1.heap.objs.size:=by simpa using hb
 subst e;exact I1.fpOk (Nat.le_refl _) (I1.hok.fresh (Nat.le_refl _))
theorem Ig{pins:List (Addr×Obj)}{σ:St}{H:Hp}{s:Shared}{R:It->Hp->Prop}{E:Value->Shared->Prop}{lo hi:Int}{t u v:Tok}{tk:Nat}(I:Inv X pins σ H s)(h1: -(2^62)<=lo)(h2:lo<2^62)(h3: -(2^62)<=hi)(h4:hi<2^62)
 (q:R (Itr lo (hi-lo).toNat) H):wpAny (model X.prog X.w) X.A (pyIter (.ref s.heap.objs.size)) (PIE X pins σ tg R) E {s with heap:=s.heap.push {cls:= .type "range",data:= .fields #[.int lo t, .int hi u, .int 1 v]},toks:=tk}:=by
 refine wpAny_pyIter_range (IsRange.new ..) (small_one h1 h2 h3 h4) ?_;have I1:Inv X pins σ H {s with heap:=s.heap.push {cls:= .type "range",data:= .fields #[.int lo t, .int hi u, .int 1 v]},toks:=tk}:=I.kept λb o e=>Heap.get?_push_of_some _ e;refine⟨(s.heap.push {cls:= .type "range",data:= .fields #[.int lo t, .int hi u, .int 1 v]}).objs.size,[(s.heap.push {cls:= .type "range",data:= .fields #[.int lo t, .int hi u, .int 1 v]}).objs.size],_,_,H,rfl,
  I1.kept (t':=tk) λb o e=>Heap.get?_push_of_some _ e,NX _ lo (hi-lo).toNat,?_,λb hb=>?_,q⟩
 ·have e1:lo+((0:Nat):Int)*1=lo:=by simp
  have e2:(((hi-lo).toNat:Nat):Int)-((0:Nat):Int)=Builtin.Range.rangeSize lo hi 1:=by rw[rangeSize_one];split<;>lia
  show IsRangeIter _ _ (lo+((0:Nat):Int)*1) ((((hi-lo).toNat:Nat):Int)-((0:Nat):Int)) 1;rw[e1,e2];exact Heap.get?_push_size _ rfl
 ·have e:b=(s.heap.push {cls:= .type "range",data:= .fields #[.int lo t, .int hi u, .int 1 v]}).objs.size:=by simpa using hb
  subst e;exact I1.fpOk (Nat.le_refl _) (I1.hok.fresh (Nat.le_refl _))
def LE(ta:TA):TI:=λσ H R=>ta σ H λvs H1=>∃j:Int,vs=[.int j]/\ -(2^62)<=j/\j<2^62/\R (Itr 0 j.toNat) H1
def LD(ta:TA):TI:=λσ H R=>ta σ H λvs H1=>∃i j:Int,vs=[.int i, .int j]/\(-(2^62)<=i/\i<2^62/\ -(2^62)<=j/\j<2^62)/\R (Itr i (j-i).toNat) H1
theorem C9{a:Expr}{ta:TA}{p pos:Pos}(hg:Gl X "range")(hm:X.mg "range"=none)(ha:PA X [a] ta)(hs:starEach [a] X.env=[(false,eval a X.env)]:=by rfl):PI X tg (.Call (.Name "range" p) [a] [] pos) (LE ta):=by
 intro pins s σ H R I h;refine Call_ (Bn I hg hm boot_range (PyProof.Rows.callWith_type1 (thn (ha pos pins s σ H _ I h) λus s1 ⟨vs,H1,I1,r1,q1⟩=>?_) hs rfl));obtain⟨j,e,q1,q2,q⟩:=q1;subst e
 cases r1 with
 |cons r rr=>
  cases rr
  obtain⟨t,rfl⟩:=r;exact call_range_1 (Ig I1 (by lia) (by lia) q1 q2 (by simpa using q))
theorem ON{a b:Expr}{ta:TA}{p pos:Pos}(hg:Gl X "range")(hm:X.mg "range"=none)(ha:PA X [a,b] ta)(hs:starEach [a,b] X.env=[(false,eval a X.env),(false,eval b X.env)]:=by rfl)(hs2:starEach [b] X.env=[(false,eval b X.env)]:=by rfl):
 PI X tg (.Call (.Name "range" p) [a,b] [] pos) (LD ta):=by
 intro pins s σ H R I h;refine Call_ (Bn I hg hm boot_range (PyProof.Rows.callWith_type1 (thn (ha pos pins s σ H _ I h) λus s1 ⟨vs,H1,I1,r1,q1⟩=>?_) (by rw[hs,hs2]) (by rw[hs2];rfl)));obtain⟨i,j,e,⟨q1,q2,q3,q4⟩,q⟩:=q1;subst e
 cases r1 with
 |cons r rr=>
  cases rr with
  |cons r' rr=>
   cases rr
   obtain⟨t,rfl⟩:=r;obtain⟨t',rfl⟩:=r';exact call_range_2 (Ig I1 q1 q2 q3 q4 q)
def LZ(wi:TI)(g:TG)(tb:TS):TS:=λD σ H=>wi σ H λJ H1=>∃W:Nat->Nat->St->Hp->Prop,(∃m,W 0 m σ H1)/\∀i m σ H,W i m σ H->
 (J.stop i H/\D.nx σ H)\/(J.go i H/\∃N:St->Hp->Prop,(∀σ' H',N σ' H'->∃m',m'<m/\W (i+1) m' σ' H')/\∀x H',J.yld i H x H'->g x σ H' λσ2 H2=>tb {D with nx:=N,ct:=N,bk:=D.nx} σ2 H2)
def Cu(fp:List Addr)(h:Heap):List (Addr×Obj):=fp.filterMap λb=>(h.get? b).map λo=>(b,o)
theorem CQ{fp:List Addr}{h:Heap}{b:Addr}{o:Obj}(hb:b∈fp)(e:h.get? b=some o):(b,o)∈Cu fp h:=List.mem_filterMap.mpr ⟨b,hb,by rw[e];rfl⟩
theorem Oa{fp:List Addr}{h:Heap}{p:Addr×Obj}(hp:p∈Cu fp h):p.1∈fp/\h.get? p.1=some p.2:=by
 obtain⟨b,hb,e⟩:=List.mem_filterMap.mp hp
 cases q:h.get? b with
 |none=>rw[q]at e;cases e
 |some o=>
  rw[q]at e;have e':(b,o)=p:=Option.some.inj e;subst e';exact⟨hb,q⟩
theorem Inv.pinned{pins:List (Addr×Obj)}{σ:St}{H:Hp}{s:Shared}{fp:List Addr}(I:Inv X pins σ H s)(hf:∀b∈fp,BH X pins H b)(ho:∀b∈fp,∃o,s.heap.get? b=some o/\∀v,o.data≠ .cell v):Inv X (pins++Cu fp s.heap) σ H s:=
 I.pins_of λp hp=>(List.mem_append.mp hp).elim (λz=>I.pin p (List.mem_append_right _ z)) λz=>by
  obtain⟨hb,e⟩:=Oa z;obtain⟨f0,f1,f2,_⟩:=hf p.1 hb;obtain⟨o,e',d⟩:=ho p.1 hb;rw[e]at e';cases e';exact⟨e,f0,f1,f2,d⟩
theorem Inv.unpinned{pins pl:List (Addr×Obj)}{σ:St}{H:Hp}{s:Shared}(I:Inv X (pins++pl) σ H s):Inv X pins σ H s:=I.pins_of λp hp=>I.pin p (List.mem_append_right _ (List.mem_append_left _ hp))
theorem BI{iter:Expr}{body:List Stmt}{wi:TI}{g:TG}{tb:TS}{pos:Pos}(hp:PassesOwn (model X.prog X.w) X.A X.env X.xe)(hc:X.calm=true)(hi:PI X tg iter wi)(hg:PG X tg g)(hb:PSs X body tb)
 (hs:∀x,foldedSetIterable iter X.env x=pure x:=by intro _;rfl):PS X (.For tg iter body [] pos) (LZ wi g tb):=by
 intro pins s σ H D I h;refine wpAny_For (thn (hi pins s σ H _ I h) λv s1 h1=>thn h1 λitv s2 h2=>?_) hs;obtain⟨it,fp,tn,J,H2,e,I2,T,st2,f2,W,⟨m0,w0⟩,turn⟩:=h2;subst e;have stat:∀ {H':Hp},(∀b∈fp,H' b=none)->∀b∈fp,BH X pins H' b:=λhn b hb=>⟨hn b hb,(f2 b hb).2⟩;refine codeAny_forLoop_any (λn s'=>∃i σ' H',Inv X pins σ' H' s'/\tn i s'.heap/\(∀b∈fp,H' b=none)/\W i n σ' H') ?_ m0 ⟨0,σ,H2,I2,st2,λb hb=>(f2 b hb).1,w0⟩;rintro n s3 ⟨i,σ3,H3,I3,st3,fr3,w3⟩;rcases turn i n σ3 H3 w3 with⟨stop,qn⟩|⟨go,N,hN,step⟩
 ·refine wpAny_passesOwn hp (thn (T.done X rfl rfl rfl hc i pins s3 σ3 H3 X.xe I3 (stat fr3) st3 stop) λr s4 z_=>?_);obtain⟨hr,I4⟩:=z_;subst hr;exact wpAny_execs_nil ⟨σ3,H3,I4,qn⟩
 ·refine wpAny_passesOwn hp (thn (T.item X rfl rfl rfl hc i pins s3 σ3 H3 X.xe I3 (stat fr3) st3 go) λr s4 z_=>?_);obtain⟨u,hr,h4⟩:=z_;subst hr;refine wpAny_passesOwn hp (thn h4 λ_ s5 z_=>?_);obtain⟨x,H5,I5,r5,y5,st5,fr5⟩:=z_;have I5':=I5.pinned (stat fr5) (T.obj _ _ st5);refine wpAny_passesOwn hp (thn (hg _ s5 σ3 H5 x u _ I5' r5 (step x H5 y5)) λ_ s6 z_=>?_);obtain⟨σ6,H6,I6,q6⟩:=z_;refine wpAny_passesOwn hp (thn (hb _ s6 σ6 H6 _ I6 q6) λf s7 q7=>?_);have again:∀ {σ7:St} {H7:Hp},Inv X (pins++Cu fp s5.heap) σ7 H7 s7->N σ7 H7->∃m,m<n/\∃i σ' H',Inv X pins σ' H' s7/\tn i s7.heap/\(∀b∈fp,H' b=none)/\W i m σ' H':=fun{σ7 H7} I7 n7=>by
   obtain⟨m',hm,w7⟩:=hN σ7 H7 n7;refine⟨m',hm,i+1,σ7,H7,I7.unpinned,T.keep _ _ _ st5 λb hb o e=>(I7.pin (b,o) (List.mem_append_right _ (List.mem_append_right _ (CQ hb e)))).1,λb hb=>?_,w7⟩;obtain⟨o,e,d⟩:=T.obj _ _ st5 b hb;exact(I7.pin (b,o) (List.mem_append_right _ (List.mem_append_right _ (CQ hb e)))).2.1
  cases f with
  |next=>obtain⟨σ7,H7,I7,n7⟩:=q7;exact again I7 n7
  |cont=>obtain⟨σ7,H7,I7,n7⟩:=q7;exact again I7 n7
  |brk=>obtain⟨σ7,H7,I7,q7⟩:=q7;exact⟨σ7,H7,I7.unpinned,q7⟩
  |ret v=>obtain⟨x7,σ7,H7,I7,r7,q7⟩:=q7;exact⟨x7,σ7,H7,I7.unpinned,r7,q7⟩
end
theorem QO{K:PySem.W.Frag}{a:Addr}{xs:List V}{g:TG}{tb:TS}{D:Ends}{σ:St}{H:Hp}(Pv:Nat->St->Hp->Prop)(h0:Pv 0 σ H)(hl:∀i σ H,i<=xs.length->Pv i σ H->SqL K H a xs)
 (hs:∀i x σ H,xs[i]? =some x->Pv i σ H->g x σ H λσ2 H2=>tb {D with nx:=Pv (i+1),ct:=Pv (i+1),bk:=D.nx} σ2 H2) (hd:∀σ H,Pv xs.length σ H->D.nx σ H):
 ∃W:Nat->Nat->St->Hp->Prop,(∃m,W 0 m σ H)/\∀i m σ H,W i m σ H->
  ((Itl K a).stop i H/\D.nx σ H)\/((Itl K a).go i H/\∃N:St->Hp->Prop,(∀σ' H',N σ' H'->∃m',m'<m/\W (i+1) m' σ' H')/\∀x H',(Itl K a).yld i H x H'->g x σ H' λσ2 H2=>tb {D with nx:=N,ct:=N,bk:=D.nx} σ2 H2):=by
 refine⟨λi m σ H=>m=xs.length-i/\i<=xs.length/\Pv i σ H,⟨xs.length,by simp,Nat.zero_le _,h0⟩,?_⟩;rintro i m σ H ⟨rfl,hi,p⟩;have q:=hl i σ H hi p
 by_cases hlt:i<xs.length
 ·refine .inr ⟨⟨xs,xs[i],q,by simp[hlt]⟩,Pv (i+1),λσ' H' p'=>⟨xs.length-(i+1),by lia,rfl,hlt,p'⟩,λx H' y=>?_⟩;obtain⟨e,y⟩:=y;subst e;exact hs i x σ _ (y xs q) p
 ·have e:i=xs.length:=by lia
  subst e;exact .inl ⟨⟨xs,q,Nat.le_refl _⟩,hd σ H p⟩
theorem O0{lo:Int}{n:Nat}{g:TG}{tb:TS}{D:Ends}{σ:St}{H:Hp}(Pv:Nat->St->Hp->Prop)(h0:Pv 0 σ H)
 (hs:∀i σ H,i<n->Pv i σ H->g (.int (lo+i)) σ H λσ2 H2=>tb {D with nx:=Pv (i+1),ct:=Pv (i+1),bk:=D.nx} σ2 H2) (hd:∀σ H,Pv n σ H->D.nx σ H):
 ∃W:Nat->Nat->St->Hp->Prop,(∃m,W 0 m σ H)/\∀i m σ H,W i m σ H->
  ((Itr lo n).stop i H/\D.nx σ H)\/((Itr lo n).go i H/\∃N:St->Hp->Prop,(∀σ' H',N σ' H'->∃m',m'<m/\W (i+1) m' σ' H')/\∀x H',(Itr lo n).yld i H x H'->g x σ H' λσ2 H2=>tb {D with nx:=N,ct:=N,bk:=D.nx} σ2 H2):=by
 refine⟨λi m σ H=>m=n-i/\i<=n/\Pv i σ H,⟨n,by simp,Nat.zero_le _,h0⟩,?_⟩;rintro i m σ H ⟨rfl,hi,p⟩
 by_cases hlt:i<n
 ·refine .inr ⟨hlt,Pv (i+1),λσ' H' p'=>⟨n-(i+1),by lia,rfl,hlt,p'⟩,λx H' y=>?_⟩;obtain⟨e,y⟩:=y;subst e y;exact hs i σ _ hlt p
 ·have e:i=n:=by lia
  subst e;exact .inl ⟨Nat.le_refl _,hd σ H p⟩
abbrev R2:=V->V->Hp->VK->Prop
def OpR(X:Cx)(f:Value->Value->Sem Value)(r:R2):Prop:=
 ∀ (pins:List (Addr×Obj)) (s:Shared) (σ:St) (H:Hp) (x y:V) (v u:Value) (Q:VK),Inv X pins σ H s->RelV x v->RelV y u->r x y H Q->
   wpAny (model X.prog X.w) X.A (f v u) (EP X pins σ Q) X.xe s
def UnR(X:Cx)(f:Value->Sem Value)(r:V->Hp->VK->Prop):Prop:=
 ∀ (pins:List (Addr×Obj)) (s:Shared) (σ:St) (H:Hp) (x:V) (v:Value) (Q:VK),Inv X pins σ H s->RelV x v->r x H Q->
   wpAny (model X.prog X.w) X.A (f v) (EP X pins σ Q) X.xe s
def CallR(X:Cx)(f:Value)(r:List V->Hp->VK->Prop):Prop:=
 ∀ (pins:List (Addr×Obj)) (s:Shared) (σ:St) (H:Hp) (xs:List V) (us:List Value) (Q:VK),Inv X pins σ H s->Vals xs us->r xs H Q->
   wpAny (model X.prog X.w) X.A (call f us) (EP X pins σ Q) X.xe s
def Vo(X:Cx)(r:V->Hp->(Bool->Hp->Prop)->Prop):Prop:=
 ∀ (pins:List (Addr×Obj)) (s:Shared) (σ:St) (H:Hp) (x:V) (v:Value) (Q:Bool->Hp->Prop),Inv X pins σ H s->RelV x v->r x H Q->
   wpAny (model X.prog X.w) X.A (truthy v) (TP X pins σ Q) X.xe s
def tOp(r:R2)(ta tb:TE):TE:=λσ H Q=>ta σ H λx H1=>tb σ H1 λy H2=>r x y H2 Q
def tUn(r:V->Hp->VK->Prop)(ta:TE):TE:=λσ H Q=>ta σ H λx H1=>r x H1 Q
def rI(C:Int->Int->Prop)(g:Int->Int->V):R2:=λx y H Q=>∃i j,x= .int i/\y= .int j/\C i j/\Q (g i j) H
def rI0(g:Int->Int->V):R2:=λx y H Q=>∃i j,x= .int i/\y= .int j/\Q (g i j) H
def rU(g:Int->V):V->Hp->VK->Prop:=λx H Q=>∃i,x= .int i/\Q (g i) H
section
variable{X:Cx}{a b c:Expr}{ta tb tc:TE}{pos:Pos}
theorem Gi(ha:PE X a ta)(hb:PE X b tb){pins:List (Addr×Obj)}{s:Shared}{σ:St}{H:Hp}{R:V->V->Hp->Prop}(I:Inv X pins σ H s)
 (h:ta σ H λx H1=>tb σ H1 λy H2=>R x y H2) {Q:Value->Shared->Prop} {f:Value->Value->Sem Value}
 (hf:∀v u s2 x y H2,Inv X pins σ H2 s2->RelV x v->RelV y u->R x y H2->wpAny (model X.prog X.w) X.A (f v u) Q X.xe s2):
 wpAny (model X.prog X.w) X.A (eval a X.env) (λv s₁=>wpAny (model X.prog X.w) X.A (eval b X.env) (λu s₂=>wpAny (model X.prog X.w) X.A (f v u) Q X.xe s₂) X.xe s₁) X.xe s:=by
 refine thn (ha pins s σ H _ I h) λv s1 ⟨x,H1,I1,r1,q1⟩=>?_;refine thn (hb pins s1 σ H1 _ I1 q1) λu s2 ⟨y,H2,I2,r2,q2⟩=>?_;exact hf v u s2 x y H2 I2 r1 r2 q2
theorem AJ{op:Operator}{r:R2}(ho:OpR X (binaryOp op) r)(ha:PE X a ta)(hb:PE X b tb):PE X (.BinOp a op b pos) (tOp r ta tb):=by
 intro pins s σ H Q I h;exact wpAny_BinOp (Gi ha hb I h λv u s2 x y H2 I2 rx ry q=>ho pins s2 σ H2 x y v u Q I2 rx ry q)
theorem Bo{op:UnaryOp}{r:V->Hp->VK->Prop}(ho:UnR X (unaryOp op) r)(ha:PE X a ta):PE X (.UnaryOp op a pos) (tUn r ta):=by
 intro pins s σ H Q I h;exact UnaryOp_ (thn (ha pins s σ H _ I h) λv s1 ⟨x,H1,I1,r1,q1⟩=>ho pins s1 σ H1 x v Q I1 r1 q1)
theorem opI{f:Value->Value->Sem Value}{C:Int->Int->Prop}{g:Int->Int->Int}
 (rule:∀ (i j:Int) (t u:Tok) (s:Shared) (Q:Value->Shared->Prop) (E:Value->Shared->Prop),C i j->Q (.int (g i j) s.toks) {s with toks:=s.toks+1}->wpAny (model X.prog X.w) X.A (f (.int i t) (.int j u)) Q E s):
 OpR X f (rI C λi j=> .int (g i j)):=by
 intro pins s σ H x y v u Q I rx ry h;obtain⟨i,j,rfl,rfl,hc,q⟩:=h;obtain⟨t,rfl⟩:=rx;obtain⟨t',rfl⟩:=ry;exact rule i j t t' s _ _ hc ⟨.int (g i j),H,I.tok _,⟨_,rfl⟩,q⟩
theorem Lm{f:Value->Value->Sem Value}{g:Int->Int->Int}
 (rule:∀ (i j:Int) (t u:Tok) (s:Shared) (Q:Value->Shared->Prop) (E:Value->Shared->Prop),Q (.int (g i j) s.toks) {s with toks:=s.toks+1}->wpAny (model X.prog X.w) X.A (f (.int i t) (.int j u)) Q E s):
 OpR X f (rI0 λi j=> .int (g i j)):=by
 intro pins s σ H x y v u Q I rx ry h;obtain⟨i,j,rfl,rfl,q⟩:=h;obtain⟨t,rfl⟩:=rx;obtain⟨t',rfl⟩:=ry;exact rule i j t t' s _ _ ⟨.int (g i j),H,I.tok _,⟨_,rfl⟩,q⟩
theorem Eo{f:Value->Value->Sem Value}{g:Int->Int->Bool}
 (rule:∀ (i j:Int) (t u:Tok) (s:Shared) (Q:Value->Shared->Prop) (E:Value->Shared->Prop),Q (.bool (g i j)) s->wpAny (model X.prog X.w) X.A (f (.int i t) (.int j u)) Q E s):
 OpR X f (rI0 λi j=> .bl (g i j)):=by
 intro pins s σ H x y v u Q I rx ry h;obtain⟨i,j,rfl,rfl,q⟩:=h;obtain⟨t,rfl⟩:=rx;obtain⟨t',rfl⟩:=ry;exact rule i j t t' s _ _ ⟨.bl (g i j),H,I,rfl,q⟩
def Vq(i j:Int):Prop:=0<j/\j<1073741824
def L6(i j:Int):Prop:=0<=j/\j<=1000000/\i.natAbs<2^64
def CMul(i j:Int):Prop:=(-(2^64)<i/\i<2^64)\/(-(2^64)<j/\j<2^64)
theorem CMul.ok{i j:Int}(h:CMul i j):IntMulOk i j:=by
 rcases h with⟨h1,h2⟩|⟨h1,h2⟩
 ·exact .of_left (intBits_le_64 h1 h2)
 ·exact .of_right (intBits_le_64 h1 h2)
theorem op_add:OpR X (binaryOp .Add) (rI0 λi j=> .int (i+j)):=Lm λ_ _ _ _ _ _ _ q=>add_int q
theorem Tc:OpR X (binaryOp .Sub) (rI0 λi j=> .int (i-j)):=Lm λ_ _ _ _ _ _ _ q=>sub_int q
theorem op_mul:OpR X (binaryOp .Mult) (rI CMul λi j=> .int (i*j)):=opI λ_ _ _ _ _ _ _ hc q=>mul_int q hc.ok
theorem Jm:OpR X (binaryOp .FloorDiv) (rI Vq λi j=> .int (i/j)):=opI λi j _ _ _ _ _ hc q=>by
 have h1:(0:Int)<j:=hc.1;have h2:j<1073741824:=hc.2;exact floordiv_int (by lia) (by rw[Int.fdiv_eq_ediv_of_nonneg i (by lia)];exact q) (.inl (PyProof.noPylong_small (by lia)))
theorem DE:OpR X (binaryOp .Mod) (rI (λ_ j=>0<j) λi j=> .int (i%j)):=opI λi j _ _ _ _ _ hc q=>by
 have h1:(0:Int)<j:=hc;exact mod_int' (by lia) (by rw[Int.fmod_eq_emod_of_nonneg i (by lia)];exact q)
theorem Td:OpR X (binaryOp .Pow) (rI L6 λi j=> .int (i^j.toNat)):=opI λ_ _ _ _ _ _ _ hc q=>pow_int_small hc.1 hc.2.1 hc.2.2 q
theorem unI{f:Value->Sem Value}{g:Int->Int}
 (rule:∀ (i:Int) (t:Tok) (s:Shared) (Q:Value->Shared->Prop) (E:Value->Shared->Prop),Q (.int (g i) s.toks) {s with toks:=s.toks+1}->wpAny (model X.prog X.w) X.A (f (.int i t)) Q E s):
 UnR X f (rU λi=> .int (g i)):=by
 intro pins s σ H x v Q I rx h;obtain⟨i,rfl,q⟩:=h;obtain⟨t,rfl⟩:=rx;exact rule i t s _ _ ⟨.int (g i),H,I.tok _,⟨_,rfl⟩,q⟩
theorem Bm:UnR X (unaryOp .USub) (rU λi=> .int (-i)):=unI λ_ _ _ _ _ q=>neg_int q
end
def Lf:V->V->Bool
 | .non, .non=>true| .non, .int _=>true| .int _, .non=>true| .non, .bl _=>true| .bl _, .non=>true| .non, .str _=>true| .str _, .non=>true
 | .int _, .int _=>true| .bl _, .bl _=>true| .str _, .str _=>true| .byt _, .byt _=>true
 | .int _, .str _=>true| .str _, .int _=>true| .bl _, .str _=>true| .str _, .bl _=>true
 |_,_=>false
def rEq:R2:=λx y H Q=>Lf x y=true/\Q (.bl (decide (x=y))) H
def rNe:R2:=λx y H Q=>Lf x y=true/\Q (.bl (!decide (x=y))) H
theorem EU{i j:Int}:decide (V.int i=V.int j)=(i==j):=by
 rw[Bool.eq_iff_iff];simp
theorem Kj{i j:Bool}:decide (V.bl i=V.bl j)=(i==j):=by
 rw[Bool.eq_iff_iff];simp
theorem Jw{i j:Str}:decide (V.str i=V.str j)=(i==j):=by
 rw[Bool.eq_iff_iff];simp
theorem Jx{i j:Array UInt8}:decide (V.byt i=V.byt j)=(i.toList==j.toList):=by
 rw[Bool.eq_iff_iff]
 cases i
 cases j
 simp
section
variable{X:Cx}{a b c:Expr}{ta tb tc:TE}{pos:Pos}
theorem AZ{pins:List (Addr×Obj)}{σ:St}{H:Hp}{s:Shared}{Q:VK}{k k':Bool}(I:Inv X pins σ H s)(q:Q (.bl k) H)(e:k=k'):EP X pins σ Q (.bool k') s:=by
 subst e;exact⟨.bl k,H,I,rfl,q⟩
theorem op_eq:OpR X (compareOp .Eq) rEq:=by
 intro pins s σ H x y v u Q I rx ry h;obtain⟨hs,q⟩:=h
 cases x with
 |non=>
  cases rx
  cases y with
  |non=>cases ry;exact PySem.EqNone.eq_none_none (AZ I q (by simp))
  |bl j=>cases ry;exact PySem.EqNone.eq_none_bool (AZ I q (by simp))
  |int j=>obtain⟨t',rfl⟩:=ry;exact PySem.EqNone.eq_none_int (AZ I q (by simp))
  |str j=>obtain⟨t',rfl⟩:=ry;exact PySem.EqNone.eq_none_str (AZ I q (by simp))
  |_=>exact absurd (show false=true from hs) Bool.false_ne_true
 |bl i=>
  cases rx
  cases y with
  |non=>cases ry;exact PySem.EqNone.eq_bool_none (AZ I q (by simp))
  |bl j=>cases ry;exact eq_bool (AZ I q Kj)
  |str j=>obtain⟨t',rfl⟩:=ry;exact PySem.EqMixed.eq_bool_str (AZ I q (by simp))
  |_=>exact absurd (show false=true from hs) Bool.false_ne_true
 |int i=>
  obtain⟨t,rfl⟩:=rx
  cases y with
  |non=>cases ry;exact PySem.EqNone.eq_int_none (AZ I q (by simp))
  |int j=>obtain⟨t',rfl⟩:=ry;exact eq_int (AZ I q EU)
  |str j=>obtain⟨t',rfl⟩:=ry;exact PySem.EqMixed.eq_int_str (AZ I q (by simp))
  |_=>exact absurd (show false=true from hs) Bool.false_ne_true
 |str i=>
  obtain⟨t,rfl⟩:=rx
  cases y with
  |non=>cases ry;exact PySem.EqNone.eq_str_none (AZ I q (by simp))
  |bl j=>cases ry;exact PySem.EqMixed.eq_str_bool (AZ I q (by simp))
  |int j=>obtain⟨t',rfl⟩:=ry;exact PySem.EqMixed.eq_str_int (AZ I q (by simp))
  |str j=>obtain⟨t',rfl⟩:=ry;exact eq_str (AZ I q Jw)
  |_=>exact absurd (show false=true from hs) Bool.false_ne_true
 |byt i=>
  obtain⟨t,rfl⟩:=rx
  cases y with
  |byt j=>obtain⟨t',rfl⟩:=ry;exact W.eq_bytes (AZ I q Jx)
  |_=>exact absurd (show false=true from hs) Bool.false_ne_true
 |_=>cases y<;>exact absurd (show false=true from hs) Bool.false_ne_true
theorem op_ne:OpR X (compareOp .NotEq) rNe:=by
 intro pins s σ H x y v u Q I rx ry h;obtain⟨hs,q⟩:=h
 cases x with
 |non=>
  cases rx
  cases y with
  |non=>cases ry;exact PySem.EqNone.ne_none_none (AZ I q (by simp))
  |bl j=>cases ry;exact PySem.EqNone.ne_none_bool (AZ I q (by simp))
  |int j=>obtain⟨t',rfl⟩:=ry;exact PySem.EqNone.ne_none_int (AZ I q (by simp))
  |str j=>obtain⟨t',rfl⟩:=ry;exact PySem.EqNone.ne_none_str (AZ I q (by simp))
  |_=>exact absurd (show false=true from hs) Bool.false_ne_true
 |bl i=>
  cases rx
  cases y with
  |non=>cases ry;exact PySem.EqNone.ne_bool_none (AZ I q (by simp))
  |bl j=>cases ry;exact ne_bool (AZ I q (congrArg not Kj))
  |str j=>obtain⟨t',rfl⟩:=ry;exact PySem.EqMixed.ne_bool_str (AZ I q (by simp))
  |_=>exact absurd (show false=true from hs) Bool.false_ne_true
 |int i=>
  obtain⟨t,rfl⟩:=rx
  cases y with
  |non=>cases ry;exact PySem.EqNone.ne_int_none (AZ I q (by simp))
  |int j=>obtain⟨t',rfl⟩:=ry;exact ne_int (AZ I q (congrArg not EU))
  |str j=>obtain⟨t',rfl⟩:=ry;exact PySem.EqMixed.ne_int_str (AZ I q (by simp))
  |_=>exact absurd (show false=true from hs) Bool.false_ne_true
 |str i=>
  obtain⟨t,rfl⟩:=rx
  cases y with
  |non=>cases ry;exact PySem.EqNone.ne_str_none (AZ I q (by simp))
  |bl j=>cases ry;exact PySem.EqMixed.ne_str_bool (AZ I q (by simp))
  |int j=>obtain⟨t',rfl⟩:=ry;exact PySem.EqMixed.ne_str_int (AZ I q (by simp))
  |str j=>obtain⟨t',rfl⟩:=ry;exact ne_str (AZ I q (congrArg not Jw))
  |_=>exact absurd (show false=true from hs) Bool.false_ne_true
 |byt i=>
  obtain⟨t,rfl⟩:=rx
  cases y with
  |byt j=>obtain⟨t',rfl⟩:=ry;exact W.ne_bytes (AZ I q (congrArg not Jx))
  |_=>exact absurd (show false=true from hs) Bool.false_ne_true
 |_=>cases y<;>exact absurd (show false=true from hs) Bool.false_ne_true
theorem GR:OpR X (compareOp .Lt) (rI0 λi j=> .bl (decide (i<j))):=Eo λ_ _ _ _ _ _ _ q=>lt_int q
theorem Cz:OpR X (compareOp .LtE) (rI0 λi j=> .bl (decide (i<=j))):=Eo λ_ _ _ _ _ _ _ q=>le_int q
theorem CM:OpR X (compareOp .Gt) (rI0 λi j=> .bl (decide (j<i))):=Eo λ_ _ _ _ _ _ _ q=>gt_int q
theorem VA:OpR X (compareOp .GtE) (rI0 λi j=> .bl (decide (j<=i))):=Eo λ_ _ _ _ _ _ _ q=>ge_int q
theorem OW:OpR X (compareOp .In) (λx y H Q=>∃i j,x= .str i/\y= .str j/\Q (.bl (!(Builtin.Str.occurrences j i 0 j.length 1).isEmpty)) H):=by
 intro pins s σ H x y v u Q I rx ry h;obtain⟨i,j,rfl,rfl,q⟩:=h;obtain⟨t,rfl⟩:=rx;obtain⟨t',rfl⟩:=ry;exact in_str (AZ I q rfl)
theorem Ml:OpR X (compareOp .NotIn) (λx y H Q=>∃i j,x= .str i/\y= .str j/\Q (.bl (!(!(Builtin.Str.occurrences j i 0 j.length 1).isEmpty))) H):=by
 intro pins s σ H x y v u Q I rx ry h;obtain⟨i,j,rfl,rfl,q⟩:=h;obtain⟨t,rfl⟩:=rx;obtain⟨t',rfl⟩:=ry;exact notIn_str (AZ I q rfl)
theorem OpR.or{f:Value->Value->Sem Value}{r r':R2}(h:OpR X f r)(h':OpR X f r'):OpR X f (λx y H Q=>r x y H Q\/r' x y H Q):=by
 intro pins s σ H x y v u Q I rx ry q;rcases q with q|q
 ·exact h pins s σ H x y v u Q I rx ry q
 ·exact h' pins s σ H x y v u Q I rx ry q
theorem Ka(b:Expr){op:CmpOp}(h:op≠ .In:=by decide)(h2:op≠ .NotIn:=by decide):behindInMarks op b=false:=by
 have e1:(op==CmpOp.In)=false:=by cases op<;>first|rfl|exact absurd rfl h
 have e2:(op==CmpOp.NotIn)=false:=by cases op<;>first|rfl|exact absurd rfl h2
 cases b<;>simp[behindInMarks,e1,e2]
theorem RU{op:CmpOp}{r:R2}(ho:OpR X (compareOp op) r)(ha:PE X a ta)(hb:PE X b tb)(hm:behindInMarks op b=false):PE X (.Compare a [op] [b] pos) (tOp r ta tb):=by
 intro pins s σ H Q I h;exact wpAny_Compare1 (Gi ha hb I h λv u s2 x y H2 I2 rx ry q=>ho pins s2 σ H2 x y v u Q I2 rx ry q) hm
def DI(t:TE):TT:=λσ H Q=>t σ H λx H'=>∃k,x= .bl k/\Q k H'
theorem RH{op:CmpOp}{r:R2}(ho:OpR X (compareOp op) r)(ha:PE X a ta)(hb:PE X b tb)(hm:behindInMarks op b=false):PT X (.Compare a [op] [b] pos) (DI (tOp r ta tb)):=by
 intro pins s σ H Q I h;refine wpAny_isTrue_Compare1 (thn (ha pins s σ H _ I h) λv s1 ⟨x,H1,I1,r1,q1⟩=>thn (hb pins s1 σ H1 _ I1 q1) λu s2 ⟨y,H2,I2,r2,q2⟩=>
  thn (ho pins s2 σ H2 x y v u _ I2 r1 r2 q2) λc s3 ⟨z,H3,I3,r3,k,e,q3⟩=>?_) hm
 subst e
 cases r3
 exact wpAny_truthy_bool ⟨H3,I3,q3⟩
def Fw(r r':R2)(ta tb tc:TE):TE:=λσ H Q=>ta σ H λx H1=>tb σ H1 λy H2=>r x y H2 λz H3=>∃k,z= .bl k/\
 (if k=true then tc σ H3 λw' H4=>r' y w' H4 Q else Q (.bl false) H3)
theorem P3{op op':CmpOp}{r r':R2}(ho:OpR X (compareOp op) r)(ho':OpR X (compareOp op') r')(ha:PE X a ta)(hb:PE X b tb)(hc:PE X c tc)
 (hm:lastMarks [op,op'] [b,c]=false:=by with_unfolding_all rfl):PE X (.Compare a [op,op'] [b,c] pos) (Fw r r' ta tb tc):=by
 intro pins s σ H Q I h;refine Compare_chain (thn (ha pins s σ H _ I h) λv s1 ⟨x,H1,I1,r1,q1⟩=>chain_link (thn (hb pins s1 σ H1 _ I1 q1) λu s2 ⟨y,H2,I2,r2,q2⟩=>
  thn (ho pins s2 σ H2 x y v u _ I2 r1 r2 q2) λd s3 ⟨z,H3,I3,r3,k,e,q3⟩=>?_)) hm
 subst e
 cases r3
 refine wpAny_truthy_bool ?_
 cases k with
 |false=>exact ite_ff ⟨.bl false,H3,I3,rfl,q3⟩
 |true=>exact ite_tt (chain_last (thn (hc pins s3 σ H3 _ I3 q3) λw' s4 ⟨z',H4,I4,r4,q4⟩=>ho' pins s4 σ H4 y z' u w' Q I4 r2 r4 q4))
theorem FM{op op':CmpOp}{r r':R2}(ho:OpR X (compareOp op) r)(ho':OpR X (compareOp op') r')(ha:PE X a ta)(hb:PE X b tb)(hc:PE X c tc)
 (hm:lastMarks [op,op'] [b,c]=false:=by with_unfolding_all rfl):PT X (.Compare a [op,op'] [b,c] pos) (DI (Fw r r' ta tb tc)):=by
 intro pins s σ H Q I h;refine isTrue_chain (thn (ha pins s σ H _ I h) λv s1 ⟨x,H1,I1,r1,q1⟩=>test_link (thn (hb pins s1 σ H1 _ I1 q1) λu s2 ⟨y,H2,I2,r2,q2⟩=>
  thn (ho pins s2 σ H2 x y v u _ I2 r1 r2 q2) λd s3 ⟨z,H3,I3,r3,k,e,q3⟩=>?_)) hm
 subst e
 cases r3
 refine wpAny_truthy_bool ?_
 cases k with
 |false=>
  obtain⟨k',e',q'⟩:=q3
  cases e'
  exact ite_ff ⟨H3,I3,q'⟩
 |true=>
  refine ite_tt (test_last (thn (hc pins s3 σ H3 _ I3 q3) λw' s4 ⟨z',H4,I4,r4,q4⟩=>thn (ho' pins s4 σ H4 y z' u w' _ I4 r2 r4 q4) λd' s5 z_=>?_));obtain⟨z2,H5,I5,r5,k2,e2,q5⟩:=z_;subst e2
  cases r5
  exact wpAny_truthy_bool ⟨H5,I5,q5⟩
def C7(K:W.Frag)(x:V)(H:Hp)(k:Bool):Prop:=
 match x with
 | .non=>k=false
 | .bl b=>k=b
 | .int i=>k=(i !=0)
 | .str y=>y.length<=sizeLine/\k=((y.length:Int) !=0)
 | .byt y=>y.size<=sizeLine/\k=((y.size:Int) !=0)
 | .ref p=>(∃xs,SqL K H p xs/\k= !xs.isEmpty)\/(∃xs,SqT K H p xs/\k= !xs.isEmpty)\/∃kvs,H p=some (.dK kvs)/\k= !kvs.isEmpty
 |_=>False
theorem Nz{κ:Type}{kvs:List (κ×V)}{vs:List (κ×Value)}(r:KV kvs vs):(!vs.isEmpty)= !kvs.isEmpty:=by
 cases r<;>rfl
theorem HR{xs:List V}{its:List Value}(r:Vals xs its):(!its.toArray.isEmpty)= !xs.isEmpty:=by
 cases r<;>simp
theorem Ca:(sizeLine:Nat)<2^63:=by rw[sizeLine_eq];decide
theorem R4:Vo X (λx H Q=>∃k,C7 X.K x H k/\Q k H):=by
 intro pins s σ H x v Q I rx h;obtain⟨k,e,q⟩:=h;have hl:=Ca;have hs:sizeLine=16777216:=sizeLine_eq
 cases x with
 |non=>
  cases rx
  have e':k=false:=e;subst e';exact truthy_none ⟨H,I,q⟩
 |bl b=>
  cases rx
  have e':k=b:=e;subst e';exact wpAny_truthy_bool ⟨H,I,q⟩
 |int i=>
  obtain⟨t,rfl⟩:=rx;have e':k=(i !=0):=e;subst e';exact PySem.P.truthy_int ⟨H,I,q⟩
 |str y=>
  obtain⟨t,rfl⟩:=rx;obtain⟨hy,e'⟩:y.length<=sizeLine/\k=((y.length:Int) !=0):=e;subst e';exact PySem.P.truthy_str (by lia) ⟨H,I.tok _,q⟩
 |byt y=>
  obtain⟨t,rfl⟩:=rx;obtain⟨hy,e'⟩:y.size<=sizeLine/\k=((y.size:Int) !=0):=e;subst e';exact W.truthy_bytes (by lia) ⟨H,I.tok _,q⟩
 |ref p=>
  cases rx
  have e':(∃xs,SqL X.K H p xs/\k= !xs.isEmpty)\/(∃xs,SqT X.K H p xs/\k= !xs.isEmpty)\/∃kvs,H p=some (.dK kvs)/\k= !kvs.isEmpty:=e;rcases e' with⟨xs,hx,e'⟩|⟨xs,hx,e'⟩|⟨kvs,hx,e'⟩
  ·subst e';obtain⟨its,r,pl,hz⟩:=I.list hx;have hlen:=r.length;exact wpAny_truthy_list pl.isList (by simp only[List.size_toArray];lia) ⟨H,I.tok _,by rw[HR r];exact q⟩
  ·subst e';obtain⟨its,r,pl,hz⟩:=I.tuple hx;have hlen:=r.length;exact truthy_tuple pl (by simp only[List.size_toArray];lia) ⟨H,I.tok _,by rw[HR r];exact q⟩
  ·subst e';obtain⟨hz,hS,vs,r,m⟩:kvs.length<=sizeLine/\(p==sysModules)=false/\∃vs,KV kvs vs/\s.heap.DictOf (Au X.prog X.w) p vs:=I.hok p _ hx;have hlen:kvs.length=vs.length:=Paired.length r;exact wpAny_truthy_dict hS m (by lia) ⟨H,I.tok _,by rw[Nz r];exact q⟩
 |_=>exact(show False from e).elim
theorem Pm(ha:PE X a ta)(he:∀whole,isTrue a X.env whole=(do let v<-whole;standAt a.pos;holding [v] (truthy v))):
 PT X a (λσ H Q=>ta σ H λx H'=>∃k,C7 X.K x H' k/\Q k H'):=by
 intro pins s σ H Q I h;exact isTrue_plain (thn (ha pins s σ H _ I h) λv s1 ⟨x,H1,I1,r1,q1⟩=>R4 pins s1 σ H1 x v Q I1 r1 q1) (he _)
theorem Nm:OpR X (binaryOp .Add) (λx y H Q=>∃i j,x= .str i/\y= .str j/\i.length+j.length<=sizeLine/\Q (.str (i++j)) H):=by
 intro pins s σ H x y v u Q I rx ry h;obtain⟨i,j,rfl,rfl,hz,q⟩:=h;obtain⟨t,rfl⟩:=rx;obtain⟨t',rfl⟩:=ry;exact add_str (λt' tk=>⟨.str (i++j),H,I.tok _,⟨_,rfl⟩,q⟩) hz
theorem vals1{x:V}{us:List Value}(r:Vals [x] us):∃u,us=[u]/\RelV x u:=by
 cases r with
 |cons r1 r2=>cases r2;exact⟨_,rfl,r1⟩
theorem vals2{x y:V}{us:List Value}(r:Vals [x,y] us):∃u w',us=[u,w']/\RelV x u/\RelV y w':=by
 cases r with
 |cons r1 r2=>
  cases r2 with
  |cons r3 r4=>cases r4;exact⟨_,_,rfl,r1,r3⟩
theorem PH(hc:X.calm=true):CallR X (.builtin "max") (λxs H Q=>∃i j,xs=[.int i, .int j]/\Q (.int (if j>i then j else i)) H):=by
 intro pins s σ H xs us Q I r h;obtain⟨i,j,rfl,q⟩:=h;obtain⟨u,w',rfl,⟨t,rfl⟩,⟨t',rfl⟩⟩:=vals2 r;refine max_two_ints (I.ok.hd hc) λh' tk k=>⟨_,H,I.kept k,?_,q⟩
 by_cases hj:j>i
 ·rw[if_pos hj,if_pos hj];exact⟨_,rfl⟩
 ·rw[if_neg hj,if_neg hj];exact⟨_,rfl⟩
theorem PD(hc:X.calm=true):CallR X (.builtin "min") (λxs H Q=>∃i j,xs=[.int i, .int j]/\Q (.int (if j<i then j else i)) H):=by
 intro pins s σ H xs us Q I r h;obtain⟨i,j,rfl,q⟩:=h;obtain⟨u,w',rfl,⟨t,rfl⟩,⟨t',rfl⟩⟩:=vals2 r;refine min_two_ints (I.ok.hd hc) λh' tk k=>⟨_,H,I.kept k,?_,q⟩
 by_cases hj:j<i
 ·rw[if_pos hj,if_pos hj];exact⟨_,rfl⟩
 ·rw[if_neg hj,if_neg hj];exact⟨_,rfl⟩
theorem PK:CallR X (.type "int") (λxs H Q=>(∃i,xs=[.int i]/\Q (.int i) H)\/∃k,xs=[.bl k]/\Q (.int (if k then 1 else 0)) H):=by
 intro pins s σ H xs us Q I r h;rcases h with⟨i,rfl,q⟩|⟨k,rfl,q⟩
 ·obtain⟨u,rfl,t,rfl⟩:=vals1 r;exact call_int_int ⟨.int i,H,I,⟨_,rfl⟩,q⟩
 ·obtain⟨u,rfl,r1⟩:=vals1 r
  cases r1
  exact call_int_bool ⟨.int (if k then 1 else 0),H,I.tok _,⟨_,rfl⟩,q⟩
end
structure ObjM (h:Heap) (x dx C:Addr) (mA:Str->Option Value):Prop where
 obj:h.get? x=some (W.instObj C dx)
 ns:h.Ns1 dx mA
 ne:dx≠x
theorem Oi{h:Heap}{dx:Addr}{mA:Str->Option Value}(n:h.Ns1 dx mA):∃od,h.get? dx=some od/\∀name,W.lookIn name od=some (mA name):=by
 obtain⟨o,es,ep,ho,hd,hk,_,hm⟩:=n;refine⟨o,ho,λname=>?_⟩;have e:=hm name;unfold nsFind findBy at e;rw[<-Array.find?_toList]at e;unfold W.lookIn;rw[hd]
 dsimp only
 split
 ·rename_i y q
  rw[q]at e;exact congrArg some e
 ·rename_i q
  rw[q]at e;have a:es.toList.any (·.refKey)=false:=by
   rw[List.any_eq_false];intro y hy;obtain⟨z,t,hkey⟩:=hk y (Array.mem_toList_iff.mp hy);simp[DictEntry.refKey,hkey]
  have a':¬es.toList.any (·.refKey)=true:=by rw[a];exact Bool.false_ne_true
  rw[if_neg a'];exact congrArg some e
theorem ObjM.look{h:Heap}{x dx C:Addr}{mA:Str->Option Value}(I:ObjM h x dx C mA):∃od,W.InstAt h x (W.instObj C dx) C (some od)/\∀name,W.lookIn name od=some (mA name):=
 let⟨od,ho,hl⟩:=Oi I.ns
 ⟨od,⟨I.obj,rfl,rfl,ho⟩,hl⟩
section
variable{prog:Program}{w:World}{A:Around}{E:Value->Shared->Prop}{s:Shared}{K:W.Frag}{x dx C f:Addr}{mA:Str->Option Value}{name:Str}{v:Value}
theorem Rj{expr:Bool}{Q:Value->Shared->Prop}(X:K.In s.heap)(I:ObjM s.heap x dx C mA)(hg:W.plainGet K C name=true)(hh:W.hasDictIn K C=true)
 (ha:W.findIn K (.ref C) name=some none) (hv:mA name=some v) (hv':W.handedIn v=true) (h:Q v {s with toks:=s.toks+1}):
 wpAny (model prog w) A (getAttr (.ref x) name expr) Q E s:=by
 obtain⟨od,J,hl⟩:=I.look;exact W.get_value X J (W.plainGet_of hg).1 (W.findObj_own hh ha rfl (by rw[hl,hv])) hv' h
theorem QJ{pl:Sem Bool}{Q:Value×List Value->Shared->Prop}(X:K.In s.heap)(I:ObjM s.heap x dx C mA)(hg:W.plainGet K C name=true)
 (hf:W.findIn K (.ref C) name=some (some (.ref f))) (ht:W.isFn K (.ref f)=true) (hv:mA name=none) (h:Q (.ref f,[.ref x]) s):
 wpAny (model prog w) A (getMethod (.ref x) name pl) Q E s:=by
 obtain⟨od,J,hl⟩:=I.look;exact W.method_fn X J (W.plainGet_of hg).1 (W.plainGet_of hg).2 hf (beq_iff_eq.mp ht) (by show(W.lookIn name od).map (·.isSome)=some false;rw[hl,hv];rfl) h
theorem Ql{ns:List Str}{Q:Unit->Shared->Prop}(X:K.In s.heap)(I:ObjM s.heap x dx C mA)
 (hs:W.findIn K (.ref C) "__setattr__"=some (some (.builtin "object.__setattr__"))) (hp:W.plainOver K C=true) (ht:W.takerIn K C name=some none) (hh:W.hasDictIn K C=true)
 (hw:PySem.Within mA ns) (hsz:ns.length<=sizeLine)
 (h:∀h',ObjM h' x dx C (λy=>if y=name then some v else mA y)->Heap.SameBut dx s.heap h'->Q () {s with heap:=h',toks:=s.toks+2}):
 wpAny (model prog w) A (setAttr (.ref x) name v) Q E s:=by
 obtain⟨od,J,hl⟩:=I.look;refine W.set_plain X J hs (W.osa_open (s:={s with toks:=s.toks+1}) (r:=none) X J hp ht λb=>?_);obtain⟨cd,hc,hd'⟩:=W.any_some hh;have hx:s.heap.get? x=some ⟨.ref C,some dx, .plain,#[]⟩:=I.obj;refine wpAny_bind (wpAny_pure (wpAny_bind (wpAny_bind (wpAny_loadPart hx (wpAny_bind (W.Looks.here (s:={s with toks:=s.toks+1}) (W.looks_clsIn X hc) ?_))))));rw[hd'];refine wpAny_pure (a:=some dx) (wpAny_bind (wpAny_pure (wpAny_bind ?_)));refine wpAny_nsSet1 (s:={s with toks:=s.toks+1}) I.ns λh' hn2 hs2=>?_;obtain⟨oD,esD,epD,hoD,hdD,hcD⟩:=hn2.count (PySem.Within.cons name v hw);refine wpAny_bind (wpAny_lookBehind hoD (by rw[hdD];exact pastItsLine_dict (Nat.le_trans hcD (by rw[List.length_cons];lia))) ?_);exact wpAny_pure (h _ ⟨(hs2.2 _ (Ne.symm I.ne)).trans I.obj,hn2,I.ne⟩ hs2)
theorem QB{R:Result->Shared->Prop}{vs:List Value}{kw:List (Str×Value)}(X:K.In s.heap)(hm:W.makesIn K C=true)
 (hi:W.findIn K (.ref C) "__init__"=some (some (.ref f))) (hf:W.typeIn K (.ref f)=some (.type "function"))
 (h:codeAny (model prog w) (A.under (.builtin "type.__call__" ⟨.ref C::vs,kw⟩)) (.call (.ref f) ⟨.ref (s.heap.objs.size+1)::vs,kw⟩) (W.InitBack (s.heap.objs.size+1) R)
   {s with heap:=(s.heap.push W.emptyDict).push (W.instObj C s.heap.objs.size)}):
 codeAny (model prog w) A (.call (.ref C) ⟨vs,kw⟩) R s:=by
 obtain⟨hh,g,d,t,os⟩:=s;exact W.make_core (W.makes_of X hm) (W.looks_findIn X hi) (λself=>W.bind_fn X self hf) (.inl rfl) h
end
def An(f:Str)(v:V):List (Str×V)->List (Str×V)
 |[]=>[(f,v)]
 |(g,x)::r=>if g=f then(g,v)::r else(g,x)::An f v r
theorem HC(f g:Str)(v:V):∀fs:List (Str×V),(An f v fs).lookup g=if g=f then some v else fs.lookup g
 |[]=>by
  show List.lookup g [(f,v)]=_
  by_cases h:g=f
  ·have hb:(g==f)=true:=beq_iff_eq.mpr h;simp only[List.lookup,hb,if_pos h]
  ·have hb:(g==f)=false:=beq_eq_false_iff_ne.mpr h;simp only[List.lookup,hb,if_neg h]
 |(k,x)::r=>by
  have ih:=HC f g v r;rw[show An f v ((k,x)::r)=(if k=f then(k,v)::r else(k,x)::An f v r)from rfl]
  by_cases hk:k=f
  ·rw[if_pos hk]
   by_cases h:g=k
   ·have hb:(g==k)=true:=beq_iff_eq.mpr h;simp only[List.lookup,hb,if_pos (h.trans hk)]
   ·have hb:(g==k)=false:=beq_eq_false_iff_ne.mpr h;simp only[List.lookup,hb,if_neg (λe:g=f=>h (e.trans hk.symm))]
  ·rw[if_neg hk]
   by_cases h:g=k
   ·have hb:(g==k)=true:=beq_iff_eq.mpr h;simp only[List.lookup,hb,if_neg (λe:g=f=>hk (h.symm.trans e))]
   ·have hb:(g==k)=false:=beq_eq_false_iff_ne.mpr h;simp only[List.lookup,hb];exact ih
theorem E9(f:Str)(v:V):∀fs:List (Str×V),f∈(An f v fs).map (·.1)/\∀g,g∈fs.map (·.1)->g∈(An f v fs).map (·.1)
 |[]=>⟨by simp[An],λg h=>by simp at h⟩
 |(k,x)::r=>by
  obtain⟨i1,i2⟩:=E9 f v r;rw[show An f v ((k,x)::r)=(if k=f then(k,v)::r else(k,x)::An f v r)from rfl]
  by_cases hk:k=f
  ·rw[if_pos hk];subst hk;exact⟨by simp,λg h=>by simpa using h⟩
  ·rw[if_neg hk];refine⟨?_,λg h=>?_⟩
   ·rw[List.map_cons];exact List.mem_cons_of_mem _ i1
   ·rw[List.map_cons]at h⊢;rcases List.mem_cons.mp h with e|e
    ·exact List.mem_cons.mpr (.inl e)
    ·exact List.mem_cons_of_mem _ (i2 g e)
theorem HD(f:Str)(v:V):∀fs:List (Str×V),(An f v fs).length<=fs.length+1
 |[]=>by simp[An]
 |(k,x)::r=>by
  have ih:=HD f v r;rw[show An f v ((k,x)::r)=(if k=f then(k,v)::r else(k,x)::An f v r)from rfl]
  by_cases hk:k=f
  ·rw[if_pos hk,List.length_cons,List.length_cons];lia
  ·rw[if_neg hk,List.length_cons,List.length_cons];lia
theorem RelO.some_of{v:V}{o:Option Value}(r:RelO (some v) o):∃u,o=some u/\RelV v u:=by
 cases o with
 |none=>exact(show False from r).elim
 |some u=>exact⟨u,rfl,r⟩
theorem RelO.none_of{o:Option Value}(r:RelO none o):o=none:=by
 cases o with
 |none=>rfl
 |some u=>exact(show False from r).elim
theorem Oy{v:V}{u:Value}(r:RelV v u):W.handedIn u=true:=by
 cases v with
 |non=>cases(show u=Value.none from r);rfl
 |bl b=>cases(show u=Value.bool b from r);rfl
 |int i=>obtain⟨t,e⟩:=(show∃t,u=Value.int i t from r);cases e;rfl
 |str x=>obtain⟨t,e⟩:=(show∃t,u=Value.str x t from r);cases e;rfl
 |byt b=>obtain⟨t,e⟩:=(show∃t,u=Value.bytes b t from r);cases e;rfl
 |flt b=>obtain⟨t,e⟩:=(show∃t,u=Value.float b t from r);cases e;rfl
 |ref a=>cases(show u=Value.ref a from r);rfl
 |ty n=>cases(show u=Value.type n from r);rfl
section
variable{P:Program}{w:World}{H H':Hp}{h h':Heap}{a C dx:Addr}{fs fs':List (Str×V)}
theorem EQ(hok:HOk P w H h)(e:H a=some (.ins C dx fs)):∃mA,ObjM h a dx C mA/\(∀f,RelO (fs.lookup f) (mA f))/\PySem.Within mA (fs.map (·.1))/\fs.length<=1000/\H dx=some (.own a):=by
 obtain⟨d,z,ne,ob,mA,n,r,q⟩:=(show ObjOk P w H h a (.ins C dx fs)from hok a _ e);exact⟨mA,⟨ob,n,ne⟩,r,q,z,d⟩
end
structure Cls (K:W.Frag) (C:Addr):Prop where
 pg:W.plainGet K C Str.empty=true
 hd:W.hasDictIn K C=true
 po:W.plainOver K C=true
 sa:W.findIn K (.ref C) "__setattr__"=some (some (.builtin "object.__setattr__"))
theorem Cls.get{K:W.Frag}{C:Addr}(c:Cls K C)(f:Str):W.plainGet K C f=true:=c.pg
def NoAttr(K:W.Frag)(C:Addr)(f:Str):Prop:=W.findIn K (.ref C) f=some none
theorem NoAttr.taker{K:W.Frag}{C:Addr}{f:Str}(n:NoAttr K C f):W.takerIn K C f=some none:=by
 unfold W.takerIn;rw[show W.findIn K (.ref C) f=some none from n]
 rfl
structure Meth (K:W.Frag) (C:Addr) (m:Str) (f:Addr):Prop where
 at_:W.findIn K (.ref C) m=some (some (.ref f))
 fn:W.isFn K (.ref f)=true
 kp:W.keepIn K (.ref f)=true
section
variable{X:Cx}{pins:List (Addr×Obj)}{σ:St}{H:Hp}{s:Shared}{a C dx:Addr}{fs:List (Str×V)}{f:Str}{v:V}{A:Around}{E:Value->Shared->Prop}
theorem N1{b:Bool}{Q:Value->Shared->Prop}(I:Inv X pins σ H s)(e:H a=some (.ins C dx fs))(c:Cls X.K C)(n:NoAttr X.K C f)(l:fs.lookup f=some v)
 (h:∀u s',Inv X pins σ H s'->RelV v u->Q u s'):wpAny (model X.prog X.w) A (getAttr (.ref a) f b) Q E s:=by
 obtain⟨mA,O,r,_,_,_⟩:=EQ I.hok e;obtain⟨u,hu,ru⟩:=RelO.some_of (v:=v) (o:=mA f) (by rw[<-l];exact r f);exact Rj I.kIn O (c.get f) c.hd n hu (Oy ru) (h u _ (I.tok _) ru)
theorem HV{m:Str}{g:Addr}{pl:Sem Bool}{Q:Value×List Value->Shared->Prop}(I:Inv X pins σ H s)(e:H a=some (.ins C dx fs))(c:Cls X.K C)(k:Meth X.K C m g)(l:fs.lookup m=none)
 (h:Q (.ref g,[.ref a]) s):wpAny (model X.prog X.w) A (getMethod (.ref a) m pl) Q E s:=by
 obtain⟨mA,O,r,_,_,_⟩:=EQ I.hok e;have hn:mA m=none:=RelO.none_of (by rw[<-l];exact r m);exact QJ I.kIn O (c.get m) k.at_ k.fn hn h
theorem Nf{y:V}{u:Value}{Q:Unit->Shared->Prop}(I:Inv X pins σ H s)(e:H a=some (.ins C dx fs))(c:Cls X.K C)(n:NoAttr X.K C f)(hl:fs.length<1000)(ry:RelV y u)
 (h:∀s',Inv X pins σ (upd H a (.ins C dx (An f y fs))) s'->Q () s'):wpAny (model X.prog X.w) A (setAttr (.ref a) f u) Q E s:=by
 obtain⟨mA,O,r,wi,_,ho⟩:=EQ I.hok e;have hz:(fs.map (·.1)).length<=sizeLine:=by rw[List.length_map,sizeLine_eq];lia
 refine Ql I.kIn O c.sa c.po n.taker c.hd wi hz λh' O' sb=>h _ ?_;have hd:∃o,h'.get? dx=some o:=let⟨o,_,_,e',_⟩:=O'.ns;⟨o,e'⟩;refine I.write (x:=a) (e:=dx) (by rw[e];exact True.intro) (.inr ho) (λb q hb z=>(sb.2 b hb).trans z) hd ?_;refine⟨by rw[AG O.ne];exact ho,?_,O.ne,O'.obj,_,O'.ns,λg=>?_,λg hg=>?_⟩
 ·have:=HD f y fs;lia
 ·show RelO ((An f y fs).lookup g) (if g=f then some u else mA g);rw[HC]
  by_cases q:g=f
  ·rw[if_pos q,if_pos q];exact ry
  ·rw[if_neg q,if_neg q];exact r g
 ·by_cases q:g=f
  ·rw[q];exact(E9 f y fs).1
  ·refine(E9 f y fs).2 g (wi g λz=>hg ?_);show(if g=f then some u else mA g)=none;rw[if_neg q];exact z
theorem Inv.made(I:Inv X pins σ H s):Inv X pins σ (upd (upd H s.heap.objs.size (.own (s.heap.objs.size+1))) (s.heap.objs.size+1) (.ins C s.heap.objs.size []))
 {s with heap:=(s.heap.push W.emptyDict).push (W.instObj C s.heap.objs.size)}:=by
 have e1:(s.heap.push W.emptyDict).get? s.heap.objs.size=some W.emptyDict:=Heap.get?_push_size s.heap rfl;have e2:((s.heap.push W.emptyDict).push (W.instObj C s.heap.objs.size)).get? (s.heap.objs.size+1)=some (W.instObj C s.heap.objs.size):=by
  have:=Heap.get?_push_size (s.heap.push W.emptyDict) (o:=W.instObj C s.heap.objs.size) rfl;rwa[Heap.size_push]at this
 have e3:(s.heap.push W.emptyDict).Ns s.heap.objs.size (λ_=>none):=⟨W.emptyDict,#[],_,e1,rfl,(λe he=>absurd he (by simp)),λ_=>rfl⟩;have I1:=I.laid (a:=s.heap.objs.size) (o:= .own (s.heap.objs.size+1)) (h':=s.heap.push W.emptyDict) (t':=s.toks) (λb u q=>Heap.get?_push_of_some _ q) (Nat.le_refl _) ⟨_,e1⟩;refine I1.laid (a:=s.heap.objs.size+1) (o:= .ins C s.heap.objs.size []) (t':=s.toks) (λb u q=>Heap.get?_push_of_some _ q) (Nat.le_of_eq (Heap.size_push _ _)) ?_;have ne:s.heap.objs.size≠s.heap.objs.size+1:=Nat.ne_of_lt (Nat.lt_succ_self _);refine⟨by rw[AG ne,AF],Nat.zero_le _,ne,e2,λ_=>none,(Heap.Ns1.of_empty e3).at λo q=>Heap.get?_push_of_some _ q,λ_=>True.intro,λy hy=>absurd rfl hy⟩
theorem Rx{prog:Program}{w:World}{env:Env}{e:Expr}{f:Str}{pos:Pos}{s:Shared}{Q:Value->Shared->Prop}(hb:attributeBase e f env (eval e env)=eval e env)
 (h:wpAny (model prog w) A (eval e env) (λo s₁=>wpAny (model prog w) A (getAttr o f true) Q E s₁) E s):wpAny (model prog w) A (eval (.Attribute e f pos) env) Q E s:=
 Attribute_any_ h (by rw[arm_eval_Attribute,hb])
end
def GW(K:W.Frag)(ta:TE)(f:Str):TE:=λσ H Q=>ta σ H λx H1=>∃a C dx fs v,x= .ref a/\H1 a=some (.ins C dx fs)/\Cls K C/\NoAttr K C f/\fs.lookup f=some v/\Q v H1
def GY(K:W.Frag)(ta tv:TE)(f:Str):TS:=λD σ H=>tv σ H λy H1=>ta σ H1 λx H2=>∃a C dx fs,x= .ref a/\H2 a=some (.ins C dx fs)/\Cls K C/\NoAttr K C f/\fs.length<1000/\
 D.nx σ (upd H2 a (.ins C dx (An f y fs)))
section
variable{X:Cx}{o e value:Expr}{f:Str}{pos pos' tpos:Pos}{ta tv:TE}
theorem TX(he:PE X e ta)(hb:attributeBase e f X.env (eval e X.env)=eval e X.env):PE X (.Attribute e f pos) (GW X.K ta f):=by
 intro pins s σ H Q I h;refine Rx hb (thn (he pins s σ H _ I h) λu s1 z_=>?_);obtain⟨x,H1,I1,rx,a,C,dx,fs,v,ex,ea,c,n,l,q⟩:=z_;subst ex;obtain rfl:u=Value.ref a:=rx;exact N1 I1 ea c n l λu' s2 I2 ru=>⟨v,H1,I2,ru,q⟩
theorem TJ(ha:PE X o ta)(hv:PE X value tv)(hs:swapsWith value (some (.Attribute o f pos')) pos.line X.env=pure false):PS X (.Assign [.Attribute o f pos'] value pos) (GY X.K ta tv f):=by
 intro pins s σ H D I h;refine plainObj_wpAny_Assign_Attribute (thn (hv pins s σ H _ I h) λu s1 ⟨y,H1,I1,ry,q⟩=>thn (ha pins s1 σ H1 _ I1 q) λov s2 ⟨x,H2,I2,rx,a,C,dx,fs,ex,ea,c,n,l,q2⟩=>?_) hs;subst ex;obtain rfl:ov=Value.ref a:=rx;exact Nf I2 ea c n l ry λs3 I3=>⟨σ,_,I3,q2⟩
end
section
variable{X:Cx}{pins:List (Addr×Obj)}{σ:St}{H:Hp}{s:Shared}{A:Around}{E:Value->Shared->Prop}{Q:Value->Shared->Prop}{c:Value}{b:Bool}
inductive TyOf (K:W.Frag) (H:Hp):V->Value->Prop where
 |non:TyOf K H .non (.type "NoneType")
 |bl (x:Bool):TyOf K H (.bl x) (.type "bool")
 |int (i:Int):TyOf K H (.int i) (.type "int")
 |str (x:Str):TyOf K H (.str x) (.type "str")
 |flt (x:UInt64):TyOf K H (.flt x) (.type "float")
 |lst {a:Addr} {xs:List V} (e:H a=some (.lst xs)):TyOf K H (.ref a) (.type "list")
 |frz {a:Addr} {o:Obj} {xs:List V} (e:H a=some (.frz o (.lst xs))):TyOf K H (.ref a) (.type "list")
 |tup {a:Addr} {xs:List V} (e:H a=some (.tup xs)):TyOf K H (.ref a) (.type "tuple")
 |dK {a:Addr} {kvs:List (Key×V)} (e:H a=some (.dK kvs)):TyOf K H (.ref a) (.type "dict")
 |dT {a:Addr} {kvs:List (List Key×V)} (e:H a=some (.dT kvs)):TyOf K H (.ref a) (.type "dict")
 |ins {a C dx:Addr} {fs:List (Str×V)} (e:H a=some (.ins C dx fs)) (cl:Cls K C) (ha:W.findIn K (.ref C) "__class__"=some (some (.builtin "object.__class__")))
   (hn:W.specialIn K (.builtin "object.__class__") "__get__"=some (some (.builtin "getset_descriptor.__get__"))) (htk:W.takesIn K (.builtin "object.__class__")=some true)
   (hm:W.mroIn K C (.type "object")=some true):TyOf K H (.ref a) (.ref C)
theorem Oq{x:V}{u t:Value}(I:Inv X pins σ H s)(rx:RelV x u)(ty:TyOf X.K H x t)(e:W.kitOne X.K t c=some b)(h:∀tk,Q (.bool b) {s with toks:=tk}):
 wpAny (model X.prog X.w) A (call (.builtin "isinstance") [u,c]) Q E s:=by
 cases ty with
 |non=>cases(show u=Value.none from rx);exact W.kia_one W.kitx_none I.kIn True.intro e (λz=>nomatch z) h
 |bl y=>cases(show u=Value.bool y from rx);exact W.kia_one W.kitx_bool I.kIn True.intro e (λz=>nomatch z) h
 |int i=>obtain⟨t,q⟩:=(show∃t,u=Value.int i t from rx);cases q;exact W.kia_one W.kitx_int I.kIn True.intro e (λz=>nomatch z) h
 |str y=>obtain⟨t,q⟩:=(show∃t,u=Value.str y t from rx);cases q;exact W.kia_one W.kitx_str I.kIn True.intro e (λz=>nomatch z) h
 |flt y=>obtain⟨t,q⟩:=(show∃t,u=Value.float y t from rx);cases q;exact W.kia_one W.kitx_float I.kIn True.intro e (λz=>nomatch z) h
 | @lst a xs ea=>
   cases(show u=Value.ref a from rx)
   obtain⟨_,_,n,_,h1⟩:=(show ObjOk X.prog X.w H s.heap a (.lst xs)from I.hok a _ ea);exact W.kia_one W.kitx_list I.kIn ⟨_,h1,rfl⟩ e (λz=>nomatch z) h
 | @frz a ob xs ea=>
   cases(show u=Value.ref a from rx)
   obtain⟨_,_,_,n,_,h1⟩:=(show ObjOk X.prog X.w H s.heap a (.frz ob (.lst xs))from I.hok a _ ea);exact W.kia_one W.kitx_list I.kIn ⟨_,h1,rfl⟩ e (λz=>nomatch z) h
 | @tup a xs ea=>
   cases(show u=Value.ref a from rx)
   obtain⟨_,_,_,p⟩:=(show ObjOk X.prog X.w H s.heap a (.tup xs)from I.hok a _ ea);obtain⟨o,h1,h2,_⟩:=p;exact W.kia_one W.kitx_tuple I.kIn ⟨o,h1,h2⟩ e (λz=>nomatch z) h
 | @dK a kvs ea=>
   cases(show u=Value.ref a from rx)
   obtain⟨_,_,vs,_,p⟩:=(show ObjOk X.prog X.w H s.heap a (.dK kvs)from I.hok a _ ea);obtain⟨o,es,ep,h1,h2,_⟩:=p;exact W.kia_one W.kitx_dict I.kIn ⟨o,h1,h2.1⟩ e (λz=>nomatch z) h
 | @dT a kvs ea=>
   cases(show u=Value.ref a from rx)
   obtain⟨_,_,xs,_,o,es,ep,h1,h2,_⟩:=(show ObjOk X.prog X.w H s.heap a (.dT kvs)from I.hok a _ ea);exact W.kia_one W.kitx_dict I.kIn ⟨o,h1,h2.1⟩ e (λz=>nomatch z) h
 | @ins a C dx fs ea cl ha hn htk hm=>
   cases(show u=Value.ref a from rx)
   obtain⟨mA,O,_⟩:=EQ I.hok ea;obtain⟨od,J,_⟩:=O.look;exact W.kia_one (W.kitx_own (cl.get _) cl.hd ha hn htk hm) I.kIn J e (λz=>nomatch z) h
end
structure Room (k:Nat) (A:Around):Prop where
 hd:A.handled=none
 dp:A.depth+3*k+5<recursionLimit
 un:A.units+16*k+200<cLine
 gd:A.guards=some []
theorem Room.mono{j k:Nat}{A:Around}(r:Room k A)(h:j<=k):Room j A:=⟨r.hd,by have:=r.dp;lia,by have:=r.un;lia,by first|exact r.gd|simpa[Around.deeper,Around.under,Code.guards,Code.isGuard,guardIds,pushGuards]using r.gd⟩
theorem Room.deeper{k:Nat}{A:Around}(r:Room (k+1) A)(env:Env):Room k (A.deeper env):=
 ⟨r.hd,by have:=r.dp;show A.depth+1+3*k+5<_;lia,by have:=r.un;show A.units+3+16*k+200<_;lia,by first|exact r.gd|simpa[Around.deeper,Around.under,Code.guards,Code.isGuard,guardIds,pushGuards]using r.gd⟩
theorem Ny{A:Around}{C:Addr}{us:List Value}{kw:List (Str×Value)}:(A.under (.builtin "type.__call__" ⟨.ref C::us,kw⟩)).depth=A.depth+1:=by
 first|rfl|simp[Around.under,Code.weight,Code.isCreation,Code.isGuard,Code.isCaller,Code.frames,Code.isFrame,guardIds]
theorem Nx{A:Around}{C:Addr}{us:List Value}{kw:List (Str×Value)}:(A.under (.builtin "type.__call__" ⟨.ref C::us,kw⟩)).units=A.units+1:=by
 first|rfl|simp[Around.under,Code.cUnits,Code.frames,Code.isFrame]
theorem Room.make{k:Nat}{A:Around}(r:Room (k+1) A)(C:Addr)(us:List Value)(kw:List (Str×Value)):Room k (A.under (.builtin "type.__call__" ⟨.ref C::us,kw⟩)):=
 ⟨r.hd,by have:=r.dp;rw[Ny];lia,by have:=r.un;rw[Nx];lia,by first|exact r.gd|simpa[Around.deeper,Around.under,Code.guards,Code.isGuard,guardIds,pushGuards]using r.gd⟩
theorem Room.depth{k:Nat}{A:Around}(r:Room k A):A.depth<recursionLimit:=by have:=r.dp;lia
theorem Room.units{k:Nat}{A:Around}(r:Room k A):A.units+64<cLine:=by have:=r.un;lia
theorem Room.units0{k:Nat}{A:Around}(r:Room k A):A.units<cLine:=by have:=r.un;lia
def tNil:TA:=λ_ H Q=>Q [] H
def Bd(ta:TE)(tr:TA):TA:=λσ H Q=>ta σ H λx H1=>tr σ H1 λxs H2=>Q (x::xs) H2
section
variable{X:Cx}{e:Expr}{es:List Expr}{te:TE}{t:TA}{pos:Pos}
theorem AB:PA X [] tNil:=λ_ _ _ _ H Q I h=>Calls.spliced_nil ⟨[],H,I, .nil,h⟩
theorem AA(ha:PE X e te)(hr:PA X es t)(hs:starEach (e::es) X.env=(false,eval e X.env)::starEach es X.env:=by rfl):PA X (e::es) (Bd te t):=by
 intro pos pins s σ H Q I h;rw[hs];show wpAny _ _ (spliced ((false,eval e X.env)::backTo pos (starEach es X.env))) _ _ s;refine Calls.spliced_cons (thn (ha pins s σ H _ I h) λu s1 z_=>?_);obtain⟨x,H1,I1,r1,q1⟩:=z_;exact thn (hr pos pins s1 σ H1 _ I1 q1) λus s2 ⟨xs,H2,I2,r2,q2⟩=>⟨x::xs,H2,I2, .cons r1 r2,q2⟩
def GU(t:TA):TE:=λσ H Q=>t σ H λxs H1=>xs.length<=sizeLine/\∀p,H1 p=none->Q (.ref p) (upd H1 p (.tup xs))
def C4(t:TA):TE:=λσ H Q=>t σ H λxs H1=>xs.length<=sizeLine/\∀p,H1 p=none->Q (.ref p) (upd H1 p (.lst xs))
theorem Ad{x1}(h:PA X es t):PE X (.Tuple es x1 pos) (GU t):=by
 intro pins s σ H Q I hq;refine wpAny_Tuple_spliced (thn (h pos pins s σ H _ I hq) λus s1 ⟨xs,H1,I1,r,z,q⟩=>⟨by rw[<-r.length];exact z,?_⟩);have hf:H1 s1.heap.objs.size=none:=I1.hok.fresh (Nat.le_refl _);refine⟨.ref s1.heap.objs.size,upd H1 s1.heap.objs.size (.tup xs),I1.laid (t':=s1.toks) (λb u e=>Heap.get?_push_of_some _ e) (Nat.le_refl _) ?_,rfl,q _ hf⟩;exact⟨z,us,r,⟨_,Heap.get?_push_size _ rfl,rfl,_,rfl⟩⟩
theorem AW(h:PA X es t):PE X (.List es pos) (C4 t):=by
 intro pins s σ H Q I hq;refine wpAny_List_spliced (thn (h pos pins s σ H _ I hq) λus s1 ⟨xs,H1,I1,r,z,q⟩=>⟨by rw[<-r.length];exact z,?_⟩);have hf:H1 s1.heap.objs.size=none:=I1.hok.fresh (Nat.le_refl _);refine⟨.ref s1.heap.objs.size,upd H1 s1.heap.objs.size (.lst xs),I1.laid (t':=s1.toks) (λb u e=>Heap.get?_push_of_some _ e) (Nat.le_refl _) ?_,rfl,q _ hf⟩;exact⟨z,us,0,r,Heap.get?_push_size _ rfl⟩
end
abbrev Sp:=List V->Hp->VK->XK->Prop
abbrev CXT:=List Env->Hp->Shared->XK->Value->Shared->Prop
structure Env0 (P:Program) (w:World) (K:W.Frag) (mg:Str->Option Value) (base:Heap) (A:Around) (outer:List Env) (s:Shared) (H:Hp):Prop where
 frames:A.frames=some outer
 mod:Mod K mg base
 bs:∀b o,base.get? b=some o->s.heap.get? b=some o/\H b=none
 bsz:base.objs.size<=s.heap.objs.size
 funs:s.heap.FunFrames base outer
 frf:∀b∈frs outer,H b=none
 hok:HOk P w H s.heap
 bare:AllBare s.gens
def CE(outer:List Env)(P:Program)(w:World)(H:Hp)(s:Shared)(Q:VK)(u:Value)(s':Shared):Prop:=
 ∃v H',s'.os=s.os/\AllBare s'.gens/\Un (frs outer) [] H H' s.heap s'.heap/\HOk P w H' s'.heap/\RelV v u/\Q v H'
def CR(CX:CXT)(outer:List Env)(P:Program)(w:World)(H:Hp)(s:Shared)(Q:VK)(E:XK)(r:Result)(s':Shared):Prop:=
 match r with
 | .ok (.ret u)=>CE outer P w H s Q u s'
 | .ok _=>False
 | .error e=>CX outer H s E e s'
structure FnOk (P:Program) (w:World) (K:W.Frag) (mg:Str->Option Value) (base:Heap) (CX:CXT) (k:Nat) (f:Addr) (fd:FuncData) (ps:List Str) (sp:Sp):Prop where
 len:∀vs H Q E,sp vs H Q E->vs.length=ps.length
 run:∀ (A:Around) (outer:List Env) (s:Shared) (H:Hp) (args:Args) (us:List Value) (vs:List V) (Q:VK) (E:XK),Room k A->Env0 P w K mg base A outer s H->BindsTo s fd args (ps.zip us)->Vals vs us->sp vs H Q E->
  codeAny (model P w) A (.call (.ref f) args) (CR CX outer P w H s Q E) s
theorem FnOk.imp{P:Program}{w:World}{K:W.Frag}{mg:Str->Option Value}{base:Heap}{CX:CXT}{k:Nat}{f:Addr}{fd:FuncData}{ps:List Str}{sp sp':Sp}(F:FnOk P w K mg base CX k f fd ps sp)
 (h:∀vs H Q E,sp' vs H Q E->sp vs H Q E):FnOk P w K mg base CX k f fd ps sp':=
 ⟨λvs H Q E q=>F.len vs H Q E (h _ _ _ _ q),λA outer s H args us vs Q E hr he hb hv hs=>F.run A outer s H args us vs Q E hr he hb hv (h _ _ _ _ hs)⟩
theorem Env0.make{P:Program}{w:World}{K:W.Frag}{mg:Str->Option Value}{base:Heap}{A:Around}{outer:List Env}{s:Shared}{H:Hp}(e:Env0 P w K mg base A outer s H)(C:Addr)(us:List Value)(kw:List (Str×Value)):
 Env0 P w K mg base (A.under (.builtin "type.__call__" ⟨.ref C::us,kw⟩)) outer s H:=⟨by first|exact e.frames|(simpa[Around.under,Code.envs,Code.isFrame,pushEnvs]using e.frames),e.mod,e.bs,e.bsz,e.funs,e.frf,e.hok,e.bare⟩
section
variable{X:Cx}{pins:List (Addr×Obj)}{σ:St}{H:Hp}{s s':Shared}
theorem Inv.env0(I:Inv X pins σ H s):Env0 X.prog X.w X.K X.mg X.base X.A X.stack s H:=
 ⟨I.ok.frames,I.ok.mod,I.bs,Nat.le_trans I.ok.bsz I.sz,I.stack,I.stkFree,I.hok,I.bare⟩
theorem Inv.after{Q:VK}{u:Value}(I:Inv X pins σ H s)(h:CE X.stack X.prog X.w H s Q u s'):EP X pins σ Q u s':=by
 obtain⟨v,H',os,bare,un,hok,r,q⟩:=h;obtain⟨hh,g,d,t,os'⟩:=s';obtain rfl:os'=s.os:=os;exact⟨v,H',I.call (h':=hh) (g':=g) (d':=d) (t':=t) (ch:=[]) un hok bare (λb z=>absurd z (by simp)),r,q⟩
end
def Du(sp:Sp)(dvs:List V)(E:XK)(t:TA):TE:=λσ H Q=>t σ H λvs H1=>sp (vs++dvs) H1 Q E
def GI(C:Addr)(m:Str)(sp:Sp)(dvs:List V)(E:XK)(ta:TE)(t:TA):TE:=λσ H Q=>ta σ H λx H1=>∃a dx fs,x= .ref a/\H1 a=some (.ins C dx fs)/\fs.lookup m=none/\
 t σ H1 λvs H2=>sp (x::(vs++dvs)) H2 Q E
def Dt(C:Addr)(sp:Sp)(dvs:List V)(E:XK)(t:TA):TE:=λσ H Q=>t σ H λvs H1=>∀x dx,H1 x=none->H1 dx=none->dx≠x->
 sp (.ref x::(vs++dvs)) (upd (upd H1 dx (.own x)) x (.ins C dx [])) (λv H2=>v= .non/\Q (.ref x) H2) E
def Binds(K:W.Frag)(fd:FuncData)(ps:List Str)(ds:List Value):Prop:=
 ∀ (s:Shared) (us:List Value),K.In s.heap->(us++ds).length=ps.length->BindsTo s fd ⟨us,[]⟩ (ps.zip (us++ds))
theorem Binds.all{K:W.Frag}{fd:FuncData}{ps:List Str}(h:∀us:List Value,us.length=ps.length->bindArgs fd ⟨us,[]⟩=pure (ps.zip us)):Binds K fd ps []:=λs us _ hl=>by
 rw[List.append_nil]at hl⊢;exact .of_eq (h us hl)
def Cw(CX:CXT)(X:Cx)(E:XK):Prop:=∀ (pins:List (Addr×Obj)) (σ:St) (H:Hp) (s:Shared) (e:Value) (s':Shared),Inv X pins σ H s->CX X.stack H s E e s'->X.xe e s'
section
variable{X:Cx}{CX:CXT}{k:Nat}{f C:Addr}{fd:FuncData}{ps:List Str}{sp:Sp}{dvs:List V}{ds:List Value}{E:XK}{x m:Str}{p pos apos:Pos}{e o:Expr}{es:List Expr}{ta:TE}{t:TA}
theorem KP{pins:List (Addr×Obj)}{σ:St}{H:Hp}{s:Shared}{Q:VK}{us:List Value}{vs:List V}(F:FnOk X.prog X.w X.K X.mg X.base CX k f fd ps sp)(hr:Room k X.A)(hb:Binds X.K fd ps ds)(hd:Vals dvs ds)(hx:Cw CX X E)
 (I:Inv X pins σ H s) (r:Vals vs us) (h:sp (vs++dvs) H Q E):wpAny (model X.prog X.w) X.A (call (.ref f) us) (EP X pins σ Q) X.xe s:=by
 have r2:Vals (vs++dvs) (us++ds):=r.append hd;have hl:(us++ds).length=ps.length:=by rw[<-r2.length];exact F.len _ _ _ _ h
 refine wpAny_call (codeAny_mono (F.run X.A X.stack s H ⟨us,[]⟩ (us++ds) (vs++dvs) Q E hr I.env0 (hb s us I.kIn hl) r2 h) λr s' hq=>?_)
 cases r with
 |error e=>exact hx pins σ H s e s' I hq
 |ok fl=>
  cases fl with
  |ret u=>exact I.after hq
  |next=>exact False.elim hq
  |brk=>exact False.elim hq
  |cont=>exact False.elim hq
theorem RV(F:FnOk X.prog X.w X.K X.mg X.base CX k f fd ps sp)(hr:Room k X.A)(hg:Gl X x)(hm:X.mg x=some (.ref f))(hk:W.keepIn X.K (.ref f)=true)(hb:Binds X.K fd ps ds)(hd:Vals dvs ds)(hx:Cw CX X E)
 (ha:PA X (e::es) t) (hdb:(x==("__debug__":Str))=false:=by decide) (he:starEach (e::es) X.env=(false,eval e X.env)::starEach es X.env:=by rfl) (hpl:(backTo pos (starEach es X.env)).any (·.1)=false:=by rfl):
 PE X (.Call (.Name x p) (e::es) [] pos) (Du sp dvs E t):=by
 intro pins s σ H Q I h;refine wpAny_Call_Name_kw (Cm I hg hm ?_ hdb);refine W.callWith_K (h₀:=X.base) I.ok.mod.kin hk (thn (ha pos pins s σ H _ I h) λus s1 ⟨vs,H1,I1,r,q⟩=>⟨I1.kIn,?_⟩) he hpl;exact KP F hr hb hd hx I1 r q
theorem Pw{pl:Sem Bool}(he:PE X o ta)(c:Cls X.K C)(hm:Meth X.K C m f)(F:FnOk X.prog X.w X.K X.mg X.base CX k f fd ps sp)(hr:Room k X.A)(hb:Binds X.K fd ps ds)(hd:Vals dvs ds)(hx:Cw CX X E)
 (ht:eval (.Call (.Attribute o m apos) [] [] pos) X.env=(do
   let ov<-eval o X.env
   standAt apos.atName
   let(f,first)<-holding [ov] (getMethod ov m pl)
   callWith pos f first (backTo pos (starEach [] X.env)) (backToKw pos (keywordEach [] X.env))):=by rfl):
 PE X (.Call (.Attribute o m apos) [] [] pos) (GI C m sp dvs E ta tNil):=by
 intro pins s σ H Q I h;refine W.methodCall_KW (pl:=pl) (thn (he pins s σ H _ I h) λu s1 ⟨x,H1,I1,rx,a,dx,fs,ex,ea,l,q⟩=>?_) ht;subst ex;obtain rfl:u=Value.ref a:=rx;refine HV I1 ea c hm l ?_;exact W.callWith_K0 (first:=[.ref a]) I1.kIn hm.kp (KP (us:=[.ref a]) (vs:=[.ref a]) F hr hb hd hx I1 (.cons rfl .nil) q)
structure Mk (K:W.Frag) (C f:Addr):Prop where
 makes:W.makesIn K C=true
 init:W.findIn K (.ref C) "__init__"=some (some (.ref f))
 fn:W.isFn K (.ref f)=true
 kp:W.keepIn K (.ref C)=true
theorem Ib{pins:List (Addr×Obj)}{σ:St}{H:Hp}{s:Shared}{Q:VK}{us:List Value}{vs:List V}(M:Mk X.K C f)(F:FnOk X.prog X.w X.K X.mg X.base CX k f fd ps sp)(hr:Room (k+1) X.A)(hb:Binds X.K fd ps ds)(hd:Vals dvs ds)
 (hx:Cw CX X E) (I:Inv X pins σ H s) (r:Vals vs us)
 (h:∀x dx,H x=none->H dx=none->dx≠x->sp (.ref x::(vs++dvs)) (upd (upd H dx (.own x)) x (.ins C dx [])) (λv H2=>v= .non/\Q (.ref x) H2) E):
 wpAny (model X.prog X.w) X.A (call (.ref C) us) (EP X pins σ Q) X.xe s:=by
 have hq:=h (s.heap.objs.size+1) s.heap.objs.size (I.hok.fresh (Nat.le_succ _)) (I.hok.fresh (Nat.le_refl _)) (Nat.ne_of_lt (Nat.lt_succ_self _));have I2:=Inv.made (C:=C) I;have r2:Vals (V.ref (s.heap.objs.size+1)::(vs++dvs)) (Value.ref (s.heap.objs.size+1)::(us++ds)):= .cons rfl (r.append hd);have hl:(Value.ref (s.heap.objs.size+1)::us++ds).length=ps.length:=by
  have e:=r2.length;rw[F.len _ _ _ _ hq]at e;exact e.symm
 refine wpAny_call (QB (f:=f) I.kIn M.makes M.init (beq_iff_eq.mp M.fn) (codeAny_mono (F.run _ X.stack _ _ ⟨Value.ref (s.heap.objs.size+1)::us,[]⟩ (Value.ref (s.heap.objs.size+1)::(us++ds)) _ _ E (hr.make C us [])
  (I2.env0.make C us []) (hb _ (Value.ref (s.heap.objs.size+1)::us) I2.kIn hl) r2 hq) λr s' hq'=>?_))
 cases r with
 |error e=>exact hx pins σ _ _ e s' I2 hq'
 |ok fl=>
  cases fl with
  |ret u=>
   obtain⟨v,H',I3,rv,ev,q3⟩:=I2.after hq';subst ev;exact⟨rv,⟨V.ref (s.heap.objs.size+1),H',I3,rfl,q3⟩⟩
  |next=>exact False.elim hq'
  |brk=>exact False.elim hq'
  |cont=>exact False.elim hq'
theorem RP(M:Mk X.K C f)(F:FnOk X.prog X.w X.K X.mg X.base CX k f fd ps sp)(hr:Room (k+1) X.A)(hg:Gl X x)(hm:X.mg x=some (.ref C))(hb:Binds X.K fd ps ds)(hd:Vals dvs ds)(hx:Cw CX X E)
 (ha:PA X (e::es) t) (hdb:(x==("__debug__":Str))=false:=by decide) (he:starEach (e::es) X.env=(false,eval e X.env)::starEach es X.env:=by rfl) (hpl:(backTo pos (starEach es X.env)).any (·.1)=false:=by rfl):
 PE X (.Call (.Name x p) (e::es) [] pos) (Dt C sp dvs E t):=by
 intro pins s σ H Q I h;refine wpAny_Call_Name_kw (Cm I hg hm ?_ hdb);refine W.callWith_K (h₀:=X.base) I.ok.mod.kin M.kp (thn (ha pos pins s σ H _ I h) λus s1 ⟨vs,H1,I1,r,q⟩=>⟨I1.kIn,?_⟩) he hpl;exact Ib M F hr hb hd hx I1 r q
theorem Px(M:Mk X.K C f)(F:FnOk X.prog X.w X.K X.mg X.base CX k f fd ps sp)(hr:Room (k+1) X.A)(hg:Gl X x)(hm:X.mg x=some (.ref C))(hb:Binds X.K fd ps ds)(hd:Vals dvs ds)(hx:Cw CX X E)
 (hdb:(x==("__debug__":Str))=false:=by decide):PE X (.Call (.Name x p) [] [] pos) (Dt C sp dvs E tNil):=by
 intro pins s σ H Q I h;refine wpAny_Call_Name_kw (Cm I hg hm ?_ hdb);exact W.callWith_K0 I.kIn M.kp (Ib (us:=[]) M F hr hb hd hx I .nil h)
end
section
variable{X:Cx}{CX:CXT}{k:Nat}{f C:Addr}{fd:FuncData}{ps ks:List Str}{sp:Sp}{E:XK}{x m:Str}{p pos apos kpos:Pos}{e o:Expr}{es:List Expr}{kws:List Keyword}{te ta:TE}{t tk:TA}{nm:Option Str}
variable{g:List Value->List Value->List Value}{gV:List V->List V->List V}
end
structure FnScope (N P:List Str) (sc:Scope):Prop where
 kind:sc.kind= .function
 co:sc.isCoroutine=false
 gen:sc.isGenerator=false
 nd:N.Nodup
 pre:N.take P.length=P
 par:∀x∈P,sc.names.lookup x=some .local\/sc.names.lookup x=some .cell
 nofree:∀y∈sc.names,y.2≠ .free
theorem IG{kindOf:Str->Option NameKind}{x:Str}:∀ {binds:List (Str×Value)} {m:Str->Option Value},(∀v,(x,v)∉binds)->bindL kindOf binds m x=m x
 |[],_,_=>rfl
 |(n,v)::r,m,h=>by
  unfold bindL;rw[IG λw hw=>h w (List.mem_cons_of_mem _ hw)]
  split
  ·have:x≠n:=by rintro rfl;exact h v List.mem_cons_self
   simp[this]
  ·rfl
theorem II{kindOf:Str->Option NameKind}{x:Str}:∀ {binds:List (Str×Value)} {m:Str->Option Value},(∀v,(x,v)∉binds)->bindC kindOf binds m x=m x
 |[],_,_=>rfl
 |(n,v)::r,m,h=>by
  unfold bindC;rw[II λw hw=>h w (List.mem_cons_of_mem _ hw)]
  split
  ·rfl
  ·have:x≠n:=by rintro rfl;exact h v List.mem_cons_self
   simp[this]
theorem IH{kindOf:Str->Option NameKind}{x:Str}{v:Value}:∀ {P:List Str} {vs:List Value} {i:Nat} {m:Str->Option Value},P.Nodup->P[i]? =some x->vs[i]? =some v->kindOf x=some .local->
 bindL kindOf (P.zip vs) m x=some v
 |[],_,_,_,_,h,_,_=>by simp at h
 |_::_,[],_,_,_,_,h,_=>by simp at h
 |p::P,w::vs,0,m,nd,h1,h2,hk=>by
  simp at h1 h2;subst h1;subst h2;show bindL kindOf ((p,w)::P.zip vs) m p=_;unfold bindL;rw[IG λv hv=>(List.nodup_cons.mp nd).1 (List.of_mem_zip hv).1,if_pos hk];simp
 |p::P,w::vs,i+1,m,nd,h1,h2,hk=>by
  show bindL kindOf ((p,w)::P.zip vs) m x=_;unfold bindL;exact IH (i:=i) (List.nodup_cons.mp nd).2 (by simpa using h1) (by simpa using h2) hk
theorem IJ{kindOf:Str->Option NameKind}{x:Str}{v:Value}:∀ {P:List Str} {vs:List Value} {i:Nat} {m:Str->Option Value},P.Nodup->P[i]? =some x->vs[i]? =some v->kindOf x≠some .local->
 bindC kindOf (P.zip vs) m x=some v
 |[],_,_,_,_,h,_,_=>by simp at h
 |_::_,[],_,_,_,_,h,_=>by simp at h
 |p::P,w::vs,0,m,nd,h1,h2,hk=>by
  simp at h1 h2;subst h1;subst h2;show bindC kindOf ((p,w)::P.zip vs) m p=_;unfold bindC;rw[II λv hv=>(List.nodup_cons.mp nd).1 (List.of_mem_zip hv).1,if_neg hk];simp
 |p::P,w::vs,i+1,m,nd,h1,h2,hk=>by
  show bindC kindOf ((p,w)::P.zip vs) m x=_;unfold bindC;exact IJ (i:=i) (List.nodup_cons.mp nd).2 (by simpa using h1) (by simpa using h2) hk
def start(N:List Str)(vs:List V):St:=vs.map some++List.replicate (N.length-vs.length) none
def Cf(CX:CXT)(P:Program)(w:World)(K:W.Frag)(mg:Str->Option Value)(base:Heap)(N:List Str)(qual:Str)(scope:Scope)(f:Addr)(cd:Value)(A:Around)(outer:List Env)(s:Shared)(H:Hp)(E:XK):Cx where
 prog:=P
 w:=w
 K:=K
 mg:=mg
 base:=base
 A:=A.deeper (envOfC qual scope s.heap.objs.size f cd)
 N:=N
 s₀:=s
 H₀:=H
 env:=envOfC qual scope s.heap.objs.size f cd
 outer:=outer
 stack:=envOfC qual scope s.heap.objs.size f cd::outer
 ex:=[]
 calm:=true
 fn:=λ_=>true
 pn:=[]
 xe:=λe s'=>wpAny (model P w) (A.deeper (envOfC qual scope s.heap.objs.size f cd)) (leaving (envOfC qual scope s.heap.objs.size f cd) e) (λ_ s''=>CX outer H s E e s'') (λe' s''=>CX outer H s E e' s'') s'
theorem JG{sc:Scope}{n:Nat}{x:Str}(h:sc.names.lookup x=some .cell):∃c,(cellsFrom n sc.names []).lookup x=some c:=by
 have q:=W.cellsFrom_some sc.names n [] (.inl h);exact Option.isSome_iff_exists.mp q
theorem Ot{CX:CXT}{P:Program}{w:World}{K:W.Frag}{mg:Str->Option Value}{base:Heap}{N ps:List Str}{qual:Str}{scope:Scope}{f:Addr}{cd:Value}{A:Around}{outer:List Env}{s s1:Shared}{H:Hp}{E:XK}{us:List Value}{vs:List V}
 (S:FnScope N ps scope) (hd:A.handled=none) (e0:Env0 P w K mg base A outer s H) (hl:vs.length=ps.length) (r:Vals vs us)
 (x:InCallC s s.heap.objs.size (bindL (envOfC qual scope s.heap.objs.size f cd).kindOf (ps.zip us) λ_=>none) (cellsFrom (s.heap.objs.size+1) scope.names []) (bindC (envOfC qual scope s.heap.objs.size f cd).kindOf (ps.zip us) λ_=>none) s1):
 Inv (Cf CX P w K mg base N qual scope f cd A outer s H E) [] (start N vs) H s1:=by
 have hpl:ps.length<=N.length:=by have:=congrArg List.length S.pre;rw[List.length_take]at this;lia
 obtain⟨h1,tk,rfl,hk⟩:=x.done;have noA:∀b:Addr,b∉(Cf CX P w K mg base N qual scope f cd A outer s H E).ex:=λb z=>absurd (show b∈([]:List Addr)from z) (by simp);refine⟨⟨e0.mod,S.kind,rfl,rfl,Nat.le_refl _,λy z c h1 h2=>?_,λy hy=>?_,λy c _ h=>?_,λ_=>hd,Around.frames_deeper e0.frames, .inr ⟨rfl,rfl⟩,λb z=>absurd z (noA b),e0.bs,e0.bsz,λb _ _=>noA b,λb z=>absurd z (noA b),e0.funs,e0.frf⟩,
  rfl,e0.bare,Un.kept hk,⟨_,x.toInCall.ns,λi y v h1 h2 h3=>?_⟩,λy c h=>⟨_,x.cell y c h⟩,e0.hok.fresh (Nat.le_refl _),λy c h=>?_,λp hp=>absurd (show p∈([]:List (Addr×Obj))from hp) (by simp),e0.hok.kept hk,?_⟩
 ·exact name_of_addr x.apart (PySem.mem_of_lookup h1) (PySem.mem_of_lookup h2)
 ·have hy:scope.names.lookup y=some .cell\/scope.names.lookup y=some .free:=hy;rcases hy with hy|hy
  ·exact JG hy
  ·exact absurd rfl (S.nofree _ (PySem.mem_of_lookup hy))
 ·exact Nat.le_of_lt (x.above y c (PySem.mem_of_lookup h))
 ·have hi:i<vs.length:=by
   unfold start at h2
   by_cases hi:i<vs.length
   ·exact hi
   ·rw[List.getElem?_append_right (by simpa using hi)]at h2;rw[List.getElem?_replicate]at h2
    split at h2<;>cases h2
  have ha:vs[i]? =some v:=by
   unfold start at h2;rw[List.getElem?_append_left (by simpa using hi),List.getElem?_map]at h2
   cases e:vs[i]? with
   |none=>rw[e]at h2;cases h2
   |some a=>rw[e]at h2;cases h2;rfl
  obtain⟨u,hu,rv⟩:=r.get ha;have hp:ps[i]? =some y:=by
   rw[<-S.pre,List.getElem?_take_of_lt (by lia)];exact h1
  have ndP:ps.Nodup:=by rw[<-S.pre];exact S.nd.sublist (List.take_sublist _ _)
  refine⟨u,rv,?_⟩;rcases S.par y (List.mem_of_getElem? hp)with k|k
  ·exact .inl ⟨k,IH ndP hp hu k⟩
  ·obtain⟨c,e⟩:=JG (n:=s.heap.objs.size+1) k;refine .inr ⟨.inl k,c,e,?_⟩;have q:=x.cell y c e;rw[IJ ndP hp hu (by show scope.names.lookup y≠_;rw[k];decide)]at q;exact q
 ·exact e0.hok.fresh (Nat.le_of_lt (x.above y c (PySem.mem_of_lookup h)))
 ·unfold start;show _=N.length;rw[List.length_append,List.length_map,List.length_replicate];lia
theorem LH{CX:CXT}{P:Program}{w:World}{K:W.Frag}{mg:Str->Option Value}{base:Heap}{k:Nat}{f:Addr}{name qual:Str}{params:Arguments}{body:List Stmt}{scope:Scope}{dV kV doc pm cdv ct oc:Value}{an od:Option Addr}
 {osl:Array (Option Value)} {N ps:List Str} {sp:Sp} (lk:K.lookup f=some ⟨oc,od, .func (W.fnOf name qual params body scope dV kV doc pm an cdv ct),osl⟩) (hcd:W.codeIn K cdv qual=true) (S:FnScope N ps scope)
 (len:∀vs H Q E,sp vs H Q E->vs.length=ps.length)
 (hbody:∀ (A:Around) (outer:List Env) (s:Shared) (H:Hp) (vs:List V) (Q:VK) (E:XK),Room k (A.deeper (envOfC qual scope s.heap.objs.size f cdv))->sp vs H Q E->
   ∃t,PSs (Cf CX P w K mg base N qual scope f cdv A outer s H E) body t/\t {nx:=λ_ H'=>Q .non H',rt:=Q} (start N vs) H):
 FnOk P w K mg base CX (k+1) f (W.fnOf name qual params body scope dV kV doc pm an cdv ct) ps sp:=by
 refine⟨len,λA outer s H args us vs Q E hr e0 hb r hsp=>?_⟩;have hl:=len _ _ _ _ hsp;have KX:K.In s.heap:=e0.mod.kin.keeps λb o e=>(e0.bs b o e).1;have lim:s.heap.NoLimit:=e0.mod.nolimit.keeps λb o e=>(e0.bs b o e).1;have hkind:∀y∈ps.zip us,scope.names.lookup y.1=some .local\/(scope.names.lookup y.1=some .cell/\((cellsFrom (s.heap.objs.size+1) scope.names []).lookup y.1).isSome=true):=λ⟨n,v⟩ hy=>by
  rcases S.par n (List.of_mem_zip hy).1 with q|q
  ·exact .inl q
  ·exact .inr ⟨q,W.cellsFrom_some _ _ _ (.inl q)⟩
 refine codeAny_call_function hr.depth (KX _ _ lk) rfl S.co S.gen rfl (W.codeRec_of KX hcd) (hb _ _ _ _ ?_);refine wpAny_newFunctionEnv_cells S.kind hkind λenv he s1 x=>?_;subst he;refine⟨lim.keeps x.toInCall.keep,codeAny_func ?_⟩;obtain⟨t,ht,hq⟩:=hbody A outer s H vs Q E (hr.deeper _) hsp;have I:Inv (Cf CX P w K mg base N qual scope f cdv A outer s H E) [] (start N vs) H s1:=Ot S hr.hd e0 hl r x;refine wpAny_mono (ht [] s1 (start N vs) H _ I hq) (λfl s' hs=>?_) λe s' hs=>hs;have fin:∀ {σ':St} {H':Hp} {v:V} {u:Value},Inv (Cf CX P w K mg base N qual scope f cdv A outer s H E) [] σ' H' s'->RelV v u->Q v H'->CE outer P w H s Q u s':=
  fun{σ' H' v u} J rv q=>⟨v,H',J.os,J.bare,J.base,J.hok,rv,q⟩
 cases fl with
 |ret u=>
  obtain⟨v,σ',H',J,rv,q⟩:=hs;exact fin J rv q
 |next=>
  obtain⟨σ',H',J,q⟩:=hs;exact fin (v:=V.non) (u:=Value.none) J rfl q
 |brk=>
  obtain⟨_,_,_,q⟩:=hs;exact False.elim q
 |cont=>
  obtain⟨_,_,_,q⟩:=hs;exact False.elim q
section
variable{X:Cx}{x:Str}{p pos:Pos}{e:Expr}{es:List Expr}{t:TA}{id T:String}{r:List V->Hp->VK->Prop}
def tCB(r:List V->Hp->VK->Prop)(t:TA):TE:=λσ H Q=>t σ H λvs H1=>r vs H1 Q
theorem Ag(hc:CallR X (.builtin id) r)(hg:Gl X x)(hm:X.mg x=none)(hv:bootBuiltins x=some (.builtin id))(ha:PA X (e::es) t)(hn:x≠"__name__":=by decide)(hdb:(x==("__debug__":Str))=false:=by decide)
 (he:starEach (e::es) X.env=(false,eval e X.env)::starEach es X.env:=by rfl) (hpl:(backTo pos (starEach es X.env)).any (·.1)=false:=by rfl):PE X (.Call (.Name x p) (e::es) [] pos) (tCB r t):=by
 intro pins s σ H Q I h;refine wpAny_Call_Name_kw (Bn I hg hm hv ?_ hn hdb);exact PyProof.Rows.callWith_builtin1 (thn (ha pos pins s σ H _ I h) λus s1 ⟨vs,H1,I1,r1,q1⟩=>hc pins s1 σ H1 vs us Q I1 r1 q1) he hpl
theorem Bh(hc:CallR X (.type T) r)(hg:Gl X x)(hm:X.mg x=none)(hv:bootBuiltins x=some (.type T))(ha:PA X (e::es) t)(hn:x≠"__name__":=by decide)(hdb:(x==("__debug__":Str))=false:=by decide)
 (he:starEach (e::es) X.env=(false,eval e X.env)::starEach es X.env:=by rfl) (hpl:(backTo pos (starEach es X.env)).any (·.1)=false:=by rfl):PE X (.Call (.Name x p) (e::es) [] pos) (tCB r t):=by
 intro pins s σ H Q I h;refine wpAny_Call_Name_kw (Bn I hg hm hv ?_ hn hdb);exact PyProof.Rows.callWith_type1 (thn (ha pos pins s σ H _ I h) λus s1 ⟨vs,H1,I1,r1,q1⟩=>hc pins s1 σ H1 vs us Q I1 r1 q1) he hpl
end
end L2
namespace HT
open PySem PyProof.Rows
section
open PySem.SeqAt
open PySem.AutoSeq1 (wpAny_loadPart')
open PySem.MeetsSeq PySem.MeetsSeq2 PySem.MeetsSeq3
end
section
variable{prog:Program}{w:World}{A:Around}{E:Value->Shared->Prop}{s:Shared}
def sIx(n d:Nat):Option Int->Nat
 |none=>d
 |some v=>if v<0 then(v+(n:Int)).toNat else min v.toNat n
theorem sIx_none(n d:Nat):sIx n d none=d:=rfl
theorem sIx_nat(n d k:Nat):sIx n d (some (k:Int))=min k n:=by
 show(if(k:Int)<0 then((k:Int)+(n:Int)).toNat else min (k:Int).toNat n)=min k n;rw[if_neg (by lia),Int.toNat_natCast]
theorem sIx_le(n d:Nat)(hd:d<=n)(o:Option Int):sIx n d o<=n:=by
 cases o with
 |none=>exact hd
 |some v=>
  show(if v<0 then(v+(n:Int)).toNat else min v.toNat n)<=n
  by_cases hv:v<0
  ·rw[if_pos hv];lia
  ·rw[if_neg hv];exact Nat.min_le_right _ _
end
end HT
namespace L2
open PySem PySem.Spec PyProof.Rows
abbrev TO:=St->Hp->(Option Int->Hp->Prop)->Prop
def PO(X:Cx)(e:Option Expr)(t:TO):Prop:=
 ∀ (pins:List (Addr×Obj)) (s:Shared) (σ:St) (H:Hp) (Q:Option Int->Hp->Prop),Inv X pins σ H s->t σ H Q->
   wpAny (model X.prog X.w) X.A (evalPart e X.env) (λu s'=>∃o H',Inv X pins σ H' s'/\IsPart u o/\Q o H') X.xe s
def tNoPart:TO:=λ_ H Q=>Q none H
def GH(t:TE):TO:=λσ H Q=>t σ H λx H1=>∃i,x= .int i/\Q (some i) H1
theorem HS{ns:List Int}:∀ {us:List Value},Vals (ns.map V.int) us->IntsAre us ns:=by
 induction ns with
 |nil=>intro us r;rw[List.map_nil]at r;cases r;exact .nil
 |cons n ns ih=>
  intro us r;rw[List.map_cons]at r
  cases r with
  |cons r1 r2=>
   obtain⟨t,e⟩:=r1;subst e;exact .cons n t (ih r2)
section
variable{X:Cx}{e:Expr}{te:TE}{lo hi:Option Expr}{tl th:TO}{pos p2:Pos}
theorem BR:PO X none tNoPart:=by
 intro pins s σ H Q I h;rw[evalPart_none];exact wpAny_pure ⟨none,H,I, .none,h⟩
theorem BQ(h:PE X e te):PO X (some e) (GH te):=by
 intro pins s σ H Q I hw;rw[evalPart_some];refine thn (h pins s σ H _ I hw) λu s1 z_=>?_;obtain⟨x,H1,I1,r1,q1⟩:=z_;obtain⟨i,rfl,q⟩:=q1;obtain⟨t,rfl⟩:=r1;exact⟨some i,H1,I1, .int i t,q⟩
def SlR(X:Cx)(r:V->Option Int->Option Int->Hp->VK->Prop):Prop:=
 ∀ (pins:List (Addr×Obj)) (s:Shared) (σ:St) (H:Hp) (x:V) (v vl vu:Value) (lo hi:Option Int) (sl:Addr) (Q:VK),Inv X pins σ H s->RelV x v->s.heap.IsSliceOf sl vl vu .none->IsPart vl lo->IsPart vu hi->r x lo hi H Q->
   ∃T id,typeLookup (.type T) "__getitem__"=pure (some (.builtin id))/\s.TypeIs v T/\wpAny (model X.prog X.w) X.A (getItem v (.ref sl)) (EP X pins σ Q) X.xe s
theorem SlR.or{r r':V->Option Int->Option Int->Hp->VK->Prop}(h:SlR X r)(h':SlR X r'):SlR X (λx lo hi H Q=>r x lo hi H Q\/r' x lo hi H Q):=by
 intro pins s σ H x v vl vu lo hi sl Q I rx hs pl pu q;rcases q with q|q
 ·exact h pins s σ H x v vl vu lo hi sl Q I rx hs pl pu q
 ·exact h' pins s σ H x v vl vu lo hi sl Q I rx hs pl pu q
def tSl(r:V->Option Int->Option Int->Hp->VK->Prop)(te:TE)(tl th:TO):TE:=λσ H Q=>te σ H λx H1=>tl σ H1 λl H2=>th σ H2 λu H3=>r x l u H3 Q
theorem BP{r:V->Option Int->Option Int->Hp->VK->Prop}(hr:SlR X r)(he:PE X e te)(hl:PO X lo tl)(hu:PO X hi th):PE X (.Subscript e (.Slice lo hi none p2) pos) (tSl r te tl th):=by
 intro pins s σ H Q I h;refine Subscript_ (thn (he pins s σ H _ I h) λv s1 z_=>?_);obtain⟨x,H1,I1,r1,q1⟩:=z_;refine wpAny_Slice (thn (hl pins s1 σ H1 _ I1 q1) λvl s2 ⟨l,H2,I2,pl,q2⟩=>thn (hu pins s2 σ H2 _ I2 q2) λvu s3 z_=>?_);obtain⟨u,H3,I3,pu,q3⟩:=z_;rw[evalPart_none];refine wpAny_pure ?_;have I4:Inv X pins σ H3 {s3 with heap:=s3.heap.push {cls:= .type "slice",data:= .fields #[vl,vu, .none]}}:=I3.kept (t':=s3.toks) λb ob q=>Heap.get?_push_of_some _ q;obtain⟨T,id,hT,ht,hg⟩:=hr pins {s3 with heap:=s3.heap.push {cls:= .type "slice",data:= .fields #[vl,vu, .none]}} σ H3 x v vl vu l u s3.heap.objs.size Q I4 r1 (Heap.IsSliceOf.new ..) pl pu q3;show wpAny (model X.prog X.w) X.A (subscriptTail e (.Slice lo hi none p2) v (.ref s3.heap.objs.size)) (EP X pins σ Q) X.xe {s3 with heap:=s3.heap.push {cls:= .type "slice",data:= .fields #[vl,vu, .none]}};exact tail_any (ops:=[.ref s3.heap.objs.size,v]) ht hT hg (by with_unfolding_all rfl)
def C6(xs:List V)(lo hi:Option Int):List V:=(xs.drop (HT.sIx xs.length 0 lo)).take (HT.sIx xs.length xs.length hi-HT.sIx xs.length 0 lo)
theorem NU(xs:List V)(lo hi:Option Int):(C6 xs lo hi).length<=xs.length:=by
 unfold C6;rw[List.length_take,List.length_drop];lia
end
def ixN(n:Nat)(i:Int):Option Nat:=if 0<=i then(if i<n then some i.toNat else none)else if -(n:Int)<=i then some (i+n).toNat else none
def atI{α:Type}(xs:List α)(i:Int):Option α:=(ixN xs.length i).bind λj=>xs[j]?
theorem Jr{n:Nat}{i:Int}{j:Nat}(h:ixN n i=some j):seqIndex? i n=some j/\j<n/\ -(n:Int)<=i/\i<n:=by
 unfold ixN at h
 by_cases h0:0<=i
 ·rw[if_pos h0]at h
  by_cases h1:i<n
  ·rw[if_pos h1]at h;have e:i.toNat=j:=Option.some.inj h;exact⟨by rw[seqIndex_of h0 h1,e],by lia,by lia,h1⟩
  ·rw[if_neg h1]at h;cases h
 ·rw[if_neg h0]at h
  by_cases h1: -(n:Int)<=i
  ·rw[if_pos h1]at h;have e:(i+n).toNat=j:=Option.some.inj h;exact⟨by rw[seqIndex_neg (by lia) h1,e],by lia,h1,by lia⟩
  ·rw[if_neg h1]at h;cases h
theorem Fs{α:Type}{xs:List α}{i:Int}{v:α}(h:atI xs i=some v):∃j,seqIndex? i xs.length=some j/\xs[j]? =some v/\j<xs.length/\ -(xs.length:Int)<=i/\i<xs.length:=by
 unfold atI at h
 cases e:ixN xs.length i with
 |none=>rw[e]at h;cases h
 |some j=>
  rw[e]at h;obtain⟨h1,h2,h3,h4⟩:=Jr e;exact⟨j,h1,h,h2,h3,h4⟩
theorem Av{α:Type}{xs:List α}{j:Nat}{v:α}(h:xs[j]? =some v):atI xs (j:Int)=some v:=by
 have hj:j<xs.length:=(List.getElem?_eq_some_iff.mp h).1;have e:ixN xs.length (j:Int)=some j:=by
  unfold ixN;rw[if_pos (by lia),if_pos (by lia)];simp
 unfold atI;rw[e];exact h
theorem Qa{α:Type}(xs:List α)(v:α):atI (xs++[v]) (-1)=some v:=by
 have hl:(xs++[v]).length=xs.length+1:=by simp
 have e:ixN (xs++[v]).length (-1)=some xs.length:=by
  unfold ixN;rw[hl,if_neg (by decide),if_pos (by lia)];congr 1;lia
 unfold atI;rw[e];show(xs++[v])[xs.length]? =some v;simp
def KC(b:Expr):Prop:=∀o i,subscripted b false o i=operate [o,i] (getItem o i)
def IxR(X:Cx)(r:R2):Prop:=
 ∀ (value slice:Expr) (pins:List (Addr×Obj)) (s:Shared) (σ:St) (H:Hp) (x y:V) (v u:Value) (Q:VK),Inv X pins σ H s->RelV x v->RelV y u->r x y H Q->
   subscripted slice false v u=operate [v,u] (getItem v u)->wpAny (model X.prog X.w) X.A (subscriptTail value slice v u) (EP X pins σ Q) X.xe s
def MtR(X:Cx)(id:String)(r:V->List V->Hp->VK->Prop):Prop:=
 ∀ (pins:List (Addr×Obj)) (s:Shared) (σ:St) (H:Hp) (x:V) (xs:List V) (v:Value) (us:List Value) (Q:VK),Inv X pins σ H s->RelV x v->Vals xs us->r x xs H Q->
   wpAny (model X.prog X.w) X.A (call (.builtin id) (v::us)) (EP X pins σ Q) X.xe s
section
variable{X:Cx}{a b:Expr}{ta tb:TE}{pos:Pos}
theorem IxR.or{r r':R2}(h:IxR X r)(h':IxR X r'):IxR X (λx y H Q=>r x y H Q\/r' x y H Q):=by
 intro value slice pins s σ H x y v u Q I rx ry q hs;rcases q with q|q
 ·exact h value slice pins s σ H x y v u Q I rx ry q hs
 ·exact h' value slice pins s σ H x y v u Q I rx ry q hs
theorem U8{r:R2}(hr:IxR X r)(ha:PE X a ta)(hb:PE X b tb)(hs:KC b):PE X (.Subscript a b pos) (tOp r ta tb):=by
 intro pins s σ H Q I h;exact Subscript_ (Gi ha hb I h λv u s2 x y H2 I2 rx ry q=>hr a b pins s2 σ H2 x y v u Q I2 rx ry q (hs _ _))
def Lj(K:W.Frag):R2:=λx y H Q=>∃p xs i v,x= .ref p/\y= .int i/\SqL K H p xs/\atI xs i=some v/\Q v H
def Li(K:W.Frag):R2:=λx y H Q=>∃p xs i v,x= .ref p/\y= .int i/\SqT K H p xs/\atI xs i=some v/\Q v H
def rIxS:R2:=λx y H Q=>∃z i c,x= .str z/\y= .int i/\z.length<=sizeLine/\atI z.cps.toList i=some c/\Q (.str ⟨#[c]⟩) H
theorem ix_list:IxR X (Lj X.K):=by
 intro value slice pins s σ H x y v u Q I rx ry h hs;obtain⟨p,xs,i,z,rfl,rfl,hq,he,q⟩:=h
 cases rx
 obtain⟨t,rfl⟩:=ry;obtain⟨its,r,pl,hz⟩:=I.list hq;obtain⟨j,h1,h2,h3,h4,h5⟩:=Fs he;obtain⟨w,ew,rw'⟩:=r.get h2;have hl:=r.length;have hn:=Ca;have fin:EP X pins σ Q w s:=⟨z,H,I,rw',q⟩
 by_cases h0:0<=i
 ·have hj:i.toNat=j:=by
   rw[seqIndex_of h0 h5]at h1;exact Option.some.inj h1
  exact item_listR pl.isList h0 (by lia) (by rw[hj];simpa using ew) fin hs
 ·have hj:(i+(its.toArray.size:Int)).toNat=j:=by
   rw[seqIndex_neg (by lia) h4]at h1;rw[List.size_toArray,<-hl];exact Option.some.inj h1
  exact subscriptTail_builtinR (x:=w) pl.isList.typeIs slot_list_getitem.lookup
   (wpAny_getItem_list_neg (Q:=λr s'=>r=w/\EP X pins σ Q r s') pl.isList (by lia) (by rw[List.size_toArray]<;>lia) (by lia) (by rw[hj];simpa using ew) ⟨rfl,fin⟩) hs
theorem Tz:IxR X (Li X.K):=by
 intro value slice pins s σ H x y v u Q I rx ry h hs;obtain⟨p,xs,i,z,rfl,rfl,hq,he,q⟩:=h
 cases rx
 obtain⟨t,rfl⟩:=ry;obtain⟨its,r,pl,hz⟩:=I.tuple hq;obtain⟨j,h1,h2,h3,h4,h5⟩:=Fs he;obtain⟨w,ew,rw'⟩:=r.get h2;have hl:=r.length;have hn:=Ca;have fin:EP X pins σ Q w s:=⟨z,H,I,rw',q⟩;exact subscriptTail_builtinR (x:=w) pl.typeIs slot_tuple_getitem.lookup
  (getItem_tuple (j:=j) (Q:=λr s'=>r=w/\EP X pins σ Q r s') pl (by lia) (by lia) (by rw[List.size_toArray,<-hl];exact h1) (by simpa using ew) ⟨rfl,fin⟩) hs
theorem UA:IxR X rIxS:=by
 intro value slice pins s σ H x y v u Q I rx ry h hs;obtain⟨z,i,c,rfl,rfl,hz,he,q⟩:=h;obtain⟨t,rfl⟩:=rx;obtain⟨t',rfl⟩:=ry;obtain⟨j,h1,h2,h3,h4,h5⟩:=Fs he;have hl:z.cps.toList.length=z.length:=by simp[Str.length]
 rw[hl]at h1 h4 h5;have hn:=Ca;exact tail_any (typeIs_str s z t) slot_str_getitem.lookup (getItem_str (c:=c) (by
  have e1:decide (i< -(2^63:Int))=false:=decide_eq_false (by lia);have e2:decide (i>=2^63)=false:=decide_eq_false (by lia);rw[e1,e2,Bool.or_false]) (by rw[h1];simpa using h2) ⟨.str ⟨#[c]⟩,H,I.tok _,⟨_,rfl⟩,q⟩) hs
theorem Nw(its:List Value)(n j:Nat)(u:Value):Obj.mapSeq (·.setIfInBounds j u) {cls:= .type "list",data:= .seq its.toArray n}={cls:= .type "list",data:= .seq (its.set j u).toArray n}:=by
 simp[Obj.mapSeq]
theorem Inv.lst{pins:List (Addr×Obj)}{σ:St}{H:Hp}{s:Shared}{p:Addr}{xs:List V}(I:Inv X pins σ H s)(h:H p=some (.lst xs)):
 ∃ (its:List Value) (n:Nat),Vals xs its/\s.heap.get? p=some {cls:= .type "list",data:= .seq its.toArray n}/\xs.length<=sizeLine:=by
 obtain⟨z,its,n,r,e⟩:=I.hok p _ h;exact⟨its,n,r,e,z⟩
theorem Inv.lstUpd{pins:List (Addr×Obj)}{σ:St}{H:Hp}{s:Shared}{p:Addr}{xs ys:List V}{its its':List Value}{n n':Nat}{f:Obj->Obj}(I:Inv X pins σ H s)(h:H p=some (.lst xs))
 (ho:s.heap.get? p=some {cls:= .type "list",data:= .seq its.toArray n}) (hf:f {cls:= .type "list",data:= .seq its.toArray n}={cls:= .type "list",data:= .seq its'.toArray n'}) (r:Vals ys its') (hz:ys.length<=sizeLine) (t:Nat):
 Inv X pins σ (upd H p (.lst ys)) {s with heap:=s.heap.update p f,toks:=t}:=by
 have e:(s.heap.update p f).get? p=some {cls:= .type "list",data:= .seq its'.toArray n'}:=by
  rw[Heap.get?_update_self f ho (by rw[hf]<;>rfl),hf]
 refine I.write (x:=p) (e:=p) (by rw[h];trivial) (.inl rfl) (λb u hb q=>(Heap.get?_update_other _ _ (Ne.symm hb)).trans q) ⟨_,e⟩ ?_;exact⟨hz,its',n',r,e⟩
def rSetL:V->V->V->Hp->(Hp->Prop)->Prop:=λo i v H Q=>∃p xs k j,o= .ref p/\i= .int k/\H p=some (.lst xs)/\ixN xs.length k=some j/\Q (upd H p (.lst (xs.set j v)))
theorem B4:Gj X rSetL:=by
 intro pins s σ H o i v ov iv u Q I ro ri rv h;obtain⟨p,xs,k,j,rfl,rfl,hp,hj,q⟩:=h
 cases ro
 obtain⟨t,rfl⟩:=ri;obtain⟨its,n,r,ho,hz⟩:=I.lst hp;obtain⟨h1,h2,h3,h4⟩:=Jr hj;have hl:=r.length;have hn:=Ca;have I':Inv X pins σ (upd H p (.lst (xs.set j v))) {s with heap:=s.heap.update p (Obj.mapSeq (·.setIfInBounds j u))}:=
  I.lstUpd hp ho (Nw its n j u) (r.set rv j) (by rw[List.length_set];exact hz) s.toks
 by_cases h0:0<=k
 ·have hk:k.toNat=j:=by
   rw[seqIndex_of h0 h4]at h1;exact Option.some.inj h1
  exact W.ki_setAt ho h0 (by lia) (by rw[List.size_toArray,<-hl];exact h4) (by rw[hk];exact⟨_,I',q⟩)
 ·have hk:(k+(its.toArray.size:Int)).toNat=j:=by
   rw[seqIndex_neg (by lia) h3]at h1;rw[List.size_toArray,<-hl];exact Option.some.inj h1
  exact W.ki_setBack ho (by lia) (by rw[List.size_toArray,<-hl];exact h3) (by lia) (by rw[hk];exact⟨_,I',q⟩)
theorem Mj(lo hi:Option Int)(n:Nat):(sliceBounds lo hi none n).1=((HT.sIx n 0 lo:Nat):Int)/\(sliceBounds lo hi none n).2.1=((HT.sIx n n hi:Nat):Int)/\(sliceBounds lo hi none n).2.2=1:=by
 refine⟨?_,?_,rfl⟩
 ·cases lo with
  |none=>simp[sliceBounds,HT.sIx]
  |some i=>
   simp only[sliceBounds,HT.sIx,Option.getD_none,show(1:Int)>0 by decide,if_true]
   by_cases h:i<0
   ·simp only[h,if_true]<;>lia
   ·simp only[h,if_false]<;>lia
 ·cases hi with
  |none=>simp[sliceBounds,HT.sIx]
  |some i=>
   simp only[sliceBounds,HT.sIx,Option.getD_none,show(1:Int)>0 by decide,if_true]
   by_cases h:i<0
   ·simp only[h,if_true]<;>lia
   ·simp only[h,if_false]<;>lia
theorem Md(its:List Value)(lo hi:Option Int):slicePick its.toArray lo hi none=((its.drop (HT.sIx its.length 0 lo)).take (HT.sIx its.length its.length hi-HT.sIx its.length 0 lo)).toArray:=by
 obtain⟨h1,h2,h3⟩:=Mj lo hi its.toArray.size;unfold slicePick;rw[h1,h2,h3];simp only[sliceRange_one,pick_run,List.size_toArray]<;>rfl
def Lh(K:W.Frag):V->Option Int->Option Int->Hp->VK->Prop:=λx lo hi H Q=>∃a xs,x= .ref a/\SqL K H a xs/\∀p,H p=none->Q (.ref p) (upd H p (.lst (C6 xs lo hi)))
theorem Qk:SlR X (Lh X.K):=by
 intro pins s σ H x v vl vu lo hi sl Q I rx hs pl pu h;obtain⟨a,xs,rfl,hx,q⟩:=h
 cases rx
 obtain⟨its,r,ht,hz⟩:=I.list hx;have hlen:=r.length;refine⟨"list",_,slot_list_getitem.lookup,ht.isList.typeIs,?_⟩;refine wpAny_getItem_list_slice ht.isList hs pl pu .none (by simp) ?_ (by rw[List.size_toArray]<;>lia);rw[Md,<-hlen];refine⟨.ref s.heap.objs.size,_,I.laid (t':=s.toks) (o:= .lst (C6 xs lo hi)) (λb ob q=>Heap.get?_push_of_some _ q) (Nat.le_refl _) ?_,rfl,q _ (I.hok.fresh (Nat.le_refl _))⟩;exact⟨Nat.le_trans (NU xs lo hi) hz,_,0,(r.drop (HT.sIx xs.length 0 lo)).take (HT.sIx xs.length xs.length hi-HT.sIx xs.length 0 lo),Heap.get?_push_size _ rfl⟩
def Am:V->Bool
 | .non=>true
 | .bl _=>true
 | .int _=>true
 | .str _=>true
 |_=>false
def eqV:V->V->Bool
 | .non, .non=>true
 | .bl a, .bl b=>a==b
 | .bl a, .int b=>(if a then 1 else 0)==b
 | .int a, .bl b=>a==(if b then 1 else 0)
 | .int a, .int b=>a==b
 | .str a, .str b=>a==b
 |_,_=>false
theorem GD{A:Around}{s:Shared}{y x:V}{u v:Value}(ry:RelV y u)(rx:RelV x v)(fy:Am y=true)(fx:Am x=true):SeqAt.EqAt A s u v (eqV y x):=by
 cases y with
 |non=>
  cases ry
  cases x with
  |non=>cases rx;exact SeqAt.EqAt.same _
  |bl b=>cases rx;exact SeqAt.EqAt.none_bool b
  |int b=>obtain⟨t,rfl⟩:=rx;exact SeqAt.EqAt.none_int b t
  |str b=>obtain⟨t,rfl⟩:=rx;exact SeqAt.EqAt.none_str b t
  |_=>exact absurd (show false=true from fx) Bool.false_ne_true
 |bl a=>
  cases ry
  cases x with
  |non=>cases rx;exact SeqAt.EqAt.bool_none a
  |bl b=>cases rx;exact SeqAt.EqAt.bool_bool a b
  |int b=>obtain⟨t,rfl⟩:=rx;exact SeqAt.EqAt.bool_int a b t
  |str b=>obtain⟨t,rfl⟩:=rx;exact SeqAt.EqAt.bool_str a b t
  |_=>exact absurd (show false=true from fx) Bool.false_ne_true
 |int a=>
  obtain⟨t',rfl⟩:=ry
  cases x with
  |non=>cases rx;exact SeqAt.EqAt.int_none a t'
  |bl b=>cases rx;exact SeqAt.EqAt.int_bool a t' b
  |int b=>obtain⟨t,rfl⟩:=rx;exact SeqAt.EqAt.int_int a t' b t
  |str b=>obtain⟨t,rfl⟩:=rx;exact SeqAt.EqAt.int_str a t' b t
  |_=>exact absurd (show false=true from fx) Bool.false_ne_true
 |str a=>
  obtain⟨t',rfl⟩:=ry
  cases x with
  |non=>cases rx;exact SeqAt.EqAt.str_none a t'
  |bl b=>cases rx;exact SeqAt.EqAt.str_bool a t' b
  |int b=>obtain⟨t,rfl⟩:=rx;exact SeqAt.EqAt.str_int a t' b t
  |str b=>obtain⟨t,rfl⟩:=rx;exact SeqAt.EqAt.str_str a t' b t
  |_=>exact absurd (show false=true from fx) Bool.false_ne_true
 |_=>exact absurd (show false=true from fy) Bool.false_ne_true
def eqU(x:V)(u:Value):Bool:=match u with
 | .none=>eqV .non x
 | .bool b=>eqV (.bl b) x
 | .int i _=>eqV (.int i) x
 | .str z _=>eqV (.str z) x
 |_=>false
theorem Kf{x y:V}{u:Value}(r:RelV y u)(f:Am y=true):eqU x u=eqV y x:=by
 cases y with
 |non=>cases r;rfl
 |bl b=>cases r;rfl
 |int i=>obtain⟨t,rfl⟩:=r;rfl
 |str z=>obtain⟨t,rfl⟩:=r;rfl
 |_=>exact absurd (show false=true from f) Bool.false_ne_true
theorem Dl{x:V}:∀ {xs:List V} {us:List Value},Vals xs us->xs.all Am=true->us.any (eqU x)=xs.any λy=>eqV y x
 |_,_, .nil,_=>rfl
 |y::xs,u::us, .cons r t,f=>by
  rw[List.all_cons,Bool.and_eq_true]at f;rw[List.any_cons,List.any_cons,Kf r f.1,Dl t f.2]
theorem Dc{A:Around}{s:Shared}{x:V}{v:Value}(rx:RelV x v)(fx:Am x=true):∀ {xs:List V} {us:List Value},Vals xs us->xs.all Am=true->∀u∈us,SeqAt.EqAt A s u v (eqU x u)
 |_,_, .nil,_=>λu hu=>by cases hu
 |y::xs,u::us, .cons r t,f=>λu' hu=>by
  rw[List.all_cons,Bool.and_eq_true]at f;rcases List.mem_cons.mp hu with rfl|hu
  ·rw[Kf r f.1];exact GD r rx f.1 fx
  ·exact Dc rx fx t f.2 u' hu
def inV(x:V)(xs:List V):Bool:=xs.any λy=>eqV y x
def rIn(K:W.Frag)(neg:Bool):R2:=λx y H Q=>∃p xs,y= .ref p/\(SqL K H p xs\/SqT K H p xs)/\Am x=true/\xs.all Am=true/\Q (.bl (if neg then !inV x xs else inV x xs)) H
theorem OX:OpR X (compareOp .In) (rIn X.K false):=by
 intro pins s σ H x y v u Q I rx ry h;obtain⟨p,xs,rfl,hq,fx,fs,q⟩:=h
 cases ry
 rcases hq with hq|hq
 ·obtain⟨its,r,pl,hz⟩:=I.list hq;refine SeqAt.in_listAt (eqU x) pl.isList (λw hw=>Dc rx fx r fs w (by simpa using hw)) ⟨.bl _,H,I,rfl,?_⟩;rw[show its.toArray.any (eqU x)=its.any (eqU x) by simp,Dl r fs];exact q
 ·obtain⟨its,r,pl,hz⟩:=I.tuple hq;refine SeqAt.in_tupleAt (eqU x) pl (λw hw=>Dc rx fx r fs w (by simpa using hw)) ⟨.bl _,H,I,rfl,?_⟩;rw[show its.toArray.any (eqU x)=its.any (eqU x) by simp,Dl r fs];exact q
theorem Mm:OpR X (compareOp .NotIn) (rIn X.K true):=by
 intro pins s σ H x y v u Q I rx ry h;obtain⟨p,xs,rfl,hq,fx,fs,q⟩:=h
 cases ry
 rcases hq with hq|hq
 ·obtain⟨its,r,pl,hz⟩:=I.list hq;refine SeqAt.notIn_listAt (eqU x) pl.isList (λw hw=>Dc rx fx r fs w (by simpa using hw)) ⟨.bl _,H,I,rfl,?_⟩;rw[show its.toArray.any (eqU x)=its.any (eqU x) by simp,Dl r fs];exact q
 ·obtain⟨its,r,pl,hz⟩:=I.tuple hq;refine SeqAt.notIn_tupleAt (eqU x) pl (λw hw=>Dc rx fx r fs w (by simpa using hw)) ⟨.bl _,H,I,rfl,?_⟩;rw[show its.toArray.any (eqU x)=its.any (eqU x) by simp,Dl r fs];exact q
theorem Mx:CallR X (.builtin "len") (λxs H Q=>∃p ys,xs=[.ref p]/\(SqL X.K H p ys\/SqT X.K H p ys)/\Q (.int ys.length) H):=by
 intro pins s σ H xs us Q I r h;obtain⟨p,ys,rfl,hq,q⟩:=h;obtain⟨u,rfl,rx⟩:=vals1 r
 cases rx
 have hn:=Ca;rcases hq with hq|hq
 ·obtain⟨its,r',pl,hz⟩:=I.list hq;have hlen:=r'.length;exact Calls.call_len_list pl.isList (by simp only[List.size_toArray]<;>lia) ⟨.int ys.length,H,I.tok _,⟨s.toks+1,by rw[List.size_toArray,hlen]⟩,q⟩
 ·obtain⟨its,r',pl,hz⟩:=I.tuple hq;have hlen:=r'.length;exact len_tuple pl (by simp only[List.size_toArray]<;>lia) ⟨.int ys.length,H,I.tok _,⟨s.toks+1,by rw[List.size_toArray,hlen]⟩,q⟩
theorem Mw:CallR X (.builtin "len") (λxs H Q=>∃z,xs=[.str z]/\z.length<=sizeLine/\Q (.int z.length) H):=by
 intro pins s σ H xs us Q I r h;obtain⟨z,rfl,hz,q⟩:=h;obtain⟨u,rfl,t,rfl⟩:=vals1 r;have hn:=Ca;exact len_str (by lia) ⟨.int z.length,H,I.tok _,⟨_,rfl⟩,q⟩
theorem CallR.or{f:Value}{r r':List V->Hp->VK->Prop}(h:CallR X f r)(h':CallR X f r'):CallR X f (λxs H Q=>r xs H Q\/r' xs H Q):=by
 intro pins s σ H xs us Q I rs q;rcases q with q|q
 ·exact h pins s σ H xs us Q I rs q
 ·exact h' pins s σ H xs us Q I rs q
theorem Mv:CallR X (.type "list") (λxs H Q=>∃p ys,xs=[.ref p]/\(SqL X.K H p ys\/SqT X.K H p ys)/\∀l,H l=none->Q (.ref l) (upd H l (.lst ys))):=by
 intro pins s σ H xs us Q I r h;obtain⟨p,ys,rfl,hq,q⟩:=h;obtain⟨u,rfl,rx⟩:=vals1 r
 cases rx
 have fin:∀ (its:List Value),Vals ys its->ys.length<=sizeLine->∀ (h':Heap) (c':Nat),(∀b o',s.heap.get? b=some o'->h'.get? b=some o')->
  h'.get? s.heap.objs.size=some {cls:= .type "list",dict:=none,data:= .seq its.toArray c',slots:= #[]}->EP X pins σ Q (.ref s.heap.objs.size) {s with heap:=h'}:=λits r' hz h' c' kp e=>
  ⟨.ref s.heap.objs.size,_,I.laid (t':=s.toks) kp (Nat.le_refl _) (show ObjOk X.prog X.w _ h' _ (.lst ys)from⟨hz,its,c',r',e⟩),rfl,q _ (I.hok.fresh (Nat.le_refl _))⟩
 rcases hq with hq|hq
 ·obtain⟨its,r',pl,hz⟩:=I.list hq;have hlen:=r'.length;obtain⟨o,ho,hc,n,hd⟩:=pl.isList;exact call_list_seq p (.inl rfl) ho hc hd (λh' c' kp e=>fin its r' hz h' c' kp e) (by simp only[List.size_toArray]<;>lia)
 ·obtain⟨its,r',pl,hz⟩:=I.tuple hq;have hlen:=r'.length;obtain⟨o,ho,hc,n,hd⟩:=pl;exact call_list_seq p (.inr rfl) ho hc hd (λh' c' kp e=>fin its r' hz h' c' kp e) (by simp only[List.size_toArray]<;>lia)
def tyV(K:W.Frag)(T:String)(x:V)(H:Hp):Prop:=match x with
 | .str _=>T="str"
 | .int _=>T="int"
 | .ref p=>(T="list"/\∃xs,SqL K H p xs)\/(T="tuple"/\∃o,K.lookup p=some o/\o.cls= .type "tuple"/\o.dict=none)\/
     (T="dict"/\((∃kvs,H p=some (.dK kvs))\/∃kvs,H p=some (.dT kvs)))\/(T="set"/\∃S n,H p=some (.set S n))
 |_=>False
theorem KD{pins:List (Addr×Obj)}{σ:St}{H:Hp}{s:Shared}{T:String}{x:V}{v:Value}(I:Inv X pins σ H s)(r:RelV x v)(ty:tyV X.K T x H):
 s.TypeIs v T/\∀a,v= .ref a->∃ob,s.heap.get? a=some ob/\ob.dict=none:=by
 cases x with
 |str z=>
  obtain⟨t,rfl⟩:=r
  cases(show T="str" from ty)
  exact⟨typeIs_str s z t,λ_ e=>nomatch e⟩
 |int i=>
  obtain⟨t,rfl⟩:=r
  cases(show T="int" from ty)
  exact⟨typeIs_int s i t,λ_ e=>nomatch e⟩
 |ref p=>
  cases r
  rcases ty with⟨rfl,xs,hq⟩|⟨rfl,o,hk,hc,hd⟩|⟨rfl,hk⟩|⟨rfl,S,n,hk⟩
  ·obtain⟨its,_,pl,_⟩:=I.list hq;refine⟨pl.isList.typeIs,λa e=>?_⟩
   cases e
   obtain⟨o,n,e,c,hd,_⟩:=pl;exact⟨o,e,hd⟩
  ·refine⟨⟨o,I.kIn p o hk,hc⟩,λa e=>?_⟩
   cases e
   exact⟨o,I.kIn _ o hk,hd⟩
  ·have z:∃o,s.heap.get? p=some o/\o.ExactDict:=by
    rcases hk with⟨kvs,hk⟩|⟨kvs,hk⟩
    ·obtain⟨_,_,_,_,o,_,_,e,ex,_⟩:=I.hok p _ hk;exact⟨o,e,ex⟩
    ·obtain⟨_,_,_,_,o,_,_,e,ex,_⟩:=I.hok p _ hk;exact⟨o,e,ex⟩
   obtain⟨o,e,ex⟩:=z;refine⟨⟨o,e,ex.1⟩,λa e2=>?_⟩
   cases e2
   exact⟨o,e,ex.2.1⟩
  ·obtain⟨o,_,_,_,e,ex,_⟩:=I.hok p _ hk;refine⟨⟨o,e,ex.1⟩,λa e2=>?_⟩
   cases e2
   exact⟨o,e,ex.2.1⟩
 |_=>exact False.elim ty
def GX(K:W.Frag)(T:String)(r:V->List V->Hp->VK->Prop)(to:TE):TE:=λσ H Q=>to σ H λx H1=>tyV K T x H1/\r x [] H1 Q
def tBM(K:W.Frag)(T:String)(r:V->List V->Hp->VK->Prop)(to:TE)(t:TA):TE:=λσ H Q=>to σ H λx H1=>tyV K T x H1/\t σ H1 λxs H2=>r x xs H2 Q
variable{o e:Expr}{es:List Expr}{to:TE}{t:TA}{name:Str}{apos cpos:Pos}{T id:String}{r:V->List V->Hp->VK->Prop}
theorem TY(pa:PlainAttrs T)(slot:Slot T name id)(hty:typeOf (.builtin id)=pure (.type "method_descriptor"))(hm:MtR X id r)(ho:PE X o to)
 (hbase:attributeBase o name X.env (eval o X.env)=eval o X.env:=by rfl) (hline:(apos.endLine==cpos.line)=true:=by rfl):PE X (.Call (.Attribute o name apos) [] [] cpos) (GX X.K T r to):=by
 intro pins s σ H Q I h;refine wpAny_Call_method0_late hbase hline (thn (ho pins s σ H _ I h) λv s1 z_=>?_);obtain⟨x,H1,I1,r1,ty,q1⟩:=z_;obtain⟨h1,h2⟩:=KD I1 r1 ty;exact⟨T,id,pa,slot,hty,h1,h2,Calls.callWith_builtin rfl (PySem.evalArgs_none (hm pins s1 σ H1 x [] v [] Q I1 r1 .nil q1))⟩
theorem U9(pa:PlainAttrs T)(slot:Slot T name id)(hty:typeOf (.builtin id)=pure (.type "method_descriptor"))(hm:MtR X id r)(ho:PE X o to)(ha:PA X (e::es) t)
 (hbase:attributeBase o name X.env (eval o X.env)=eval o X.env:=by rfl)
 (hfew:((backTo cpos (starEach (e::es) X.env)).all (λx=> !x.1)&&(backToKw cpos (keywordEach [] X.env)).all (λx=>x.1.isSome)
   &&decide ((e::es).length+([]:List Keyword).length+(if([]:List Keyword).isEmpty then 0 else 1)<30))=true:=by rfl)
 (hline:(apos.endLine==cpos.line)=true:=by rfl) (hs:starEach (e::es) X.env=(false,eval e X.env)::starEach es X.env:=by rfl) (hplain:(backTo cpos (starEach es X.env)).any (·.1)=false:=by rfl):
 PE X (.Call (.Attribute o name apos) (e::es) [] cpos) (tBM X.K T r to t):=by
 intro pins s σ H Q I h;refine wpAny_Call_method_late hbase hfew hline rfl (thn (ho pins s σ H _ I h) λv s1 z_=>?_);obtain⟨x,H1,I1,r1,ty,q1⟩:=z_;obtain⟨h1,h2⟩:=KD I1 r1 ty;refine⟨T,id,pa,slot,hty,h1,h2,?_⟩;have hA:=ha cpos pins s1 σ H1 _ I1 q1;rw[hs]at hA⊢;refine Calls.callWith_builtin (by show(false||(backTo cpos (starEach es X.env)).any (·.1))=false;rw[hplain]<;>rfl) (Calls.evalArgs_plain ?_);exact thn hA λus s2 ⟨vs,H2,I2,r2,q2⟩=>hm pins s2 σ H2 x vs v us Q I2 r1 r2 q2
end
def MtM(X:Cx)(id:String)(r:V->List V->Hp->VK->Prop):Prop:=
 ∀ (pins:List (Addr×Obj)) (s:Shared) (σ:St) (H:Hp) (x:V) (xs:List V) (v:Value) (us:List Value) (Q:VK),Inv X pins σ H s->RelV x v->Vals xs us->r x xs H Q->
   wpAny (model X.prog X.w) X.A (call (.builtin id) (v::us)) (EP X pins σ Q) X.xe s
theorem Vals.one:∀ {x:V} {us:List Value},Vals [x] us->∃u,us=[u]/\RelV x u
 |_,_, .cons r .nil=>⟨_,rfl,r⟩
theorem Vals.zero:∀ {us:List Value},Vals [] us->us=[]
 |_, .nil=>rfl
theorem Vals.dropLast{xs:List V}{us:List Value}(h:Vals xs us):Vals xs.dropLast us.dropLast:=by
 induction h with
 |nil=>exact .nil
 |cons r t ih=>
  cases t with
  |nil=>exact .nil
  |cons q t'=>exact .cons r ih
theorem Vals.rep{xs:List V}{us:List Value}(h:Vals xs us):∀k:Nat,Vals (List.replicate k xs).flatten (List.replicate k us).flatten
 |0=> .nil
 |k+1=>by
  rw[List.replicate_succ,List.replicate_succ,List.flatten_cons,List.flatten_cons];exact Vals.append h (Vals.rep h k)
theorem N3{α:Type}(l:List α):l.eraseIdx (l.length-1)=l.dropLast:=by
 induction l with
 |nil=>rfl
 |cons a r ih=>
  cases r with
  |nil=>rfl
  |cons b r=>
   have e:(a::b::r).length-1=((b::r).length-1)+1:=by
    have h1:(a::b::r).length=r.length+2:=rfl;have h2:(b::r).length=r.length+1:=rfl;lia
   rw[e,List.eraseIdx_cons_succ,ih]
   all_goals rfl
theorem Hw(its:List Value):∀ (k:Nat) (acc:List Value),
 List.foldl (λx1 x2=>x1++x2) acc.toArray (List.replicate k its.toArray)=(acc++(List.replicate k its).flatten).toArray
 |0,acc=>by simp
 |k+1,acc=>by
  have e:acc.toArray++its.toArray=(acc++its).toArray:=by simp
  have e2:(acc++its)++(List.replicate k its).flatten=acc++(List.replicate (k+1) its).flatten:=by
   rw[List.replicate_succ,List.flatten_cons,List.append_assoc]
  rw[<-e2,<-Hw its k (acc++its),<-e,List.replicate_succ,List.foldl_cons]
section
variable{X:Cx}{pins:List (Addr×Obj)}{σ:St}{H:Hp}{s:Shared}{l b:Addr}{xs ys zs:List V}
theorem Inv.lset{its its':List Value}{n:Nat}{f:Array Value->Array Value}{t':Nat}(I:Inv X pins σ H s)(hH:H l=some (.lst xs))
 (e:s.heap.get? l=some {cls:= .type "list",data:= .seq its.toArray n}) (hf:f its.toArray=its'.toArray) (hv:Vals ys its') (hz:ys.length<=sizeLine):
 Inv X pins σ (upd H l (.lst ys)) {s with heap:=s.heap.update l (Obj.mapSeq f),toks:=t'}:=by
 have q:=PySem.IsL.update e f;rw[hf]at q;refine I.write (x:=l) (e:=l) (by rw[hH];exact trivial) (.inl rfl) (λb' u hb hu=>(Heap.get?_update_other s.heap (Obj.mapSeq f) (Ne.symm hb)).trans hu) ⟨_,q⟩ ?_;exact⟨hz,its',_,hv,q⟩
theorem Inv.lnew{its:List Value}{t':Nat}(I:Inv X pins σ H s)(hv:Vals ys its)(hz:ys.length<=sizeLine):
 Inv X pins σ (upd H s.heap.objs.size (.lst ys)) {s with heap:=s.heap.push {cls:= .type "list",data:= .seq its.toArray},toks:=t'}:=
 I.laid (λ_ _ q=>Heap.get?_push_of_some _ q) (Nat.le_refl _) ⟨hz,its,0,hv,Heap.get?_push_size _ rfl⟩
theorem Inv.fresh(I:Inv X pins σ H s):H s.heap.objs.size=none:=I.hok.fresh (Nat.le_refl _)
theorem Inv.lstM(I:Inv X pins σ H s)(hH:H l=some (.lst xs)):xs.length<=sizeLine/\∃ (its:List Value) (n:Nat),Vals xs its/\xs.length=its.length/\s.heap.get? l=some {cls:= .type "list",data:= .seq its.toArray n}:=by
 obtain⟨z,its,n,r,e⟩:=I.hok l _ hH;exact⟨z,its,n,r,r.length,e⟩
theorem P9{n:Nat}(h:n<=sizeLine):Builtin.List.listTooLong n=false:=by
 unfold Builtin.List.listTooLong;exact decide_eq_false (by lia)
end
section
variable{X:Cx}
def rAppend:V->List V->Hp->VK->Prop:=λx vs H Q=>∃l xs y,x= .ref l/\vs=[y]/\H l=some (.lst xs)/\xs.length<sizeLine/\Q .non (upd H l (.lst (xs++[y])))
theorem DB:MtM X "list.append" rAppend:=by
 intro pins s σ H x vs v us Q I rx rv h;obtain⟨l,xs,y,rfl,rfl,hH,hz,q⟩:=h
 cases rx
 obtain⟨u,rfl,ru⟩:=rv.one;obtain⟨z,its,n,r,hl,e⟩:=I.lstM hH;refine call_meets F.slot_list_append ⟨_,e,rfl⟩ F.entry_list_append (F.args_list_append_2 _ _) (PySem.list_append l its.toArray n u (by rw[List.size_toArray];lia)) ⟨e,?_⟩;refine⟨.non,_,I.lset (its':=its++[u]) hH e (by simp) (r.append (.cons ru .nil)) ?_,rfl,q⟩;rw[List.length_append,List.length_singleton];lia
def rPop:V->List V->Hp->VK->Prop:=λx vs H Q=>∃l xs y,x= .ref l/\vs=[]/\H l=some (.lst xs)/\xs[xs.length-1]? =some y/\Q y (upd H l (.lst xs.dropLast))
theorem Tp:MtM X "list.pop" rPop:=by
 intro pins s σ H x vs v us Q I rx rv h;obtain⟨l,xs,y,rfl,rfl,hH,hy,q⟩:=h
 cases rx
 have hus:=rv.zero;subst hus;obtain⟨z,its,n,r,hl,e⟩:=I.lstM hH;obtain⟨u,hu,ru⟩:=r.get hy;have hy':its.toArray[its.toArray.size-1]? =some u:=by
  show its.toArray[its.length-1]? =some u;rw[<-Array.getElem?_toList,<-hl];exact hu
 refine call_meets F.slot_list_pop ⟨_,e,rfl⟩ F.entry_list_pop (F.args_list_pop_1 _) (MeetsSeq.list_pop_last l its.toArray n u hy' (by rw[List.size_toArray];lia)) ⟨e,?_⟩;refine⟨y,_,I.lset (its':=its.dropLast) hH e ?_ r.dropLast ?_,ru,q⟩
 ·show its.toArray.eraseIdxIfInBounds (its.toArray.size-1)=its.dropLast.toArray;rw[List.size_toArray,List.eraseIdxIfInBounds_toArray,N3]
 ·rw[List.length_dropLast];lia
def rCat:R2:=λx y H Q=>∃l b xs zs,x= .ref l/\y= .ref b/\H l=some (.lst xs)/\H b=some (.lst zs)/\xs.length+zs.length<=sizeLine/\∀p,H p=none->Q (.ref p) (upd H p (.lst (xs++zs)))
theorem Tj:OpR X (binaryOp .Add) rCat:=by
 intro pins s σ H x y v u Q I rx ry h;obtain⟨l,b,xs,zs,rfl,rfl,hH,hB,hz,q⟩:=h
 cases rx
 cases ry
 obtain⟨z,its,n,r,hl,e⟩:=I.lstM hH;obtain⟨z2,its2,n2,r2,hl2,e2⟩:=I.lstM hB;refine PySem.P.add_list e e2 ?_ (by rw[List.size_toArray,List.size_toArray];lia);have ea:its.toArray++its2.toArray=(its++its2).toArray:=by simp
 rw[ea];exact⟨.ref _,_,I.lnew (t':=s.toks) (r.append r2) (by rw[List.length_append];lia),rfl,q _ I.fresh⟩
def rRep:R2:=λx y H Q=>∃l k xs,x= .ref l/\y= .int k/\H l=some (.lst xs)/\ -(2^63)<=k/\k<2^63/\xs.length*k.toNat<=sizeLine/\
 ∀p,H p=none->Q (.ref p) (upd H p (.lst (List.replicate k.toNat xs).flatten))
theorem Rg{α:Type}(xs:List α)(k:Nat):(List.replicate k xs).flatten.length=k*xs.length:=by
 induction k with
 |zero=>simp
 |succ k ih=>rw[List.replicate_succ,List.flatten_cons,List.length_append,ih,Nat.succ_mul,Nat.add_comm]
theorem op_rep:OpR X (binaryOp .Mult) rRep:=by
 intro pins s σ H x y v u Q I rx ry h;obtain⟨l,k,xs,rfl,rfl,hH,h1,h2,hz,q⟩:=h
 cases rx
 obtain⟨t,rfl⟩:=ry;obtain⟨z,its,n,r,hl,e⟩:=I.lstM hH;have hlen:its.toArray.size*k.toNat<=sizeLine:=by rw[List.size_toArray,<-hl];exact hz
 have hcap:¬its.toArray.size*k.toNat>(2^63-1)/8:=by
  have:(sizeLine:Nat)<=(2^63-1)/8:=by decide
  lia
 have hfit:¬ (!Builtin.List.listFitsIndex k)=true:=by
  rw[fitsIndex_both h1 h2];exact Bool.false_ne_true
 have hlong:¬Builtin.List.listTooLong (its.toArray.size*k.toNat)=true:=by
  rw[P9 hlen];exact Bool.false_ne_true
 have hnew:List.foldl (λx1 x2=>x1++x2) #[] (List.replicate (if its.toArray.isEmpty=true then 0 else k.toNat) its.toArray)=(List.replicate k.toNat its).flatten.toArray:=by
  have f0:∀m:Nat,List.foldl (λx1 x2=>x1++x2) #[] (List.replicate m its.toArray)=(List.replicate m its).flatten.toArray:=λm=>by
   have:=Hw its m [];rw[List.nil_append]at this;exact this
  rw[f0]
  cases its with
  |nil=>simp
  |cons a r'=>rw[if_neg (by simp)]
 refine wpAny_binaryOp_repeat_ref (T:="list") (U:="int") (by decide) ⟨_,e,rfl⟩ (λs'=>typeIs_int s' k t) noFill_list_mul F.fills_int_mul F.slot_int_rmul repeat_list F.slot_int_index.lookup
  (call_meets F.slot_int_rmul (typeIs_int s k t) F.entry_int_rmul (F.args_int_rmul_2 _ _) (int___rmul___int_list k t l its.toArray n)
    ⟨e,rfl,⟨_,e,rfl⟩,call_meets F.slot_list_mul ⟨_,e,rfl⟩ F.entry_list_mul (F.args_list_mul_2 _ _) (AutoListH.list___mul___list_int_3 l its.toArray n k t hfit hcap hlong) ⟨e,?_⟩⟩)
 rw[hnew];exact⟨.ref _,_,I.lnew (t':=s.toks) (r.rep k.toNat) (by rw[Rg,Nat.mul_comm];exact hz),rfl,q _ I.fresh⟩
end
section
variable{prog:Program}{w:World}{A:Around}{E:Value->Shared->Prop}{s:Shared}
end
section
variable{X:Cx}
end
end L2
namespace Att
open PySem PySem.W PySem.Calls PyProof.Rows
theorem MP{P:Params}{h:Heap}:∀ (ns:List Int) (vs:List Value),WellAll P h vs (ns.map WData.int)->IntsAre vs ns:=by
 intro ns
 induction ns with
 |nil=>
  intro vs w;rw[List.map_nil]at w
  cases w
  exact .nil
 |cons n ns ih=>
  intro vs w;rw[List.map_cons]at w
  cases w with
  |cons a b=>
   cases a
   exact .cons _ _ (ih _ b)
theorem OH{l:OpenLaw}{n:Nat}(hn:l.most=some n){P:Params}{h:Heap}{args:List WData}{vals:List Value}
 (hpre:l.row.toRowW.claim.pre args=true) (hwl:WellAll P h vals args):
 ∃a vs ns,vals=[Value.ref a]/\args=[WData.list (ns.map WData.int)]/\h.get? a=some {cls:= .type "list",data:= .seq vs.toArray}/\IntsAre vs ns/\ns.length<=n:=by
 have hsh:WShape.hasAll [] args [.list .int]=true:=(pre_splitW hpre).1;have hc:l.pre.holds [] {args:=args}=true:=(pre_splitW hpre).2;obtain⟨d,r,rfl,h1,h2⟩:=hasAllW_cons hsh;obtain rfl:=hasAllW_nil h2;obtain⟨xs,rfl,h3⟩:=hasW_list h1;obtain⟨ns,rfl⟩:=items_int h3;have hlen:ns.length<=n:=by
  unfold OpenLaw.pre at hc;have h4:(WTm.not (.lt (.lit (.int (n:Int))) (.len (.arg 0)))).holds [] {args:=[.list (ns.map .int)]}=true:=by
   have h4:=(holds_andW hc).1;rw[hn]at h4;exact h4
  have h5:=condW_of h4 (w_not (w_lt w_lit (w_len_list (w_arg rfl))));rw[List.length_map]at h5;refine Nat.le_of_not_lt λq=>?_;have q':(n:Int)<((ns.length:Nat):Int):=by lia
  first
   |(rw[decide_eq_true q']at h5;exact absurd h5 (by decide))
   |(simp at h5;lia)
 cases hwl with
 |cons w1 w2=>
  cases w2
  cases w1 with
  |list ho hall=>exact⟨_,_,ns,rfl,rfl,ho,MP ns _ hall,hlen⟩
theorem OL(l:OpenLaw)(args:List WData):l.row.toRowW.claim.post args (.bool true) args=true:=
 postW_of (r:=l.row.toRowW) (X:=(true==true))
  (show WShape.has [] (.bool true) .bool=true by first|rfl|decide|simp[WShape.has,WShape.arms,WShape.armsAll])
  (show(WTm.eq .res (.lit (.bool true))).value [] {args:=args,res:=some (.bool true),after:=args}=some (.bool (true==true))from w_eq_bool (w_res rfl) w_lit) rfl
theorem attach_call{l:OpenLaw}{n:Nat}{q:Program}{loose:List Str}{XP:(Str->Option Value)->Heap->Prop}{YP:World->Heap->Prop}{d:DefRec}
 (hn:l.most=some n) (hdf:d.params.defaults=[])
 (call:∀ (w:World) (s₀ s₁:Shared) (mg mb:Str->Option Value) (fa:Addr) (o:Obj) (pm cd doc:Value) (a:Addr) (vs:List Value) (ns:List Int),
   Ground q loose [] XP w s₀ mg mb s₁.heap->YP w s₁.heap->
   s₁.heap.get? fa=some o->o.data= .func (docDef d.name d.params d.body d.scope pm cd doc)->s₁.heap.CodeRec cd d.name->mg d.name=some (.ref fa)->
   s₁.heap.get? a=some {cls:= .type "list",data:= .seq vs.toArray}->IntsAre vs ns->ns.length<=n->s₁.gens= #[]->
   codeAny (model l.prog w) callerA (.call (.ref fa) ⟨[.ref a],[]⟩) (λr s'=>r= .ok (.ret (.bool true))/\OldK s₁.heap s'.heap/\s'.os=s₁.os/\AllBare s'.gens) s₁):
 WalkO q loose XP YP l.row.toRowW d [] (λf vs=>PySem.call f vs):=by
 intro w s₀ s₁ mg mb G Y fa o pm cd doc dV kV ho hd hcd hD hmg hg args vals as hpre hlay hrd hwl hlo;obtain rfl:dV= .none:=Dflts.none hD hdf;obtain rfl:kV= .none:=Dflts.noKw hD;obtain⟨a,vs,ns,rfl,rfl,hobj,hints,hlen⟩:=OH hn hpre hwl;refine enter_call (codeAny_mono (call w s₀ s₁ mg mb fa o pm cd doc a vs ns G Y ho (fd_plain hd) hcd hmg hobj hints hlen hg) λr s' hq=>?_);obtain⟨rfl,h2,h3,h4⟩:=hq;exact⟨.inl ⟨.bool true, .bool true,[],rfl,λ_=>rfl, .bool true,OL l _,λ_=>⟨List.Pairwise.nil,λ_ hm=>(nomatch hm)⟩⟩,h2,h3,h4⟩
section
variable{prog:Program}{w:World}{A:Around}{E:Value->Shared->Prop}{s:Shared}{K:Frag}
end
end Att
namespace L2
open PySem PySem.Spec PyProof.Rows
theorem E3:∀ {vs:List Value} {ns:List Int},IntsAre vs ns->Vals (ns.map V.int) vs
 |_,_, .nil=> .nil
 |_,_, .cons n t h=> .cons ⟨t,rfl⟩ (E3 h)
def Gk(H:Hp):Prop:=∀b,H b=none\/∃o xs,H b=some (.frz o (.lst xs))
theorem QC{P:Program}{w:World}{K:W.Frag}{mg mb:Str->Option Value}{CX:CXT}{k:Nat}{fa a:Addr}{fd:FuncData}{x:Str}{sp:Sp}{s₁:Shared}{vs:List Value}{ns:List Int}
 (KX:K.In s₁.heap) (hns:s₁.heap.Ns mainGlobals mg) (hb:s₁.heap.Ns builtinsNs mb) (hbb:∀x:Str,x≠"__name__"->mb x=bootBuiltins x) (hlim:s₁.heap.NoLimit) (hg:s₁.gens= #[])
 (ha:s₁.heap.get? a=some {cls:= .type "list",data:= .seq vs.toArray}) (hi:IntsAre vs ns) (hl:ns.length<=sizeLine) (hr:Room k callerA)
 (F:∀base:Heap,K.In base->base.Ns mainGlobals mg->FnOk P w K mg base CX k fa fd [x] sp) (hbind:∀ (s:Shared) (u:Value),BindsTo s fd ⟨[u],[]⟩ [(x,u)])
 (hsp:∀H:Hp,Gk H->SqL K H a (ns.map V.int)->sp [.ref a] H (λv _=>v= .bl true) λ_ _ _=>False)
 (hCX:∀H e s',CX [] H s₁ (λ_ _ _=>False) e s'->False):
 codeAny (model P w) callerA (.call (.ref fa) ⟨[.ref a],[]⟩) (λr s'=>r= .ok (.ret (.bool true))/\OldK s₁.heap s'.heap/\s'.os=s₁.os/\AllBare s'.gens) s₁:=by
 have rv:=E3 hi;have lenV:=hi.length;have core:∀H:Hp,Gk H->SqL K H a (ns.map V.int)->HOk P w H s₁.heap->(∀b,H b≠none->b=a)->(H a≠none->K.lookup a=none)->
  codeAny (model P w) callerA (.call (.ref fa) ⟨[.ref a],[]⟩) (λr s'=>r= .ok (.ret (.bool true))/\OldK s₁.heap s'.heap/\s'.os=s₁.os/\AllBare s'.gens) s₁:=by
  intro H hO hS hok hA hK;have base_of:∀ {b:Addr} {o:Obj},s₁.heap.get? b=some o->H b=none->(CO s₁.heap H).get? b=some o:=λe n=>QI e n;have noA:∀ {b:Addr} {o:Obj} {es:Array DictEntry} {ep:Nat},s₁.heap.get? b=some o->o.data= .dict es ep->H b=none:=fun{b o es ep} e d=>by
   cases q:H b with
   |none=>rfl
   |some u=>
    have e':b=a:=hA b (by rw[q];simp);subst e';rw[ha]at e;cases e;have d':Data.seq vs.toArray _=Data.dict es ep:=d
    cases d'
  have nsK:∀ {b:Addr} {m:Str->Option Value},s₁.heap.Ns b m->(CO s₁.heap H).Ns b m:=fun{b m} ⟨o,es,ep,e,d,r⟩=>⟨o,es,ep,base_of e (noA e d),d,r⟩;have hKb:K.In (CO s₁.heap H):=λb o e=>base_of (KX b o e) (by
   cases q:H b with
   |none=>rfl
   |some u=>
    have e':b=a:=hA b (by rw[q];simp);subst e';rw[hK (by rw[q];simp)]at e;cases e)
  have hM:Mod K mg (CO s₁.heap H):=⟨hKb,nsK hns,⟨mb,nsK hb,hbb⟩,let⟨mc,h1,h2⟩:=hlim;⟨mc,nsK h1,h2⟩⟩;have e0:Env0 P w K mg (CO s₁.heap H) callerA [] s₁ H:=⟨rfl,hM,λb o e=>Rc e,Nat.le_of_eq (Ov _ _),trivial,λb hb=>absurd (show b∈([]:List Addr)from hb) (by simp),hok, .of_eq hg⟩;refine codeAny_mono ((F _ hKb (nsK hns)).run callerA [] s₁ H ⟨[.ref a],[]⟩ [.ref a] [.ref a] _ _ hr e0 (hbind s₁ (.ref a)) (.cons rfl .nil) (hsp H hO hS)) λr s' h=>?_
  cases r with
  |error e=>exact(hCX H e s' h).elim
  |ok fl=>
   cases fl with
   |next=>exact False.elim h
   |brk=>exact False.elim h
   |cont=>exact False.elim h
   |ret u=>
    obtain⟨v,H',os,bare,un,hok',r',q⟩:=h;have q':v= .bl true:=q;subst q';obtain rfl:u=Value.bool true:=r';refine⟨rfl,OldK.of_keep λb o e=>?_,os,bare⟩
    cases q:H b with
    |none=>exact un.keep b o e q (by intro z;exact absurd (show b∈([]:List Addr)from z) (by simp)) (by simp)
    |some u=>
     rcases hO b with z|⟨ob,xs,z⟩
     ·rw[q]at z;cases z
     ·have z2:=un.frzs b ob _ z;obtain⟨e1,_⟩:=hok b _ z;obtain⟨e2,_⟩:=hok' b _ z2;rw[e]at e1;cases e1;exact e2
 cases hk:K.lookup a with
 |some o=>
  have e:=KX a o hk;rw[ha]at e
  cases e
  refine core (λ_=>none) (λ_=> .inl rfl) (.inr ⟨_,vs.toArray,_,hk,rfl,rfl,rfl,by rw[List.size_toArray,lenV];exact hl,by simpa using rv⟩) ⟨(λb u z=>by have z':(none:Option HO)=some u:=z;cases z'),(λu z=>nomatch (show(none:Option HO)=some u from z)),let⟨o,_,_,e,_⟩:=hns;⟨mainGlobals,o,by decide,e⟩⟩ (λb z=>absurd rfl z) λz=>absurd rfl z
 |none=>
  refine core (λb=>if b=a then some (.frz {cls:= .type "list",data:= .seq vs.toArray} (.lst (ns.map V.int)))else none) (λb=>?_) (.inl (.inr ⟨{cls:= .type "list",data:= .seq vs.toArray},if_pos rfl⟩)) ⟨λb u z=>?_,(λu z=>by
   by_cases hb:sysModules=a
   ·have z':=(if_pos hb).symm.trans z
    cases z';exact⟨_,_,rfl⟩
   ·have z':=(if_neg hb).symm.trans z
    cases z'),let⟨o,_,_,e,_⟩:=hns;⟨mainGlobals,o,by decide,e⟩⟩ (λb z=>?_) λ_=>hk
  ·by_cases hb:b=a
   ·exact .inr ⟨_,_,if_pos hb⟩
   ·exact .inl (if_neg hb)
  ·by_cases hb:b=a
   ·have z':=(if_pos hb).symm.trans z
    cases z'
    subst hb;exact⟨ha,by rw[List.length_map];exact hl,vs,_,rv,ha⟩
   ·have z':=(if_neg hb).symm.trans z
    cases z'
  ·by_cases hb:b=a
   ·exact hb
   ·exact absurd (if_neg hb) z
theorem walk_of{l:W.OpenLaw}{n k:Nat}{q:Program}{loose:List Str}{XP:(Str->Option Value)->Heap->Prop}{YP:World->Heap->Prop}{d:DefRec}{K:Params->W.Frag}{CX:World->CXT}{sp:World->Sp}{x:Str}
 (hn:l.most=some n) (hn2:n<=sizeLine) (hdf:d.params.defaults=[]) (hr:Room k callerA)
 (hY:∀ (w:World) (h:Heap),YP w h->(K w.params).In h)
 (F:∀ (w:World) (mg:Str->Option Value) (fa:Addr) (h:Heap),(K w.params).In h->h.Ns mainGlobals mg->mg d.name=some (.ref fa)->
   ∃fd:FuncData,(∀ (s:Shared) (u:Value),BindsTo s fd ⟨[u],[]⟩ [(x,u)])/\
    ∀base:Heap,(K w.params).In base->base.Ns mainGlobals mg->FnOk l.prog w (K w.params) mg base (CX w) k fa fd [x] (sp w))
 (hsp:∀ (w:World) (H:Hp) (a:Addr) (ns:List Int),ns.length<=n->Gk H->SqL (K w.params) H a (ns.map V.int)->sp w [.ref a] H (λv _=>v= .bl true) λ_ _ _=>False)
 (hCX:∀ (w:World) (H:Hp) (s:Shared) (e:Value) (s':Shared),CX w [] H s (λ_ _ _=>False) e s'->False):
 W.WalkO q loose XP YP l.row.toRowW d [] (λf vs=>PySem.call f vs):=by
 refine Att.attach_call hn hdf λw s₀ s₁ mg mb fa o pm cd doc a vs ns G Y ho hd hcd hmg hobj hints hlen hg=>?_;have KX:=hY w _ Y;obtain⟨fd,hb,hF⟩:=F w mg fa _ KX G.T.g hmg;exact QC KX G.T.g G.T.b G.T.builtins G.T.nolimit hg hobj hints (Nat.le_trans hlen hn2) hr hF hb (λH hO hS=>hsp w H a ns hlen hO hS) λH e s'=>hCX w H s₁ e s'
def inClass(s:Stmt)(j:Nat):Stmt:=match s with
 | .ClassDef _ _ _ body _ _ _ _ _ _ _=>body.getD j (.Pass ⟨0,0,0,0⟩)
 |_=> .Pass ⟨0,0,0,0⟩
def CU(s:Stmt):Arguments:=match s with
 | .FunctionDef _ a _ _ _ _ _ _ _ _=>a
 |_=>{posonlyargs:=[],args:=[],vararg:=none,kwonlyargs:=[],kw_defaults:=[],kwarg:=none,defaults:=[]}
def Bl(s:Stmt):List Stmt:=match s with
 | .FunctionDef _ _ b _ _ _ _ _ _ _=>b
 |_=>[]
def AU(s:Stmt):Scope:=match s with
 | .FunctionDef _ _ _ _ _ _ sc _ _ _=>sc
 |_=>{kind:= .function,names:=[],isGenerator:=false,isCoroutine:=false}
abbrev CX0:CXT:=λ_ _ _ _ _ _=>False
abbrev E0:XK:=λ_ _ _=>False
theorem Ef{X:Cx}:Cw CX0 X E0:=λ_ _ _ _ _ _ _ h=>h.elim
structure Fun (K:W.Frag) (x qual:Str) (st:Stmt) (f:Addr) (fd:FuncData):Prop where
 ex:∃ (oc:Value) (od:Option Addr) (kV doc pm:Value) (an:Option Addr) (cdv ct:Value) (osl:Array (Option Value)),
  fd=W.fnOf x qual (CU st) (Bl st) (AU st) .none kV doc pm an cdv ct/\K.lookup f=some ⟨oc,od, .func fd,osl⟩/\W.codeIn K cdv qual=true
 kp:W.keepIn K (.ref f)=true
section
variable{P:Program}{w:World}{K:W.Frag}{mg:Str->Option Value}{base:Heap}
theorem Fun.ok{x qual:Str}{st:Stmt}{f:Addr}{fd:FuncData}{N ps:List Str}{k:Nat}{sp:Sp}(F:Fun K x qual st f fd)(S:FnScope N ps (AU st))(len:∀vs H Q E,sp vs H Q E->vs.length=ps.length)
 (hbody:∀ (cdv:Value) (A:Around) (outer:List Env) (s:Shared) (H:Hp) (vs:List V) (Q:VK) (E:XK),Room k (A.deeper (envOfC qual (AU st) s.heap.objs.size f cdv))->sp vs H Q E->
   ∃t,PSs (Cf CX0 P w K mg base N qual (AU st) f cdv A outer s H E).nox (Bl st) t/\t {nx:=λ_ H'=>Q .non H',rt:=Q} (start N vs) H):FnOk P w K mg base CX0 (k+1) f fd ps sp:=by
 obtain⟨oc,od,kV,doc,pm,an,cdv,ct,osl,rfl,lk,hcd⟩:=F.ex;refine LH lk hcd S len λA outer s H vs Q E hr hsp=>?_;obtain⟨t,h,q⟩:=hbody cdv A outer s H vs Q E hr hsp;exact⟨t,h.nox,q⟩
theorem Fun.binds{x qual:Str}{st:Stmt}{f:Addr}{fd:FuncData}{ps:List Str}(F:Fun K x qual st f fd)
 (h:∀ (kV doc pm:Value) (an:Option Addr) (cdv ct:Value) (us:List Value),us.length=ps.length->bindArgs (W.fnOf x qual (CU st) (Bl st) (AU st) .none kV doc pm an cdv ct) ⟨us,[]⟩=pure (ps.zip us)):Binds K fd ps []:=by
 obtain⟨oc,od,kV,doc,pm,an,cdv,ct,osl,rfl,lk,hcd⟩:=F.ex;exact .all (h kV doc pm an cdv ct)
theorem Kc{x qual:Str}{st:Stmt}{f:Addr}{oc:Value}{od an:Option Addr}{osl:Array (Option Value)}{kV doc pm cdv ct:Value}(l:K.lookup f=some ⟨oc,od, .func (W.fnOf x qual (CU st) (Bl st) (AU st) .none kV doc pm an cdv ct),osl⟩)
 (c:W.codeIn K cdv qual=true) (k:W.keepIn K (.ref f)=true):Fun K x qual st f (W.fnOf x qual (CU st) (Bl st) (AU st) .none kV doc pm an cdv ct):=⟨⟨oc,od,kV,doc,pm,an,cdv,ct,osl,rfl,l,c⟩,k⟩
end
theorem EE{n:Nat}(h:n<=1000):n<sizeLine:=Nat.lt_of_le_of_lt h (by decide)
section
variable{X:Cx}
theorem pv(i:Nat){x:Str}{pos:Pos}(hN:X.N[i]? =some x:=by rfl)(hv:Vis X.env.scope x:=by first|exact Or.inl rfl|exact Or.inr (Or.inl rfl)|exact Or.inr (Or.inr rfl))(hd:(x==("__debug__":Str))=false:=by decide)
 (hcd:(x==("__classdict__":Str))=false:=by decide):PE X (.Name x pos) (A7 i):=KU hN hv hd hcd
end
theorem D5{A B:Prop}(h:B):if false=true then A else B:=by
 rw[if_neg Bool.false_ne_true];exact h
theorem Ce{A B:Prop}(h:A):if true=true then A else B:=by
 rw[if_pos rfl];exact h
theorem Gc{c A B:Prop}[Decidable c](h1:c->A)(h2:¬c->B):if c then A else B:=by
 by_cases h:c
 ·rw[if_pos h];exact h1 h
 ·rw[if_neg h];exact h2 h
def Same(H H':Hp):Prop:=∀b o,H b=some o->H' b=some o
theorem Same.refl(H:Hp):Same H H:=λ_ _ h=>h
theorem Same.trans{H H1 H2:Hp}(a:Same H H1)(b:Same H1 H2):Same H H2:=λc o h=>b c o (a c o h)
theorem Same.free{H H':Hp}(e:Same H H'){l:Addr}(h:H' l=Option.none):H l=Option.none:=by
 cases q:H l with
 |none=>rfl
 |some o=>
  rw[e l o q]at h
  cases h
theorem Same.seq{K:W.Frag}{H H':Hp}{a:Addr}{xs:List V}(e:Same H H')(h:SqL K H a xs):SqL K H' a xs:=by
 rcases h with(h|⟨o,h⟩)|h
 ·exact .inl (.inl (e _ _ h))
 ·exact .inl (.inr ⟨o,e _ _ h⟩)
 ·exact .inr h
end L2
set_option maxHeartbeats 8000000
namespace L2
open PySem PySem.Spec PyProof.Rows
theorem Fq{env:Env}:∀ (ns:List (Str×NameKind)) (acc:List (Str×Addr)),(∀y∈ns,y.2= .free->∃c,env.cells.lookup y.1=some c)->(∀x c,acc.lookup x=some c->env.cells.lookup x=some c)->
 ∃cl,(forIn ns acc fun(y:Str×NameKind) cs=>(if(y.2== .free)=true then(do let c<-cellOf env y.1;pure (ForInStep.yield ((y.1,c)::cs)))else pure (ForInStep.yield cs):Sem (ForInStep (List (Str×Addr)))))=pure cl/\
  (∀x c,cl.lookup x=some c->env.cells.lookup x=some c)/\(∀y∈ns,y.2= .free->∃c,cl.lookup y.1=some c)/\∀x c,acc.lookup x=some c->∃c',cl.lookup x=some c'
 |[],acc,_,ha=>⟨acc,rfl,ha,(λ_ h=>nomatch h),λx c e=>⟨c,e⟩⟩
 |(n,k)::r,acc,hf,ha=>by
  rw[List.forIn_cons]
  by_cases hk:k= .free
  ·subst hk;obtain⟨c,hc⟩:=hf (n, .free) List.mem_cons_self rfl;have hcell:cellOf env n=pure c:=by unfold cellOf;rw[hc]
   have ha':∀x c',List.lookup x ((n,c)::acc)=some c'->env.cells.lookup x=some c':=λx c' e=>by
    rw[List.lookup_cons]at e
    cases hx:x==n with
    |true=>rw[hx]at e;simp at e;subst e;rw[eq_of_beq hx];exact hc
    |false=>rw[hx]at e;exact ha x c' e
   obtain⟨cl,e1,e2,e3,e4⟩:=Fq r ((n,c)::acc) (λy hy=>hf y (List.mem_cons_of_mem _ hy)) ha';refine⟨cl,?_,e2,λy hy hyf=>?_,λx c' e=>?_⟩
   ·simp only[beq_self_eq_true,if_true,hcell,pure_bind];exact e1
   ·rcases List.mem_cons.mp hy with rfl|hy
    ·exact e4 n c (by simp[List.lookup_cons])
    ·exact e3 y hy hyf
   ·cases hx:x==n with
    |true=>rw[eq_of_beq hx];exact e4 n c (by simp[List.lookup_cons])
    |false=>exact e4 x c' (by rw[List.lookup_cons,hx];exact e)
  ·have hb:(k==NameKind.free)=false:=by simpa using hk
   obtain⟨cl,e1,e2,e3,e4⟩:=Fq r acc (λy hy=>hf y (List.mem_cons_of_mem _ hy)) ha;refine⟨cl,?_,e2,λy hy hyf=>?_,e4⟩
   ·simp only[hb,Bool.false_eq_true,if_false,pure_bind];exact e1
   ·rcases List.mem_cons.mp hy with rfl|hy
    ·exact absurd hyf hk
    ·exact e3 y hy hyf
theorem KA{scope:Scope}{env:Env}(h:∀y∈scope.names,y.2= .free->∃c,env.cells.lookup y.1=some c):
 ∃cl,closureFor scope env=pure cl/\(∀x c,cl.lookup x=some c->env.cells.lookup x=some c)/\∀y∈scope.names,y.2= .free->∃c,cl.lookup y.1=some c:=by
 obtain⟨cl,e1,e2,e3,_⟩:=Fq (env:=env) scope.names [] h (λx c e=>nomatch e);refine⟨cl,?_,e2,e3⟩;have e:closureFor scope env=(forIn scope.names ([]:List (Str×Addr)) fun(y:Str×NameKind) cs=>(if(y.2== .free)=true then(do let c<-cellOf env y.1;pure (ForInStep.yield ((y.1,c)::cs)))else pure (ForInStep.yield cs):Sem (ForInStep (List (Str×Addr)))))>>=pure:=by
  rfl
 rw[e,e1,pure_bind]
def BN(X:Cx)(own:List Str)(sel:List Nat)(scope:Scope)(cl:List (Str×Addr))(C:Addr)(s2:Shared)(H2:Hp)(fp:List Addr):Cx where
 prog:=X.prog
 w:=X.w
 K:=X.K
 mg:=X.mg
 base:=X.base
 A:=X.A
 N:=own++sel.map λj=>X.N.getD j Str.empty
 s₀:=s2
 H₀:=H2
 env:=compEnvC scope cl C X.env
 outer:=X.stack
 stack:=X.stack
 ex:=fp
 fn:=λ_=>false
 calm:=X.calm
 pn:=[]
 xe:=λ_ _=>False
def AT(own:List Str)(sel:List Nat)(σ:St):St:=own.map (λ_=>none)++sel.map λj=>σ.getD j none
structure CompOk (osc:Scope) (N:List Str) (own:List Str) (sel:List Nat) (scope:Scope):Prop where
 kind:scope.kind= .function
 cell:∀y∈scope.names,y.2≠ .cell
 names:∀y∈scope.names,y.2= .local->scope.names.lookup y.1=some .local
 free:∀y∈scope.names,y.2= .free->osc.names.lookup y.1=some .cell\/osc.names.lookup y.1=some .free
 seln:∀j∈sel,j<N.length/\scope.names.lookup (N.getD j Str.empty)=some .free/\(osc.names.lookup (N.getD j Str.empty)=some .cell\/osc.names.lookup (N.getD j Str.empty)=some .free)
def PIf(Y:Cx)(ifs:List Expr)(t:TT):Prop:=
 ∀ (pins:List (Addr×Obj)) (s:Shared) (σ:St) (H:Hp) (Q:Bool->Hp->Prop),Inv Y pins σ H s->t σ H Q->
   wpAny (model Y.prog Y.w) Y.A (forIn ifs true λc r=>if r=true then do let ok<-isTrue c Y.env (eval c Y.env);pure (ForInStep.yield ok)else pure (ForInStep.yield r)) (TP Y pins σ Q) Y.xe s
def tYes:TT:=λ_ H Q=>Q true H
theorem A3{Y:Cx}:PIf Y [] tYes:=λpins s σ H Q I h=>wpAny_tests_nil ⟨H,I,h⟩
theorem Fg{Y:Cx}{c:Expr}{t:TT}(h:PT Y c t):PIf Y [c] t:=λpins s σ H Q I hw=>wpAny_tests_one (h pins s σ H Q I hw)
def GK(n:Nat)(g:TG):Prop:=∀v σ H Q,g v σ H Q->g v σ H λσ' H'=>Q σ' H'/\σ'.length=σ.length/\∀i,n<=i->σ'[i]? =σ[i]?
def GKs(n:Nat)(g:TGs):Prop:=∀vs σ H Q,g vs σ H Q->g vs σ H λσ' H'=>Q σ' H'/\σ'.length=σ.length/\∀i,n<=i->σ'[i]? =σ[i]?
theorem Aq{n i:Nat}(h:i<n):GK n (Aw i):=λv σ H Q q=>⟨q,by simp,λj hj=>by rw[List.getElem?_set_ne (by lia)]⟩
theorem EY{n:Nat}:GKs n gNil:=λvs σ H Q q=>⟨q.1,q.2,rfl,λ_ _=>rfl⟩
def GM(g:TG):Prop:=∀v σ H Q Q',(∀σ' H',Q σ' H'->Q' σ' H')->g v σ H Q->g v σ H Q'
def GMs(g:TGs):Prop:=∀vs σ H Q Q',(∀σ' H',Q σ' H'->Q' σ' H')->g vs σ H Q->g vs σ H Q'
theorem Bj{i:Nat}:GM (Aw i):=λ_ _ _ _ _ h q=>h _ _ q
theorem Cb:GMs gNil:=λ_ _ _ _ _ h q=>⟨q.1,h _ _ q.2⟩
theorem ER{t:TG}{u:TGs}(h1:GM t)(h2:GMs u):GMs (Eh t u):=λvs σ H Q Q' h ⟨v,r,e,q⟩=>⟨v,r,e,h1 _ _ _ _ _ (λσ' H' z=>h2 _ _ _ _ _ h z) q⟩
theorem CT{n:Nat}{t:TG}{u:TGs}(m1:GM t)(m2:GMs u)(h1:GK n t)(h2:GKs n u):GKs n (Eh t u):=λvs σ H Q ⟨v,r,e,q⟩=>by
 refine⟨v,r,e,m1 _ _ _ _ _ (λσ' H' z=>?_) (h1 _ _ _ _ q)⟩;obtain⟨q',l,k⟩:=z;exact m2 _ _ _ _ _ (λσ2 H2 ⟨a,b,c⟩=>⟨a,b.trans l,λi hi=>(c i hi).trans (k i hi)⟩) (h2 _ _ _ _ q')
theorem EX{K:W.Frag}{n m:Nat}{t:TGs}(h:GKs n t):GK n (Er K m t):=λv σ H Q ⟨a,xs,e1,e2,e3,q⟩=>⟨a,xs,e1,e2,e3,h _ _ _ _ q⟩
def Ec(own:List Str)(sel:List Nat)(wi:TI)(g:TG)(tt:TT)(te:TE):TE:=λσ H Q=>wi σ H λJ H1=>∀D,H1 D=none->
 ∃W:Nat->Nat->Hp->Prop,(∃m,W 0 m (upd H1 D (.lst [])))/\∀i m H2,W i m H2->
  (J.stop i H2/\Q (.ref D) H2)\/(J.go i H2/\∀x H3,J.yld i H2 x H3->g x (AT own sel σ) H3 λσ4 H4=>tt σ4 H4 λb H5=>
    if b=true then te σ4 H5 λv H6=>∃ys,H6 D=some (.lst ys)/\ys.length<sizeLine/\∃m',m'<m/\W (i+1) m' (upd H6 D (.lst (ys++[v])))
    else∃m',m'<m/\W (i+1) m' H5)
section
variable{prog:Program}{w:World}{A:Around}{R:Result->Shared->Prop}{s:Shared}
theorem N4{elt target iter:Expr}{ifs:List Expr}{scope:Scope}{pos:Pos}{it acc:Value}{env:Env}(I:Nat->Shared->Prop)
 (turn:∀n s,I n s->wpAny (model prog w) A (pyNext it) (λr s1=>match r with
   |none=>R (.ok .next) s1
   |some v=>wpAny (model prog w) A (letOwnedTupleGo target it v) (λ_ s0=>wpAny (model prog w) A (assign target env v) (λ_ s2=>
     wpAny (model prog w) A (forIn ifs true λc r=>if r=true then do let ok<-isTrue c env (eval c env);pure (ForInStep.yield ok)else pure (ForInStep.yield r)) (λok s3=>
      if ok=true then wpAny (model prog w) A (eval elt env) (λx s4=>wpAny (model prog w) A (call (.builtin "list.append") [acc,x]) (λ_ s5=>∃m,m<n/\I m s5) (λ_ _=>False) s4) (λ_ _=>False) s3
      else∃m,m<n/\I m s3) (λ_ _=>False) s2) (λ_ _=>False) s0) (λ_ _=>False) s1) (λ_ _=>False) s)
 (n:Nat) (h:I n s):
 codeAny (model prog w) A (.compLoop (.ListComp elt [⟨target,iter,ifs,0⟩] scope pos) 0 it acc env) R s:=by
 refine codeAny_loop rfl I (λn s hI=>?_) n h;show wpAny _ A ((compTurn (.ListComp elt [⟨target,iter,ifs,0⟩] scope pos) 0 it acc env).onRaise (λx=>do noteFrame x env;theTreesLotGoes x)) _ _ s;refine wpAny_noted ?_;rw[compTurn_list];refine wpAny_bind (wpAny_standAt (wpAny_bind (wpAny_mono (turn n s hI) (λr s1 h1=>?_) λ_ _ z=>z.elim)))
 cases r with
 |none=>exact wpAny_pure h1
 |some v=>
  refine wpAny_bind (wpAny_mono h1 (λ_ s0 h0=>wpAny_bind (wpAny_mono h0 (λ_ s2 h2=>wpAny_bind (wpAny_mono h2 (λok s3 h3=>?_) λ_ _ z=>z.elim)) λ_ _ z=>z.elim)) λ_ _ z=>z.elim)
  cases ok with
  |false=>exact wpAny_pure ⟨rfl,h3⟩
  |true=>
   exact wpAny_bind (wpAny_bind (wpAny_mono h3 (λx s4 h4=>wpAny_bind (wpAny_mono h4 (λ_ s5 h5=>wpAny_pure (wpAny_pure ⟨rfl,h5⟩)) λ_ _ z=>z.elim)) λ_ _ z=>z.elim))
end
section
variable{X:Cx}
theorem DT{env:Env}:∀ {names:List (Str×NameKind)} {x:Str} {k:NameKind},
 (names.map fun(n,k)=>if(k==NameKind.free&&env.scope.kind== .function&&env.kindOf n==some .cell)then(n,NameKind.cell)else(n,k)).lookup x=some k->
 names.lookup x=some k\/names.lookup x=some .free
 |[],_,_,h=>by simp at h
 |(n,k')::r,x,k,h=>by
  have ih:= @DT env r x k;have h':List.lookup x ((if(k'==NameKind.free&&env.scope.kind== .function&&env.kindOf n==some .cell)=true then(n,NameKind.cell)else(n,k'))::r.map fun(n,k)=>if(k==NameKind.free&&env.scope.kind== .function&&env.kindOf n==some .cell)then(n,NameKind.cell)else(n,k))=some k:=h
  cases hx:x==n with
  |true=>
   rw[List.lookup_cons,hx]
   by_cases hc:(k'==NameKind.free&&env.scope.kind== .function&&env.kindOf n==some .cell)=true
   ·have:k'= .free:=by simp only[Bool.and_eq_true,beq_iff_eq]at hc;exact hc.1.1
    subst this;exact .inr rfl
   ·rw[if_neg hc,List.lookup_cons,hx]at h';exact .inl h'
  |false=>
   rw[List.lookup_cons,hx]
   by_cases hc:(k'==NameKind.free&&env.scope.kind== .function&&env.kindOf n==some .cell)=true
   ·rw[if_pos hc,List.lookup_cons,hx]at h';exact ih h'
   ·rw[if_neg hc,List.lookup_cons,hx]at h';exact ih h'
theorem Ew{env:Env}(hk:env.scope.kind= .function):∀ {names:List (Str×NameKind)} {x:Str},names.lookup x=some .free->
 (names.map fun(n,k)=>if(k==NameKind.free&&env.scope.kind== .function&&env.kindOf n==some .cell)then(n,NameKind.cell)else(n,k)).lookup x=some .cell\/
 (names.map fun(n,k)=>if(k==NameKind.free&&env.scope.kind== .function&&env.kindOf n==some .cell)then(n,NameKind.cell)else(n,k)).lookup x=some .free
 |[],_,h=>by simp at h
 |(n,k')::r,x,h=>by
  have ih:= @Ew env hk r x;show List.lookup x ((if(k'==NameKind.free&&env.scope.kind== .function&&env.kindOf n==some .cell)=true then(n,NameKind.cell)else(n,k'))::_)=_\/List.lookup x ((if(k'==NameKind.free&&env.scope.kind== .function&&env.kindOf n==some .cell)=true then(n,NameKind.cell)else(n,k'))::_)=_
  cases hx:x==n with
  |true=>
   rw[List.lookup_cons,hx]at h
   by_cases hc:(k'==NameKind.free&&env.scope.kind== .function&&env.kindOf n==some .cell)=true
   ·rw[if_pos hc,List.lookup_cons,hx];exact .inl rfl
   ·rw[if_neg hc,List.lookup_cons,hx];exact .inr h
  |false=>
   rw[List.lookup_cons,hx]at h
   by_cases hc:(k'==NameKind.free&&env.scope.kind== .function&&env.kindOf n==some .cell)=true
   ·rw[if_pos hc,List.lookup_cons,hx];exact ih h
   ·rw[if_neg hc,List.lookup_cons,hx];exact ih h
theorem EM{own:List Str}{sel:List Nat}{σ:St}{i:Nat}(h:i<own.length):(AT own sel σ)[i]? =some none:=by
 unfold AT;rw[List.getElem?_append_left (by simpa using h),List.getElem?_map,List.getElem?_eq_getElem h]
 rfl
theorem Ip{own:List Str}{sel:List Nat}{σ:St}{i:Nat}{v:V}(h:(AT own sel σ)[i]? =some (some v)):∃k j,i=own.length+k/\sel[k]? =some j/\σ[j]? =some (some v):=by
 by_cases hi:i<own.length
 ·rw[EM hi]at h;cases h
 ·unfold AT at h;rw[List.getElem?_append_right (by simpa using hi),List.getElem?_map]at h;rw[List.length_map]at h
  cases e:sel[i-own.length]? with
  |none=>rw[e]at h;cases h
  |some j=>
   rw[e]at h;simp only[Option.map_some,Option.some.injEq]at h;refine⟨i-own.length,j,by lia,e,?_⟩;rw[List.getD_eq_getElem?_getD]at h
   cases q:σ[j]? with
   |none=>rw[q]at h;cases h
   |some u=>rw[q]at h;simp at h;rw[h]
theorem Iq{own:List Str}{sel:List Nat}{σ:St}:(AT own sel σ).length=own.length+sel.length:=by
 unfold AT;simp
structure Far (X:Cx) (pins:List (Addr×Obj)) (H:Hp) (C:Addr):Prop where
 nt:H C=none
 nl:C≠X.env.locals
 up:X.s₀.heap.objs.size<=C
 nc:∀x c,X.env.cells.lookup x=some c->c≠C
 np:∀p∈X.pn++pins,p.1≠C
theorem Inv.far{pins:List (Addr×Obj)}{σ:St}{H:Hp}{s:Shared}{h':Heap}{C:Addr}(I:Inv X pins σ H s)(f:Far X pins H C)(k:Heap.SameBut C s.heap h'):Inv X pins σ H {s with heap:=h'}:=
 I.turned (t':=s.toks) (λb o hb e=>(k.2 b hb).trans e) f.nt f.nl (.inr f.up) f.nc f.np
end
section
variable{X:Cx}{pins:List (Addr×Obj)}{σ:St}{H:Hp}{s:Shared}{h':Heap}
theorem Inv.bigAfter{ch:List Addr}(I:Inv X pins σ H s)(hf:∀b∈ch,BH X pins H b)(k:∀b u,b∉ch->s.heap.get? b=some u->h'.get? b=some u):∃b o,1<b/\h'.get? b=some o:=by
 obtain⟨o,_,_,e,_⟩:=I.ok.mod.glob;refine⟨mainGlobals,o,by decide,k _ _ (λz=>?_) (I.bk _ _ e)⟩;rcases(hf _ z).2.2.2.1 with q|q
 ·exact I.ok.noex _ _ e q
 ·exact absurd (Nat.lt_of_lt_of_le (Heap.lt_size e) (Nat.le_trans I.ok.bsz q)) (Nat.lt_irrefl _)
theorem Inv.turnedLaid{a:Addr}{o:HO}{t':Nat}{ch:List Addr}(I:Inv X pins σ H s)(hf:∀b∈ch,BH X pins H b)(k:∀b u,b∉ch->s.heap.get? b=some u->h'.get? b=some u)(hp:s.heap.objs.size<=a)
 (new:ObjOk X.prog X.w (upd H a o) h' a o):Inv X pins σ (upd H a o) {s with heap:=h',toks:=t'}:=by
 have hn:H a=none:=I.hok.fresh hp;have ne:∀b u,s.heap.get? b=some u->b≠a:=λb u e=>Nat.ne_of_lt (Nat.lt_of_lt_of_le (Heap.lt_size e) hp);have nt:∀b u,H b=some u->b∉ch:=λb u e z=>by rw[(hf b z).1]at e;cases e
 refine I.step (g':=s.gens) (d':=s.drawn) (ch:=ch) (λb hb=>⟨(hf b hb).2.2.2.1,(hf b hb).2.1,(hf b hb).2.2.2.2.1,(hf b hb).2.2.2.2.2⟩) (λb u _ _ hc e _=>k b u hc e) (λb u _ _ hc e _=>⟨u.slots,k b u hc e⟩)
  (λb u _ e n=>by rw[AG (ne b u e)];exact n) (λb u hc e=>⟨u,k b u hc e⟩) (λb xs e=>by rw[AG (AQ e hn)];exact e) (λb u xs e=>by rw[AG (AQ e hn)];exact e)
  (λb ps e=>⟨#[],by rw[AG (AQ e hn),e];simp⟩) (λm hm=>?_) ⟨λb u e=>?_,λu e=>I.hok.sm u (by
    by_cases hb:sysModules=a
    ·obtain⟨b,o',l,q⟩:=I.hok.bg;exact absurd (Nat.lt_trans l (show b<sysModules from by rw[hb];exact Nat.lt_of_lt_of_le (Heap.lt_size q) hp)) (Nat.lt_irrefl 1)
    ·rw[AG hb]at e;exact e),I.bigAfter hf k⟩ I.bare
 ·obtain⟨ob,es,ep,ho,r⟩:=hm;exact⟨ob,es,ep,k _ ob (λz=>(hf _ z).2.1 rfl) ho,r⟩
 ·by_cases hb:b=a
  ·subst hb;rw[AF]at e;cases e;exact new
  ·rw[AG hb]at e;refine(I.hok b u e).stay (λc v hc q=>k c v ?_ q) (λc q=>by rw[AG (AQ q hn)];exact q) λc xs q=>by rw[AG (AQ q hn)];exact q
   rcases hc with z|z
   ·rw[z];exact nt b u e
   ·exact nt c _ z
theorem Inv.turnedAll{t':Nat}{ch:List Addr}(I:Inv X pins σ H s)(hf:∀b∈ch,BH X pins H b)(k:∀b u,b∉ch->s.heap.get? b=some u->h'.get? b=some u):Inv X pins σ H {s with heap:=h',toks:=t'}:=by
 have nt:∀b u,H b=some u->b∉ch:=λb u e z=>by rw[(hf b z).1]at e;cases e
 refine I.step (g':=s.gens) (d':=s.drawn) (ch:=ch) (λb hb=>⟨(hf b hb).2.2.2.1,(hf b hb).2.1,(hf b hb).2.2.2.2.1,(hf b hb).2.2.2.2.2⟩) (λb u _ _ hc e _=>k b u hc e) (λb u _ _ hc e _=>⟨u.slots,k b u hc e⟩)
  (λb u _ e n=>n) (λb u hc e=>⟨u,k b u hc e⟩) (λb xs e=>e) (λb u xs e=>e) (λb ps e=>⟨#[],by rw[e];simp⟩) (λm hm=>?_) ⟨λb u e=>?_,I.hok.sm,I.bigAfter hf k⟩ I.bare
 ·obtain⟨ob,es,ep,ho,r⟩:=hm;exact⟨ob,es,ep,k _ ob (λz=>(hf _ z).2.1 rfl) ho,r⟩
 ·refine(I.hok b u e).stay (λc v hc q=>k c v ?_ q) (λc q=>q) λc xs q=>q;rcases hc with z|z
  ·rw[z];exact nt b u e
  ·exact nt c _ z
end
def Its(x:Str):It:=⟨λi _=>i<x.cps.size,λi H v H'=>H'=H/\∃c,x.cps[i]? =some c/\v= .str ⟨#[c]⟩,λi _=>i=x.cps.size⟩
section
variable{P:Program}{w:World}{K:W.Frag}{tg:Expr}
theorem IS{x:Str}{t:Tok}{T:String}{it:Addr}(hT:T="str_ascii_iterator"\/T="str_iterator")
 (W:∀A:Around,A.handled=none->Walks P w A it [it] [it] x.cps.size (SignAt x) (λi h=>h.IsStrIter it T x t i))
 (sf:∀ (A:Around) (i:Nat) (s:Shared) (Q:Value->Shared->Prop) (E:Value->Shared->Prop),s.heap.IsStrIter it T x t i->Q (.ref it) s->wpAny (model P w) A (pyIter (.ref it)) Q E s):
 Turn P w K tg (Its x) [it] it (λi h=>h.IsStrIter it T x t i) where
 mem:=by simp
 obj:=λi h st b hb=>by
  obtain⟨o,ho,_,hd⟩:=st;have e:b=it:=by simpa using hb
  subst e;exact⟨o,ho,λv z=>by rw[hd]at z;cases z⟩
 keep:=λi h h' st k=>by
  obtain⟨o,ho,r⟩:=st;exact⟨o,k it (by simp) o ho,r⟩
 item:=by
  intro X hP hw hK hc i pins s σ H E I hf st hg;subst hP hw hK;refine(W X.A (I.ok.hd hc)).item i s _ _ hg st λv h' tk hv st' kk=>?_;obtain⟨c,u,hx,rfl⟩:=hv;obtain⟨o,ho,hcl,hd⟩:=id st';have I1:Inv X pins σ H {s with heap:=h',toks:=tk}:=I.turnedAll hf kk;refine⟨_,rfl,Eg (s:={s with heap:=h',toks:=tk}) (n:=T) ho hcl hd (by rcases hT with rfl|rfl<;>decide) ⟨.str ⟨#[c]⟩,H,I1,⟨u,rfl⟩,⟨rfl,c,hx,rfl⟩,st',λb hb=>(hf b hb).1⟩⟩
 done:=by
  intro X hP hw hK hc i pins s σ H E I hf st hg;subst hP hw hK;have e:i=x.cps.size:=hg;subst e;exact(W X.A (I.ok.hd hc)).done s _ _ st λh' tk kk=>⟨rfl,I.turnedAll hf kk⟩
 self:=λA i s Q E st h=>sf A i s Q E st h
end
def Lq(tl:TE):TI:=λσ H R=>tl σ H λx H1=>∃z,x= .str z/\R (Its z) H1
theorem CY{X:Cx}{tg l:Expr}{tl:TE}(hl:PE X l tl):PI X tg l (Lq tl):=by
 intro pins s σ H R I h;refine thn (hl pins s σ H _ I h) λv s1 z_=>?_;obtain⟨x,H1,I1,r1,q1⟩:=z_;obtain⟨z,rfl,q⟩:=q1;obtain⟨t,rfl⟩:=r1;have side:∀b∈[s1.heap.objs.size],BH X pins H1 b:=λb hb=>by
  have e:b=s1.heap.objs.size:=by simpa using hb
  subst e;exact I1.fpOk (Nat.le_refl _) (I1.hok.fresh (Nat.le_refl _))
 cases ha:z.cps.all (· <128)
 ·refine wpAny_pyIter_wide ha ⟨s1.heap.objs.size,[s1.heap.objs.size],_,_,H1,rfl,I1.kept (t':=s1.toks) λb o e=>Heap.get?_push_of_some _ e,IS (t:=t) (T:="str_iterator") (.inr rfl) (λA hh=>Walks.strWide hh _ z t) (λA i s Q E st h=>wpAny_pyIter_striter_wide st h),⟨_,Heap.get?_push_size _ rfl,rfl,rfl⟩,side,q⟩
 ·refine wpAny_pyIter_ascii ha ⟨s1.heap.objs.size,[s1.heap.objs.size],_,_,H1,rfl,I1.kept (t':=s1.toks) λb o e=>Heap.get?_push_of_some _ e,IS (t:=t) (T:="str_ascii_iterator") (.inl rfl) (λA hh=>Walks.strAscii hh _ z t) (λA i s Q E st h=>wpAny_pyIter_striter_ascii st h),⟨_,Heap.get?_push_size _ rfl,rfl,rfl⟩,side,q⟩
def DS(x:Str):It:=⟨λi _=>i<x.cps.size,λi H v H'=>∃T c,H T=none/\x.cps[i]? =some c/\v= .ref T/\H'=upd H T (.tup [.int i, .str ⟨#[c]⟩]),λi _=>i=x.cps.size⟩
def Gm(K:W.Frag)(a:Addr):It:=⟨λi H=>∃xs x,SqL K H a xs/\xs[i]? =some x,λi H v H'=>∃T x,H T=none/\(∀xs,SqL K H a xs->xs[i]? =some x)/\v= .ref T/\H'=upd H T (.tup [.int i,x]),
 λi H=>∃xs,SqL K H a xs/\i=xs.length⟩
section
variable{P:Program}{w:World}{K:W.Frag}{elts:List Expr}{k:Nat}{tpos:Pos}
theorem IB{X:Cx}{pins:List (Addr×Obj)}{σ:St}{H:Hp}{s:Shared}{E:Value->Shared->Prop}{e it:Addr}{fp:List Addr}{n i:Nat}{Pr:Nat->Value->Prop}{St:Nat->Heap->Prop}{old:Value}{Qx:Value->Hp->V->Prop}{tn:Heap->Prop}
 (D:Draws X.prog X.w X.A.in1 it fp n Pr St) (I:Inv X pins σ H s) (hf:∀b∈[e,it],BH X pins H b) (he:IsEnum s.heap e it i old) (hst:St i s.heap) (hlt:i<n) (hne:e≠it) (hef:e∉fp)
 (tnk:∀h' o,IsEnum h' e it ((i:Int)+1) o->St (i+1) h'->tn h') (y:∀v,Pr i v->∃z,RelV z v/\Qx v H z):
 wpAny (model X.prog X.w) X.A (pyNext (.ref e)) (λr s1=>∃u,r=some u/\wpAny (model X.prog X.w) X.A (letOwnedTupleGo (.Tuple elts k tpos) (.ref e) u) (λ_ s2=>∃x H',Inv X pins σ H' s2/\RelV x u/\
  (∃T z v,H T=none/\Pr i v/\RelV z v/\Qx v H z/\x= .ref T/\H'=upd H T (.tup [.int i,z]))/\tn s2.heap/\∀b∈[e,it],H' b=none) E s1) E s:=by
 refine wpAny_pyNext_enum_itemD D he hst hlt hne hef λv h1 tk hP ho hs' hT hsz hk=>⟨_,rfl,wpAny_letOwnedTupleGo_enum ho λh2 he2 hs2=>?_⟩;obtain⟨z,rz,qz⟩:=y v hP;have hel:e<s.heap.objs.size:=Heap.lt_size he;have hil:it<s.heap.objs.size:=by obtain⟨_,q⟩:=D.live _ _ hst;exact Heap.lt_size q
 have hT2:h2.get? s.heap.objs.size=some {cls:= .type "tuple",data:= .seq #[.int i tk,v]}:=(hs2.2 _ (Nat.ne_of_gt hel)).trans hT;have ob:ObjOk X.prog X.w (upd H s.heap.objs.size (.tup [.int i,z])) h2 s.heap.objs.size (.tup [.int i,z]):=⟨(by show 2<=sizeLine;decide),[.int i tk,v], .cons ⟨tk,rfl⟩ (.cons rz .nil),⟨_,hT2,rfl,_,rfl⟩⟩;have I2:Inv X pins σ (upd H s.heap.objs.size (.tup [.int i,z])) {s with heap:=h2,toks:=tk+1}:=I.turnedLaid hf (λb u hb q=>(hs2.2 b (λz=>hb (by simp[z]))).trans (hk b u (λz=>hb (by simp[z])) (λz=>hb (by simp[z])) q)) (Nat.le_refl _) ob;refine⟨.ref s.heap.objs.size,_,I2,rfl,⟨s.heap.objs.size,z,v,I.hok.fresh (Nat.le_refl _),hP,rz,qz,rfl,rfl⟩,tnk h2 _ he2 (D.frame _ _ _ hs' λb hb o q=>(hs2.2 b λz=>hef (z▸hb)).trans q),λb hb=>?_⟩;have hb':b≠s.heap.objs.size:=by
  rcases List.mem_cons.mp hb with z|hb
  ·rw[z];exact Nat.ne_of_lt hel
  ·rw[List.mem_singleton.mp hb];exact Nat.ne_of_lt hil
 rw[AG hb'];exact(hf b hb).1
theorem HH{x:Str}{t:Tok}{T:String}{e it:Addr}(hne:e≠it)
 (W:∀A:Around,A.handled=none->Draws P w A it [it] x.cps.size (λi v=>∃c u,x.cps[i]? =some c/\v= .str ⟨#[c]⟩ u) (λi h=>h.IsStrIter it T x t i)):
 Turn P w K (.Tuple elts k tpos) (DS x) [e,it] e (λi h=>(∃old,IsEnum h e it i old)/\h.IsStrIter it T x t i) where
 mem:=by simp
 obj:=λi h st b hb=>by
  obtain⟨⟨old,he⟩,o,ho,_,hd⟩:=st;rcases List.mem_cons.mp hb with z|hb
  ·subst z;exact⟨_,he,λv z=>by cases z⟩
  ·rw[List.mem_singleton.mp hb];exact⟨o,ho,λv z=>by rw[hd]at z;cases z⟩
 keep:=λi h h' st k=>by
  obtain⟨⟨old,he⟩,o,ho,r⟩:=st;exact⟨⟨old,k e (by simp) _ he⟩,o,k it (by simp) o ho,r⟩
 item:=by
  intro X hP hw hK hc i pins s σ H E I hf st hg;subst hP hw hK;obtain⟨⟨old,he⟩,st⟩:=st;refine thn (IB (elts:=elts) (k:=k) (tpos:=tpos) (Qx:=λv H z=>∃c,x.cps[i]? =some c/\z= .str ⟨#[c]⟩) (tn:=λh=>(∃old,IsEnum h e it ((i+1:Nat):Int) old)/\h.IsStrIter it T x t (i+1)) (W X.A.in1 (I.ok.hd hc)) I hf he st hg hne (λz=>hne (List.mem_singleton.mp z)) (λh' o a b=>⟨⟨o,by simpa using a⟩,b⟩) ?_) ?_
  ·rintro v ⟨c,u,hx,rfl⟩;exact⟨.str ⟨#[c]⟩,⟨u,rfl⟩,c,hx,rfl⟩
  ·rintro r s1 ⟨u,hr,h1⟩;refine⟨u,hr,thn h1 ?_⟩;rintro _ s2 ⟨xv,H',I2,rx,⟨Ta,z,v,hT,hv,rz,⟨c,hx,rfl⟩,ex,eH⟩,tn2,fr⟩;exact⟨xv,H',I2,rx,⟨Ta,c,hT,hx,ex,eH⟩,tn2,fr⟩
 done:=by
  intro X hP hw hK hc i pins s σ H E I hf st hg;subst hP hw hK;obtain⟨⟨old,he⟩,st⟩:=st;have ei:i=x.cps.size:=hg;subst ei;exact wpAny_pyNext_enum_endD (W X.A.in1 (I.ok.hd hc)) he st λh' hx=>⟨rfl,I.turnedAll (t':=s.toks) hf λb o hb q=>hx b o (λz=>hb (by simp[z])) q⟩
 self:=λA i s Q E st h=>by
  obtain⟨⟨old,he⟩,_⟩:=st;exact wpAny_pyIter_enum he h
theorem Na{a e it:Addr}(hne:e≠it)(hai:a≠it)(hae:a≠e):
 Turn P w K (.Tuple elts k tpos) (Gm K a) [e,it] e (λi h=>(∃old,IsEnum h e it i old)/\h.IsListIter it a i) where
 mem:=by simp
 obj:=λi h st b hb=>by
  obtain⟨⟨old,he⟩,o,ho,_,hd⟩:=st;rcases List.mem_cons.mp hb with z|hb
  ·subst z;exact⟨_,he,λv z=>by cases z⟩
  ·rw[List.mem_singleton.mp hb];exact⟨o,ho,λv z=>by rw[hd]at z;cases z⟩
 keep:=λi h h' st k=>by
  obtain⟨⟨old,he⟩,o,ho,r⟩:=st;exact⟨⟨old,k e (by simp) _ he⟩,o,k it (by simp) o ho,r⟩
 item:=by
  intro X hP hw hK hc i pins s σ H E I hf st hg;subst hP hw hK;obtain⟨⟨old,he⟩,st⟩:=st;obtain⟨xs,x,hq,hx⟩:=hg;obtain⟨its,rv,pl,hz⟩:=I.list hq;have hl:=rv.length;have hil:i<xs.length:=(List.getElem?_eq_some_iff.mp hx).1;have D:Draws X.prog X.w X.A.in1 it [it,a] its.toArray.size (λi v=>its.toArray[i]? =some v) (λi h=>h.IsListIter it a i/\h.IsList a its.toArray):=Draws.list (A:=X.A.in1) (I.ok.hd hc) it a hai its.toArray;refine thn (IB (elts:=elts) (k:=k) (tpos:=tpos) (Qx:=λv H z=>z=x) (tn:=λh=>(∃old,IsEnum h e it ((i+1:Nat):Int) old)/\h.IsListIter it a (i+1)) D I hf he ⟨st,pl.isList⟩ (by rw[List.size_toArray,<-hl];exact hil) hne (λz=>?_) (λh' o a b=>⟨⟨o,by simpa using a⟩,b.1⟩) ?_) ?_
  ·rcases List.mem_cons.mp z with z|z
   ·exact hne z
   ·exact hae (List.mem_singleton.mp z).symm
  ·intro v hv;obtain⟨u,eu,ru⟩:=rv.get hx;have:v=u:=by
    have hv':its[i]? =some v:=by simpa using hv
    rw[eu]at hv';exact(Option.some.inj hv').symm
   subst this;exact⟨x,ru,rfl⟩
  ·rintro r s1 ⟨u,hr,h1⟩;refine⟨u,hr,thn h1 ?_⟩;rintro _ s2 ⟨xv,H',I2,rx,⟨Ta,z,v,hT,hv,rz,rfl,ex,eH⟩,tn2,fr⟩;refine⟨xv,H',I2,rx,⟨Ta,z,hT,λys hys=>?_,ex,eH⟩,tn2,fr⟩;rw[I.list_inj hys hq];exact hx
 done:=by
  intro X hP hw hK hc i pins s σ H E I hf st hg;subst hP hw hK;obtain⟨⟨old,he⟩,st⟩:=st;obtain⟨xs,hq,ei⟩:=hg;obtain⟨its,rv,pl,hz⟩:=I.list hq;have hl:=rv.length;have D:Draws X.prog X.w X.A.in1 it [it,a] its.toArray.size (λi v=>its.toArray[i]? =some v) (λi h=>h.IsListIter it a i/\h.IsList a its.toArray):=Draws.list (A:=X.A.in1) (I.ok.hd hc) it a hai its.toArray;have es:i=its.toArray.size:=by rw[List.size_toArray,<-hl];exact ei
  exact wpAny_pyNext_enum_endD D he ⟨es▸st,pl.isList⟩ λh' hx=>⟨rfl,I.turnedAll (t':=s.toks) hf λb o hb q=>hx b o (λz=>hb (by simp[z])) q⟩
 self:=λA i s Q E st h=>by
  obtain⟨⟨old,he⟩,_⟩:=st;exact wpAny_pyIter_enum he h
end
def Lr(ta:TA):TI:=λσ H R=>ta σ H λvs H1=>∃z,vs=[.str z]/\R (DS z) H1
def Ge(K:W.Frag)(ta:TA):TI:=λσ H R=>ta σ H λvs H1=>∃a,vs=[.ref a]/\(∃xs,SqL K H1 a xs)/\R (Gm K a) H1
section
variable{X:Cx}{a:Expr}{ta:TA}{p pos:Pos}{elts:List Expr}{k:Nat}{tpos:Pos}
theorem GB{pins:List (Addr×Obj)}{σ:St}{H:Hp}{s:Shared}(I:Inv X pins σ H s):∀b∈[s.heap.objs.size+1,s.heap.objs.size],BH X pins H b:=λb hb=>by
 rcases List.mem_cons.mp hb with z|hb
 ·subst z;exact I.fpOk (Nat.le_succ _) (I.hok.fresh (Nat.le_succ _))
 ·rw[List.mem_singleton.mp hb];exact I.fpOk (Nat.le_refl _) (I.hok.fresh (Nat.le_refl _))
theorem Pq(hg:Gl X "enumerate")(hm:X.mg "enumerate"=none)(ha:PA X [a] ta)(hs:starEach [a] X.env=[(false,eval a X.env)]:=by rfl):PI X (.Tuple elts k tpos) (.Call (.Name "enumerate" p) [a] [] pos) (Lr ta):=by
 intro pins s σ H R I h;refine Call_ (Bn I hg hm boot_enumerate (PyProof.Rows.callWith_type1 (thn (ha pos pins s σ H _ I h) λus s1 ⟨vs,H1,I1,r1,q1⟩=>?_) hs rfl));obtain⟨z,e,q⟩:=q1;subst e
 cases r1 with
 |cons r rr=>
  cases rr
  obtain⟨t,rfl⟩:=r;refine call_enumerate_str λh' he hit hsz hk=>wpAny_pyIter_enum he ?_
  cases hall:z.cps.all (· <128)
  ·have hit':h'.IsStrIter s1.heap.objs.size "str_iterator" z t 0:=by simpa[strIterType,hall]using hit
   exact⟨s1.heap.objs.size+1,[s1.heap.objs.size+1,s1.heap.objs.size],_,_,H1,rfl,I1.kept (t':=s1.toks) hk,HH (t:=t) (T:="str_iterator") (Nat.succ_ne_self _) (λA hh=>Draws.strWide hh _ z t),⟨⟨_,he⟩,hit'⟩,GB I1,q⟩
  ·have hit':h'.IsStrIter s1.heap.objs.size "str_ascii_iterator" z t 0:=by simpa[strIterType,hall]using hit
   exact⟨s1.heap.objs.size+1,[s1.heap.objs.size+1,s1.heap.objs.size],_,_,H1,rfl,I1.kept (t':=s1.toks) hk,HH (t:=t) (T:="str_ascii_iterator") (Nat.succ_ne_self _) (λA hh=>Draws.strAscii hh _ z t),⟨⟨_,he⟩,hit'⟩,GB I1,q⟩
theorem Pt(hg:Gl X "enumerate")(hm:X.mg "enumerate"=none)(ha:PA X [a] ta)(hs:starEach [a] X.env=[(false,eval a X.env)]:=by rfl):PI X (.Tuple elts k tpos) (.Call (.Name "enumerate" p) [a] [] pos) (Ge X.K ta):=by
 intro pins s σ H R I h;refine Call_ (Bn I hg hm boot_enumerate (PyProof.Rows.callWith_type1 (thn (ha pos pins s σ H _ I h) λus s1 ⟨vs,H1,I1,r1,q1⟩=>?_) hs rfl));obtain⟨l,e,⟨xs,hq⟩,q⟩:=q1;subst e
 cases r1 with
 |cons r rr=>
  cases rr
  cases r
  obtain⟨its,rv,pl,hz⟩:=I1.list hq;obtain⟨ol,hol,_⟩:=id pl.isList;have hl:l<s1.heap.objs.size:=Heap.lt_size hol;refine call_enumerate_list pl.isList λh' he hit hsz hk=>wpAny_pyIter_enum he ?_;exact⟨s1.heap.objs.size+1,[s1.heap.objs.size+1,s1.heap.objs.size],_,_,H1,rfl,I1.kept (t':=s1.toks) hk,Na (Nat.succ_ne_self _) (Nat.ne_of_lt hl) (Nat.ne_of_lt (Nat.lt_succ_of_lt hl)),⟨⟨_,he⟩,hit⟩,GB I1,q⟩
end
def tx(l:List Nat):V:= .str ⟨l.toArray⟩
theorem tx_inj{a b:List Nat}:tx a=tx b↔a=b:=by
 unfold tx
 constructor
 ·intro h;injection h with h
  injection h with h
  simpa using congrArg Array.toList h
 ·rintro rfl;rfl
theorem Az(a:List Nat):(⟨a.toArray⟩:Str).length=a.length:=by simp[Str.length]
theorem Ea(a b:List Nat):eqV (tx a) (tx b)=decide (a=b):=by
 have e:eqV (tx a) (tx b)=((⟨a.toArray⟩:Str)==⟨b.toArray⟩):=rfl;rw[e]
 by_cases h:a=b
 ·subst h;simp
 ·rw[decide_eq_false h,beq_eq_false_iff_ne];intro q;exact h (tx_inj.mp (congrArg V.str q))
theorem Ki(a b:List Nat):decide (tx a=tx b)=decide (a=b):=by
 by_cases h:a=b
 ·subst h;simp
 ·rw[decide_eq_false h,decide_eq_false (λq=>h (tx_inj.mp q))]
section
variable{X:Cx}
theorem U7{x:Str}{l:List Nat}{j pos}(h:x=⟨l.toArray⟩):PE X (.Constant (.str x) j pos) (tC (tx l)):=by
 subst h;exact CZ
theorem op_addT:OpR X (binaryOp .Add) (λx y H Q=>∃a b,x=tx a/\y=tx b/\a.length+b.length<=sizeLine/\Q (tx (a++b)) H):=by
 intro pins s σ H x y v u Q I rx ry ⟨a,b,e1,e2,hz,q⟩;subst e1 e2;refine Nm pins s σ H _ _ v u Q I rx ry ⟨_,_,rfl,rfl,by rw[Az,Az];exact hz,?_⟩;have e:(V.str ((⟨a.toArray⟩:Str)++⟨b.toArray⟩))=tx (a++b):=by
  unfold tx;congr 1;show(⟨a.toArray++b.toArray⟩:Str)=_;simp
 rw[e];exact q
def rIxT':R2:=λx y H Q=>∃a i c,x=tx a/\y= .int i/\a.length<=sizeLine/\atI a i=some c/\Q (tx [c]) H
theorem ix_T:IxR X rIxT':=by
 intro value slice pins s σ H x y v u Q I rx ry ⟨a,i,c,e1,e2,hz,he,q⟩ hs;subst e1 e2;exact UA value slice pins s σ H _ _ v u Q I rx ry ⟨_,i,c,rfl,rfl,by rw[Az];exact hz,by simpa using he,q⟩ hs
theorem call_lenT:CallR X (.builtin "len") (λxs H Q=>∃a,xs=[tx a]/\a.length<=sizeLine/\Q (.int a.length) H):=by
 intro pins s σ H xs us Q I r ⟨a,e,hz,q⟩;subst e;refine Mw pins s σ H _ us Q I r ⟨_,rfl,by rw[Az];exact hz,?_⟩;rw[Az];exact q
theorem op_inT:OpR X (compareOp .In) (λx y H Q=>∃c l,x=tx [c]/\y=tx l/\Q (.bl (decide (c∈l))) H):=by
 intro pins s σ H x y v u Q I rx ry ⟨c,l,e1,e2,q⟩;subst e1 e2;refine OW pins s σ H _ _ v u Q I rx ry ⟨_,_,rfl,rfl,?_⟩;have e:=PySem.StrLaws.found_one (⟨l.toArray⟩:Str) c;simp only at e;rw[show(⟨[c].toArray⟩:Str)=⟨#[c]⟩from rfl,e];exact q
theorem op_notinT:OpR X (compareOp .NotIn) (λx y H Q=>∃c l,x=tx [c]/\y=tx l/\Q (.bl (!decide (c∈l))) H):=by
 intro pins s σ H x y v u Q I rx ry ⟨c,l,e1,e2,q⟩;subst e1 e2;refine Ml pins s σ H _ _ v u Q I rx ry ⟨_,_,rfl,rfl,?_⟩;have e:=PySem.StrLaws.found_one (⟨l.toArray⟩:Str) c;simp only at e;rw[show(⟨[c].toArray⟩:Str)=⟨#[c]⟩from rfl,e];exact q
theorem Ie(a:List Nat):∀ (n:Nat) (acc:Array Nat),((List.replicate n a.toArray).foldl (· ++ ·) acc)=(acc.toList++(List.replicate n a).flatten).toArray
 |0,acc=>by simp
 |n+1,acc=>by
  rw[List.replicate_succ,List.foldl_cons,Ie a n,List.replicate_succ,List.flatten_cons];simp
theorem Jl:OpR X (binaryOp .Mult) (λx y H Q=>∃a k,x=tx a/\y= .int k/\0<=k/\k<=1000/\a.length<=1000/\Q (tx (List.replicate k.toNat a).flatten) H):=by
 intro pins s σ H x y v u Q I rx ry ⟨a,k,e1,e2,h0,h1,hl,q⟩;subst e1 e2;obtain⟨t,rfl⟩:=rx;obtain⟨t',rfl⟩:=ry;have e:Txt.mul ⟨a.toArray⟩ k=⟨((List.replicate k.toNat a).flatten).toArray⟩:=by
  unfold Txt.mul
  by_cases hk:k<1
  ·have:k=0:=by lia
   subst this
   rfl
  ·rw[if_neg hk]
   split
   ·rename_i hc
    rw[Az]at hc;simp only[Bool.or_eq_true,beq_iff_eq]at hc;rcases hc with hc|hc
    ·subst hc;simp
    ·have:a=[]:=List.length_eq_zero_iff.mp hc;subst this;simp
   ·simp only;rw[Ie];simp
 refine SB.mul ⟨by simp;lia,λh2 _=>?_,λh2 _=>?_⟩ λt2 tk=>⟨tx (List.replicate k.toNat a).flatten,H,I.tok tk,⟨t2,by rw[e]⟩,q⟩
 ·rw[Az];have:(1000:Int)<=(2^63-1)/k:=by
   refine Int.le_ediv_of_mul_le (by lia) ?_;lia
  lia
 ·rw[Az];unfold Builtin.Str.tooLong;have hs:sizeLine=16777216:=sizeLine_eq;have:a.length*k.toNat<=1000*1000:=Nat.mul_le_mul hl (by lia);simp;lia
def A8{α:Type}(xs:List α)(lo hi:Option Int):List α:=(xs.drop (HT.sIx xs.length 0 lo)).take (HT.sIx xs.length xs.length hi-HT.sIx xs.length 0 lo)
theorem LO(v:Option Int)(n d:Nat)(hd:d<=n):(match v with|none=>(d:Int)|some i=>max 0 (min (if i<0 then i+(n:Int)else i) (n:Int)))=((HT.sIx n d v:Nat):Int):=by
 cases v with
 |none=>rfl
 |some i=>
  show max 0 (min (if i<0 then i+(n:Int)else i) (n:Int))=(((if i<0 then(i+(n:Int)).toNat else min i.toNat n):Nat):Int)
  by_cases hv:i<0
  ·simp only[if_pos hv];lia
  ·simp only[if_neg hv];lia
theorem Ri(lo hi:Option Int)(n:Nat):Builtin.Str.strSliceIndices lo hi 1 n=(List.range (HT.sIx n n hi-HT.sIx n 0 lo)).map λk=>HT.sIx n 0 lo+k:=by
 have h1:(1:Int)>0:=by lia
 have key:Builtin.Str.strSliceIndices lo hi 1 n=sliceRange ((HT.sIx n 0 lo:Nat):Int) ((HT.sIx n n hi:Nat):Int) 1:=by
  unfold Builtin.Str.strSliceIndices;simp only[h1,if_true];congr 1
  ·cases lo with
   |none=>rfl
   |some i=>exact LO (some i) n 0 (Nat.zero_le _)
  ·cases hi with
   |none=>rfl
   |some i=>exact LO (some i) n n (Nat.le_refl _)
 rw[key];unfold sliceRange;simp only[h1,if_true];have e3:(if((HT.sIx n 0 lo:Nat):Int)<((HT.sIx n n hi:Nat):Int)then(((HT.sIx n n hi:Nat):Int)-((HT.sIx n 0 lo:Nat):Int)+1-1)/1 else 0).toNat=HT.sIx n n hi-HT.sIx n 0 lo:=by
  split<;>lia
 rw[e3];refine List.map_congr_left λk _=>?_;lia
theorem Pp(a:List Nat)(i k:Nat):((List.range k).map λm=>i+m).filterMap (λj=>a.toArray[j]?)=(a.drop i).take k:=by
 rw[List.filterMap_map]
 induction k generalizing i with
 |zero=>simp
 |succ k ih=>
  rw[List.range_succ,List.filterMap_append,ih i,List.take_add_one];congr 1;simp only[List.filterMap_cons,List.filterMap_nil,Function.comp];rw[List.getElem?_drop];simp only[List.getElem?_toArray]
  cases a[i+k]? <;>rfl
theorem UK{α:Type}(a:List α)(lo hi:Option Int):(A8 a lo hi).length<=a.length:=by
 unfold A8;rw[List.length_take,List.length_drop];lia
def rSlS:V->Option Int->Option Int->Hp->VK->Prop:=λx lo hi H Q=>∃a,x=tx a/\a.length<=sizeLine/\Q (tx (A8 a lo hi)) H
theorem sl_T:SlR X rSlS:=by
 intro pins s σ H x v vl vu lo hi sl Q I rx hs pl pu ⟨a,e,hz,q⟩;subst e;obtain⟨t,rfl⟩:=rx;refine⟨"str",_,F.slot_str_getitem.lookup,typeIs_str _ _ _,?_⟩;obtain⟨l,el,ml⟩:∃l:Option (Int×Tok),vl=partValue l/\l.map (·.1)=lo:=by
  cases pl with
  |none=>exact⟨none,rfl,rfl⟩
  |int i t=>exact⟨some (i,t),rfl,rfl⟩
 obtain⟨u,eu,mu⟩:∃u:Option (Int×Tok),vu=partValue u/\u.map (·.1)=hi:=by
  cases pu with
  |none=>exact⟨none,rfl,rfl⟩
  |int i t=>exact⟨some (i,t),rfl,rfl⟩
 subst el eu;refine wpAny_getItem_str_slice (l:=l) (u:=u) (st:=none) hs rfl ?_;have hle:=UK a lo hi;have ep:slicePicked ⟨a.toArray⟩ l u none=(List.range (HT.sIx a.length a.length hi-HT.sIx a.length 0 lo)).map λk=>HT.sIx a.length 0 lo+k:=by
  unfold slicePicked;rw[ml,mu,Az];exact Ri lo hi a.length
 have ec:((slicePicked ⟨a.toArray⟩ l u none).filterMap (a.toArray[·]?))=A8 a lo hi:=by
  rw[ep];exact Pp a _ _
 unfold sliceMade;refine post_val_or_str ?_;have fin:(if((Option.map (λx=>x.1) (none:Option (Int×Tok))).getD 1==1&&(slicePicked ⟨a.toArray⟩ l u none).length==(⟨a.toArray⟩:Str).length)=true then(⟨a.toArray⟩:Str)else⟨((slicePicked ⟨a.toArray⟩ l u none).filterMap (a.toArray[·]?)).toArray⟩)=⟨(A8 a lo hi).toArray⟩:=by
  rw[ec]
  split
  ·rename_i hc
   rw[ep,Az]at hc;simp only[Option.map_none,Option.getD_none,beq_self_eq_true,Bool.true_and,List.length_map,List.length_range,beq_iff_eq]at hc;have hl:HT.sIx a.length a.length hi<=a.length:=HT.sIx_le _ _ (Nat.le_refl _) _;have h0:HT.sIx a.length 0 lo=0\/a.length=0:=by lia
   unfold A8;rw[hc];rcases h0 with h0|h0
   ·rw[h0,List.drop_zero,List.take_length]
   ·have:a=[]:=List.length_eq_zero_iff.mp h0;subst this;simp
  ·rfl
 have fin':=fin;simp only at fin'⊢;rw[fin'];refine⟨by rw[Az];lia,λt' k=>⟨tx (A8 a lo hi),H,I.tok k,⟨t',rfl⟩,q⟩⟩
theorem QY:CallR X (.builtin "isinstance") (λxs H Q=>∃x T t b,xs=[x, .ty T]/\TyOf X.K H x t/\W.kitOne X.K t (.type T)=some b/\Q (.bl b) H):=by
 intro pins s σ H xs us Q I r ⟨x,T,t,b,e,ty,hk,q⟩;subst e;obtain⟨u,w',rfl,ru,rw'⟩:=vals2 r
 cases rw'
 exact Oq I ru ty hk λtk=>⟨.bl b,H,I.tok tk,rfl,q⟩
theorem PM:CallR X (.builtin "all") (λxs H Q=>X.calm=true/\∃ (a:Addr) (bs:List Bool),xs=[.ref a]/\SqL X.K H a (bs.map V.bl)/\Q (.bl (bs.all id)) H):=by
 intro pins s σ H xs us Q I r ⟨hc,a,bs,e,hq,q⟩;subst e;obtain⟨u,rfl,ru⟩:=vals1 r
 cases ru
 obtain⟨its,rv,pl,hz⟩:=I.list hq;obtain⟨ol,hol,_⟩:=id pl.isList;have hl:a<s.heap.objs.size:=Heap.lt_size hol;have hlen:=rv.length;rw[List.length_map]at hlen;refine call_all_walk (wpAny_pyIter_list pl.isList ⟨s.heap.objs.size,_,_,_,_,_,λi=>bs.getD i false,rfl,Walks.list (A:=X.A.in1) (I.ok.hd hc) s.heap.objs.size a (Nat.ne_of_lt hl) its.toArray,⟨⟨_,Heap.get?_push_size _ rfl,rfl,rfl⟩,pl.isList.at λo e=>Heap.get?_push_of_some _ e⟩,?_,λh' tk kk=>?_⟩)
 ·intro i v s' Q' E' hv hQ';have hv':its[i]? =some v:=by simpa using hv
  have hi:i<bs.length:=by rw[hlen];exact(List.getElem?_eq_some_iff.mp hv').1
  obtain⟨w',e1,e2⟩:=rv.get (i:=i) (x:=V.bl bs[i]) (by simp[hi]);rw[hv']at e1
  cases e1
  cases e2
  have:bs.getD i false=bs[i]:=by simp[List.getD_eq_getElem?_getD,hi]
  simp only[this]at hQ';exact wpAny_truthy_bool hQ'
 ·have e:(List.range its.toArray.size).all (λi=>bs.getD i false)=bs.all id:=by
   rw[List.size_toArray,<-hlen];rw[Bool.eq_iff_iff];simp only[List.all_eq_true,List.mem_range,id]
   constructor
   ·intro h b hb;obtain⟨i,hi,rfl⟩:=List.mem_iff_getElem.mp hb;have:=h i hi;simpa[List.getD_eq_getElem?_getD,hi]using this
   ·intro h i hi;have:=h bs[i] (List.getElem_mem hi);simpa[List.getD_eq_getElem?_getD,hi]using this
  rw[e];have I1:Inv X pins σ H {s with heap:=s.heap.push {cls:= .type "list_iterator",data:= .fields #[.ref a, .int 0 0]}}:=I.kept (t':=s.toks) λb o z=>Heap.get?_push_of_some _ z;refine⟨.bl (bs.all id),H,I.kept (t':=tk) λb o z=>kk b o (λy=>?_) (Heap.get?_push_of_some _ z),rfl,q⟩;exact absurd (Heap.lt_size z) (by rw[List.mem_singleton.mp y];exact Nat.lt_irrefl _)
def eqVs:List V->List V->Bool
 |[],[]=>true
 |x::xs,y::ys=>eqV x y&&eqVs xs ys
 |_,_=>false
theorem FT:∀ {xs ys:List V},xs.length≠ys.length->eqVs xs ys=false
 |[],[],h=>absurd rfl h
 |[],_::_,_=>rfl
 |_::_,[],_=>rfl
 |x::xs,y::ys,h=>by
  have:eqVs xs ys=false:=FT (by simpa using h);show(eqV x y&&eqVs xs ys)=false;rw[this,Bool.and_false]
theorem ED:∀ (xs ys:List V),xs.length=ys.length->(List.range xs.length).all (λi=>eqV (xs.getD i .non) (ys.getD i .non))=eqVs xs ys
 |[],[],_=>rfl
 |x::xs,y::ys,h=>by
  have ih:=ED xs ys (by simpa using h);rw[List.length_cons,List.range_succ_eq_map,List.all_cons,List.all_map];show(eqV x y&&_)=(eqV x y&&eqVs xs ys);rw[<-ih]
  rfl
 |[],_::_,h=>by simp at h
 |_::_,[],h=>by simp at h
theorem ES{A:Around}{s:Shared}{xs ys:List V}{us ws:List Value}(r1:Vals xs us)(r2:Vals ys ws)(f1:xs.all Am=true)(f2:ys.all Am=true):
 ∀j (h1:j<us.toArray.size) (h2:j<ws.toArray.size),SeqAt.EqAt A s us.toArray[j] ws.toArray[j] (eqV (xs.getD j .non) (ys.getD j .non)):=by
 intro j h1 h2;have l1:=r1.length;have l2:=r2.length;rw[List.size_toArray]at h1 h2;have k1:j<xs.length:=by lia
 have k2:j<ys.length:=by lia
 obtain⟨u,e1,q1⟩:=r1.get (i:=j) (x:=xs[j]) (by simp[k1]);obtain⟨w',e2,q2⟩:=r2.get (i:=j) (x:=ys[j]) (by simp[k2]);have eu:us.toArray[j]=u:=by
  have:=List.getElem?_eq_getElem (l:=us) (i:=j) h1;rw[e1]at this;simpa using(Option.some.inj this).symm
 have ew:ws.toArray[j]=w':=by
  have:=List.getElem?_eq_getElem (l:=ws) (i:=j) h2;rw[e2]at this;simpa using(Option.some.inj this).symm
 rw[eu,ew];have g1:xs.getD j .non=xs[j]:=by simp[List.getD_eq_getElem?_getD,k1]
 have g2:ys.getD j .non=ys[j]:=by simp[List.getD_eq_getElem?_getD,k2]
 rw[g1,g2];exact GD q1 q2 (List.all_eq_true.mp f1 _ (List.getElem_mem k1)) (List.all_eq_true.mp f2 _ (List.getElem_mem k2))
def Em(K:W.Frag)(neg:Bool):R2:=λx y H Q=>∃a b xs ys,x= .ref a/\y= .ref b/\SqL K H a xs/\SqL K H b ys/\xs.all Am=true/\ys.all Am=true/\Q (.bl (if neg then !eqVs xs ys else eqVs xs ys)) H
theorem Ti(hu:X.A.units<cLine):OpR X (compareOp .Eq) (Em X.K false):=by
 intro pins s σ H x y v u Q I rx ry ⟨a,b,xs,ys,e1,e2,q1,q2,f1,f2,q⟩;subst e1 e2
 cases rx
 cases ry
 obtain⟨us,r1,p1,z1⟩:=I.list q1;obtain⟨ws,r2,p2,z2⟩:=I.list q2;have l1:=r1.length;have l2:=r2.length
 by_cases hl:xs.length=ys.length
 ·refine SeqAt.eq_listAt p1.isList p2.isList (by simp;lia) hu (ES r1 r2 f1 f2) ⟨.bl _,H,I,rfl,?_⟩;rw[List.size_toArray,<-l1,ED xs ys hl];exact q
 ·refine SeqAt.eq_list_lengthsAt p1.isList p2.isList (by simp;lia) hu ⟨.bl _,H,I,rfl,?_⟩;rw[<-FT hl];exact q
theorem Te(hu:X.A.units<cLine):OpR X (compareOp .NotEq) (Em X.K true):=by
 intro pins s σ H x y v u Q I rx ry ⟨a,b,xs,ys,e1,e2,q1,q2,f1,f2,q⟩;subst e1 e2
 cases rx
 cases ry
 obtain⟨us,r1,p1,z1⟩:=I.list q1;obtain⟨ws,r2,p2,z2⟩:=I.list q2;have l1:=r1.length;have l2:=r2.length
 by_cases hl:xs.length=ys.length
 ·refine SeqAt.RcNeAt.lists p1.isList p2.isList (by simp;lia) hu (ES r1 r2 f1 f2) _ _ _ _ ⟨.bl _,H,I,rfl,?_⟩;rw[List.size_toArray,<-l1,ED xs ys hl];exact q
 ·refine SeqAt.RcNeAt.lists_lengths p1.isList p2.isList (by simp;lia) hu _ _ _ _ ⟨.bl _,H,I,rfl,?_⟩;have:eqVs xs ys=false:=FT hl;rw[if_pos rfl,this]at q;exact q
def DR:V->Bool
 | .non=>true
 | .bl _=>true
 |_=>false
theorem Tg:OpR X (compareOp .Is) (λx y H Q=>DR y=true/\Q (.bl (decide (x=y))) H):=by
 intro pins s σ H x y v u Q I rx ry ⟨hl,q⟩;refine wpAny_is_plain ?_ ⟨.bl _,H,I,?_,q⟩
 ·cases y<;>first
   |(exact absurd hl Bool.false_ne_true)
   |(cases ry;cases x<;>first|(cases rx;rfl)|(obtain⟨t,rfl⟩:=rx;rfl))
 ·cases y<;>first
   |(exact absurd hl Bool.false_ne_true)
   |(cases ry;cases x<;>first|(cases rx;rfl)|(obtain⟨t,rfl⟩:=rx;rfl)|(cases rx;rename_i b1 _ b2;cases b1<;>cases b2<;>rfl)|(cases rx;rename_i b1 b2;cases b1<;>cases b2<;>rfl)|(cases rx;rename_i b1 _ b2 _;cases b1<;>cases b2<;>rfl))
theorem OV:OpR X (compareOp .IsNot) (λx y H Q=>DR y=true/\Q (.bl (!decide (x=y))) H):=by
 intro pins s σ H x y v u Q I rx ry ⟨hl,q⟩;refine wpAny_isNot_plain ?_ ⟨.bl _,H,I,?_,q⟩
 ·cases y<;>first
   |(exact absurd hl Bool.false_ne_true)
   |(cases ry;cases x<;>first|(cases rx;rfl)|(obtain⟨t,rfl⟩:=rx;rfl))
 ·cases y<;>first
   |(exact absurd hl Bool.false_ne_true)
   |(cases ry;cases x<;>first|(cases rx;rfl)|(obtain⟨t,rfl⟩:=rx;rfl)|(cases rx;rename_i b1 _ b2;cases b1<;>cases b2<;>rfl)|(cases rx;rename_i b1 b2;cases b1<;>cases b2<;>rfl)|(cases rx;rename_i b1 _ b2 _;cases b1<;>cases b2<;>rfl))
def rPlus:R2:=λx y H Q=>(∃i j,x= .int i/\y= .int j/\Q (.int (i+j)) H)\/(∃a b,x=tx a/\y=tx b/\a.length+b.length<=sizeLine/\Q (tx (a++b)) H)\/rCat x y H Q
theorem AO:OpR X (binaryOp .Add) rPlus:=op_add.or (op_addT.or Tj)
def K4:R2:=λx y H Q=>∃a k,x=tx a/\y= .int k/\0<=k/\k<=1000/\a.length<=1000/\Q (tx (List.replicate k.toNat a).flatten) H
def rTimes:R2:=λx y H Q=>(∃i j,x= .int i/\y= .int j/\CMul i j/\Q (.int (i*j)) H)\/rRep x y H Q\/K4 x y H Q
theorem A6:OpR X (binaryOp .Mult) rTimes:=op_mul.or (op_rep.or Jl)
def D4(K:W.Frag):R2:=λx y H Q=>rEq x y H Q\/Em K false x y H Q
theorem Ax(K:W.Frag)(hu:X.A.units<cLine)(hK:X.K=K:=by rfl):OpR X (compareOp .Eq) (D4 K):=by subst hK;exact op_eq.or (Ti hu)
def El(K:W.Frag):R2:=λx y H Q=>rNe x y H Q\/Em K true x y H Q
theorem Ba(K:W.Frag)(hu:X.A.units<cLine)(hK:X.K=K:=by rfl):OpR X (compareOp .NotEq) (El K):=by subst hK;exact op_ne.or (Te hu)
def Gb(K:W.Frag):R2:=λx y H Q=>(∃c l,x=tx [c]/\y=tx l/\Q (.bl (decide (c∈l))) H)\/rIn K false x y H Q
theorem DF(K:W.Frag)(hK:X.K=K:=by rfl):OpR X (compareOp .In) (Gb K):=by subst hK;exact op_inT.or OX
def Jd(K:W.Frag):R2:=λx y H Q=>(∃c l,x=tx [c]/\y=tx l/\Q (.bl (!decide (c∈l))) H)\/rIn K true x y H Q
theorem Hm(K:W.Frag)(hK:X.K=K:=by rfl):OpR X (compareOp .NotIn) (Jd K):=by subst hK;exact op_notinT.or Mm
def rIsA:R2:=λx y H Q=>DR y=true/\Q (.bl (decide (x=y))) H
theorem Bb:OpR X (compareOp .Is) rIsA:=Tg
def rIsNotA:R2:=λx y H Q=>DR y=true/\Q (.bl (!decide (x=y))) H
theorem OU:OpR X (compareOp .IsNot) rIsNotA:=OV
def Cd(K:W.Frag):R2:=λx y H Q=>rIxT' x y H Q\/Lj K x y H Q\/Li K x y H Q
theorem Vi(K:W.Frag)(hK:X.K=K:=by rfl):IxR X (Cd K):=by subst hK;exact ix_T.or (ix_list.or Tz)
def Ek(K:W.Frag):V->Option Int->Option Int->Hp->VK->Prop:=λx lo hi H Q=>rSlS x lo hi H Q\/Lh K x lo hi H Q
theorem BW(K:W.Frag)(hK:X.K=K:=by rfl):SlR X (Ek K):=by subst hK;exact sl_T.or Qk
def D3(K:W.Frag):List V->Hp->VK->Prop:=λxs H Q=>(∃a,xs=[tx a]/\a.length<=sizeLine/\Q (.int a.length) H)\/∃p ys,xs=[.ref p]/\(SqL K H p ys\/SqT K H p ys)/\Q (.int ys.length) H
theorem PJ(K:W.Frag)(hK:X.K=K:=by rfl):CallR X (.builtin "len") (D3 K):=by subst hK;exact call_lenT.or Mx
def Lk(K:W.Frag):List V->Hp->VK->Prop:=λxs H Q=>∃ (a:Addr) (bs:List Bool),xs=[.ref a]/\SqL K H a (bs.map V.bl)/\Q (.bl (bs.all id)) H
theorem Da(K:W.Frag)(hc:X.calm=true)(hK:X.K=K:=by rfl):CallR X (.builtin "all") (Lk K):=by subst hK;exact λpins s σ H xs us Q I r h=>PM pins s σ H xs us Q I r ⟨hc,h⟩
def Ga(K:W.Frag):List V->Hp->VK->Prop:=λxs H Q=>∃x T t b,xs=[x, .ty T]/\TyOf K H x t/\W.kitOne K t (.type T)=some b/\Q (.bl b) H
theorem DC(K:W.Frag)(hK:X.K=K:=by rfl):CallR X (.builtin "isinstance") (Ga K):=by subst hK;exact QY
def rMax:List V->Hp->VK->Prop:=λxs H Q=>∃i j,xs=[.int i, .int j]/\Q (.int (if j>i then j else i)) H
def rMin:List V->Hp->VK->Prop:=λxs H Q=>∃i j,xs=[.int i, .int j]/\Q (.int (if j<i then j else i)) H
theorem PF(hc:X.calm=true):CallR X (.builtin "max") rMax:=PH hc
theorem IE(hc:X.calm=true):CallR X (.builtin "min") rMin:=PD hc
def rInt:List V->Hp->VK->Prop:=λxs H Q=>(∃i,xs=[.int i]/\Q (.int i) H)\/∃k,xs=[.bl k]/\Q (.int (if k then 1 else 0)) H
theorem DZ:CallR X (.type "int") rInt:=PK
def LU(K:W.Frag)(ta:TE):TT:=λσ H Q=>ta σ H λx H'=>∃k,C7 K x H' k/\Q k H'
theorem A5(K:W.Frag){a:Expr}{ta:TE}(ha:PE X a ta)(he:∀whole,isTrue a X.env whole=(do let v<-whole;standAt a.pos;holding [v] (truthy v)):=by intro _;rfl)(hK:X.K=K:=by rfl):PT X a (LU K ta):=by subst hK;exact Pm ha he
theorem B6(K:W.Frag){tg l:Expr}{tl:TE}(hl:PE X l tl)(hK:X.K=K:=by rfl):PI X tg l (GS K tl):=by subst hK;exact RM hl
theorem OO(K:W.Frag){a:Expr}{ta:TA}{p pos:Pos}{elts:List Expr}{k:Nat}{tpos:Pos}(hg:Gl X "enumerate")(hm:X.mg "enumerate"=none)(ha:PA X [a] ta)(hs:starEach [a] X.env=[(false,eval a X.env)]:=by rfl)(hK:X.K=K:=by rfl):PI X (.Tuple elts k tpos) (.Call (.Name "enumerate" p) [a] [] pos) (Ge K ta):=by subst hK;exact Pt hg hm ha hs
theorem Bu(K:W.Frag){es:List Expr}{k:Nat}{t:TGs}{n:Nat}{pos:Pos}(hc:X.calm=true)(h:PGs X es t)
 (hn:(assignEach es X.env).length=n:=by rfl) (hst:(assignEach es X.env).findIdx? (·.1)=none:=by rfl) (hK:X.K=K:=by rfl):PG X (.Tuple es k pos) (Er K n t):=by subst hK;exact TQ hc h hn hst
theorem RW(K:W.Frag){o:Expr}{to:TE}{name:Str}{apos cpos:Pos}{T id:String}{r:V->List V->Hp->VK->Prop}(pa:PlainAttrs T)(slot:Slot T name id)(hty:typeOf (.builtin id)=pure (.type "method_descriptor"))(hm:MtR X id r)(ho:PE X o to)
 (hbase:attributeBase o name X.env (eval o X.env)=eval o X.env:=by rfl) (hline:(apos.endLine==cpos.line)=true:=by rfl) (hK:X.K=K:=by rfl):PE X (.Call (.Attribute o name apos) [] [] cpos) (GX K T r to):=by subst hK;exact TY pa slot hty hm ho hbase hline
theorem BZ(K:W.Frag){o e:Expr}{es:List Expr}{to:TE}{t:TA}{name:Str}{apos cpos:Pos}{T id:String}{r:V->List V->Hp->VK->Prop}(pa:PlainAttrs T)(slot:Slot T name id)(hty:typeOf (.builtin id)=pure (.type "method_descriptor"))(hm:MtR X id r)(ho:PE X o to)(ha:PA X (e::es) t)
 (hbase:attributeBase o name X.env (eval o X.env)=eval o X.env:=by rfl)
 (hfew:((backTo cpos (starEach (e::es) X.env)).all (λx=> !x.1)&&(backToKw cpos (keywordEach [] X.env)).all (λx=>x.1.isSome)
   &&decide ((e::es).length+([]:List Keyword).length+(if([]:List Keyword).isEmpty then 0 else 1)<30))=true:=by rfl)
 (hline:(apos.endLine==cpos.line)=true:=by rfl) (hs:starEach (e::es) X.env=(false,eval e X.env)::starEach es X.env:=by rfl) (hplain:(backTo cpos (starEach es X.env)).any (·.1)=false:=by rfl) (hK:X.K=K:=by rfl):
 PE X (.Call (.Attribute o name apos) (e::es) [] cpos) (tBM K T r to t):=by subst hK;exact U9 pa slot hty hm ho ha hbase hfew hline hs hplain
theorem AY{x:Str}{v:V}{pos:Pos}(h:∃u,X.mg x=some u/\RelV v u)(hg:Gl X x:=by rfl)(hd:(x==("__debug__":Str))=false:=by decide):PE X (.Name x pos) (tC v):=by
 obtain⟨u,hm,r⟩:=h;exact RQ hg hm r hd
theorem DJ{x:Str}{T:String}{pos:Pos}(hm:X.mg x=none)(hv:bootBuiltins x=some (.type T))(hg:Gl X x:=by rfl)(hn:x≠"__name__":=by decide)(hd:(x==("__debug__":Str))=false:=by decide):PE X (.Name x pos) (tC (.ty T)):=
 RX hg hm hv rfl hn hd
structure FnU (P:Program) (w:World) (K:W.Frag) (mg:Str->Option Value) (base:Heap) (k:Nat) (x:Str) (ps:List Str) (sp:Sp):Prop where
 ex:∃f fd,FnOk P w K mg base CX0 k f fd ps sp/\mg x=some (.ref f)/\W.keepIn K (.ref f)=true/\Binds K fd ps []
theorem AL{k:Nat}{x:Str}{ps:List Str}{sp:Sp}{e:Expr}{es:List Expr}{t:TA}{p pos:Pos}(U:FnU X.prog X.w X.K X.mg X.base k x ps sp)(hr:Room k X.A)(ha:PA X (e::es) t)(hg:Gl X x:=by rfl)
 (hdb:(x==("__debug__":Str))=false:=by decide) (he:starEach (e::es) X.env=(false,eval e X.env)::starEach es X.env:=by rfl) (hpl:(backTo pos (starEach es X.env)).any (·.1)=false:=by rfl):
 PE X (.Call (.Name x p) (e::es) [] pos) (Du sp [] E0 t):=by
 obtain⟨f,fd,F,hm,hk,hb⟩:=U.ex;exact RV F hr hg hm hk hb .nil Ef ha hdb he hpl
end
section
variable{σ:St}{H:Hp}{Q:VK}{D:Ends}{K:W.Frag}
theorem Ky{t u:TS}(h:t {D with nx:=u D} σ H):Dy t u D σ H:=h
theorem VZ{c:TT}{t u:TS}(h:c σ H λb H1=>if b=true then t D σ H1 else u D σ H1):DN c t u D σ H:=h
theorem U3{te:TE}{g:TG}(h:te σ H λx H1=>g x σ H1 D.nx):Bf te g D σ H:=h
theorem Kz{f:Int->Int->Int}{i j:Int}(h:Q (.int (f i j)) H):ipI f (.int i) (.int j) H Q:=⟨i,j,rfl,rfl,h⟩
theorem Uc{te:TE}(h:te σ H D.rt):GV te D σ H:=h
theorem Ss{te:TE}(h:te σ H λ_ H1=>D.nx σ H1):Ks te D σ H:=h
theorem SW(h:D.nx σ H):tNext D σ H:=h
theorem Sy(h:D.ct σ H):tCont D σ H:=h
theorem SX{i:Nat}{v:V}{R:St->Hp->Prop}(h:R (σ.set i (some v)) H):Aw i v σ H R:=h
theorem Sn{R:St->Hp->Prop}(h:R σ H):gNil [] σ H R:=⟨rfl,h⟩
theorem Q5{t:TG}{u:TGs}{v:V}{r:List V}{R:St->Hp->Prop}(h:t v σ H λσ' H'=>u r σ' H' R):Eh t u (v::r) σ H R:=⟨v,r,rfl,h⟩
theorem EW{n:Nat}{t:TGs}{a:Addr}{xs:List V}{R:St->Hp->Prop}(hq:SqT K H a xs)(hl:xs.length=n)(h:t xs σ H R):Er K n t (.ref a) σ H R:=⟨a,xs,rfl,hq,hl,h⟩
theorem Sl{to ti:TE}{t:TSet}{v:V}{R:St->Hp->Prop}(h:to σ H λo H1=>ti σ H1 λi H2=>t o i v H2 λH3=>R σ H3):Gf to ti t v σ H R:=h
theorem UT{i:Nat}{v:V}(e:σ[i]? =some (some v))(q:Q v H):A7 i σ H Q:=⟨v,e,q⟩
theorem s_c{v:V}(q:Q v H):tC v σ H Q:=q
theorem VV{r:R2}{ta tb:TE}(h:ta σ H λx H1=>tb σ H1 λy H2=>r x y H2 Q):tOp r ta tb σ H Q:=h
theorem VR{r:V->Hp->VK->Prop}{ta:TE}(h:ta σ H λx H1=>r x H1 Q):tUn r ta σ H Q:=h
theorem Uj{i:Int}{g:Int->V}(h:Q (g i) H):rU g (.int i) H Q:=⟨i,rfl,h⟩
theorem S4{sp:Sp}{dvs:List V}{E:XK}{t:TA}(h:t σ H λvs H1=>sp (vs++dvs) H1 Q E):Du sp dvs E t σ H Q:=h
theorem S0{ta:TE}{tr:TA}{R:List V->Hp->Prop}(h:ta σ H λx H1=>tr σ H1 λxs H2=>R (x::xs) H2):Bd ta tr σ H R:=h
theorem Ui{R:List V->Hp->Prop}(h:R [] H):tNil σ H R:=h
theorem Va{r:List V->Hp->VK->Prop}{t:TA}(h:t σ H λvs H1=>r vs H1 Q):tCB r t σ H Q:=h
theorem Up{t:TA}(h:t σ H λxs H1=>xs.length<=sizeLine/\∀p,H1 p=none->Q (.ref p) (upd H1 p (.lst xs))):C4 t σ H Q:=h
theorem UW{t:TA}(h:t σ H λxs H1=>xs.length<=sizeLine/\∀p,H1 p=none->Q (.ref p) (upd H1 p (.tup xs))):GU t σ H Q:=h
theorem Ut{t:TT}{ta tb:TE}(h:t σ H λc H1=>if c=true then ta σ H1 Q else tb σ H1 Q):tIf t ta tb σ H Q:=h
theorem U5{t u:TT}{R:Bool->Hp->Prop}(h:t σ H λc H1=>if c=true then u σ H1 R else R false H1):Ld t u σ H R:=h
theorem VU{t u:TT}{R:Bool->Hp->Prop}(h:t σ H λc H1=>if c=true then R true H1 else u σ H1 R):tOr t u σ H R:=h
theorem Uh{t:TT}{R:Bool->Hp->Prop}(h:t σ H λc H1=>R (!c) H1):LY t σ H R:=h
theorem S6{ta tb:TE}(h:ta σ H λx H1=>∃c,x= .bl c/\if c=true then tb σ H1 Q else Q (.bl false) H1):Ku ta tb σ H Q:=h
theorem Ud{ta tb:TE}(h:ta σ H λx H1=>∃c,x= .bl c/\if c=true then Q (.bl true) H1 else tb σ H1 Q):LX ta tb σ H Q:=h
theorem SV{ta:TE}(h:ta σ H λx H1=>∃c,x= .bl c/\Q (.bl (!c)) H1):Kr ta σ H Q:=h
theorem SK{t:TE}{R:Bool->Hp->Prop}(h:t σ H λx H'=>∃k,x= .bl k/\R k H'):DI t σ H R:=h
theorem UY{ta:TE}{R:Bool->Hp->Prop}(h:ta σ H λx H'=>∃k,C7 K x H' k/\R k H'):LU K ta σ H R:=h
theorem Q7{r r':R2}{ta tb tc:TE}(h:ta σ H λx H1=>tb σ H1 λy H2=>r x y H2 λz H3=>∃k,z= .bl k/\(if k=true then tc σ H3 λw' H4=>r' y w' H4 Q else Q (.bl false) H3)):Fw r r' ta tb tc σ H Q:=h
theorem B8{c:Bool}{R:Bool->Prop}(h:R c):∃k,V.bl c=V.bl k/\R k:=⟨c,rfl,h⟩
theorem SJ{c:Bool}{R:Bool->Prop}(h:R c):∃k,C7 K (.bl c) H k/\R k:=⟨c,rfl,h⟩
theorem SH{a:List Nat}{R:Bool->Prop}(hz:a.length<=sizeLine)(h:R (!decide (a=[]))):∃k,C7 K (tx a) H k/\R k:=by
 refine⟨!decide (a=[]),⟨by rw[Az];exact hz,?_⟩,h⟩;rw[Az]
 cases a with
 |nil=>rfl
 |cons c r=>
  have:((c::r).length:Int)≠0:=by simp;lia
  rw[decide_eq_false (by simp)];exact(bne_iff_ne.mpr this).symm
theorem F2{a:Addr}{xs:List V}{R:Bool->Prop}(hq:SqL K H a xs)(h:R (!xs.isEmpty)):∃k,C7 K (.ref a) H k/\R k:=⟨_, .inl ⟨xs,hq,rfl⟩,h⟩
theorem S7{i j:Int}(h:Q (.int (i+j)) H):rPlus (.int i) (.int j) H Q:= .inl ⟨i,j,rfl,rfl,h⟩
theorem BD{a b:List Nat}(hz:a.length+b.length<=sizeLine)(h:Q (tx (a++b)) H):rPlus (tx a) (tx b) H Q:= .inr (.inl ⟨a,b,rfl,rfl,hz,h⟩)
theorem Ct{a b:Addr}{xs ys:List V}(h1:H a=some (.lst xs))(h2:H b=some (.lst ys))(hz:xs.length+ys.length<=sizeLine)(h:∀p,H p=none->Q (.ref p) (upd H p (.lst (xs++ys)))):rPlus (.ref a) (.ref b) H Q:= .inr (.inr ⟨a,b,xs,ys,rfl,rfl,h1,h2,hz,h⟩)
theorem SL{g:Int->Int->V}{i j:Int}(h:Q (g i j) H):rI0 g (.int i) (.int j) H Q:=⟨i,j,rfl,rfl,h⟩
theorem VT{C:Int->Int->Prop}{g:Int->Int->V}{i j:Int}(hc:C i j)(h:Q (g i j) H):rI C g (.int i) (.int j) H Q:=⟨i,j,rfl,rfl,hc,h⟩
theorem SY{i j:Int}(hc:CMul i j)(h:Q (.int (i*j)) H):rTimes (.int i) (.int j) H Q:= .inl ⟨i,j,rfl,rfl,hc,h⟩
theorem Ed{a:Addr}{k:Int}{xs:List V}(h1:H a=some (.lst xs))(h2: -(2^63)<=k)(h3:k<2^63)(hz:xs.length*k.toNat<=sizeLine)(h:∀p,H p=none->Q (.ref p) (upd H p (.lst (List.replicate k.toNat xs).flatten))):rTimes (.ref a) (.int k) H Q:= .inr (.inl ⟨a,k,xs,rfl,rfl,h1,h2,h3,hz,h⟩)
theorem Cq{a:List Nat}{k:Int}(h0:0<=k)(h1:k<=1000)(hl:a.length<=1000)(h:Q (tx (List.replicate k.toNat a).flatten) H):rTimes (tx a) (.int k) H Q:= .inr (.inr ⟨a,k,rfl,rfl,h0,h1,hl,h⟩)
theorem Uy{i j:Int}(h:Q (.bl (decide (i=j))) H):D4 K (.int i) (.int j) H Q:= .inl ⟨rfl,by rw[show decide (V.int i=V.int j)=decide (i=j)from by rw[EU];exact(Bool.beq_eq_decide_eq i j)];exact h⟩
theorem Uw{a b:List Nat}(h:Q (.bl (decide (a=b))) H):D4 K (tx a) (tx b) H Q:= .inl ⟨rfl,by rw[Ki];exact h⟩
theorem Ux{a b:Addr}{xs ys:List V}(h1:SqL K H a xs)(h2:SqL K H b ys)(f1:xs.all Am=true)(f2:ys.all Am=true)(h:Q (.bl (eqVs xs ys)) H):D4 K (.ref a) (.ref b) H Q:= .inr ⟨a,b,xs,ys,rfl,rfl,h1,h2,f1,f2,h⟩
theorem Ul{i j:Int}(h:Q (.bl (!decide (i=j))) H):El K (.int i) (.int j) H Q:= .inl ⟨rfl,by rw[show decide (V.int i=V.int j)=decide (i=j)from by rw[EU];exact(Bool.beq_eq_decide_eq i j)];exact h⟩
theorem Uk{a b:List Nat}(h:Q (.bl (!decide (a=b))) H):El K (tx a) (tx b) H Q:= .inl ⟨rfl,by rw[Ki];exact h⟩
theorem GP{a b:Addr}{xs ys:List V}(h1:SqL K H a xs)(h2:SqL K H b ys)(f1:xs.all Am=true)(f2:ys.all Am=true)(h:Q (.bl (!eqVs xs ys)) H):El K (.ref a) (.ref b) H Q:= .inr ⟨a,b,xs,ys,rfl,rfl,h1,h2,f1,f2,h⟩
theorem Uq{c:Nat}{l:List Nat}(h:Q (.bl (decide (c∈l))) H):Gb K (tx [c]) (tx l) H Q:= .inl ⟨c,l,rfl,rfl,h⟩
theorem K0{x:V}{a:Addr}{xs:List V}(h1:SqL K H a xs\/SqT K H a xs)(f1:Am x=true)(f2:xs.all Am=true)(h:Q (.bl (inV x xs)) H):Gb K x (.ref a) H Q:= .inr ⟨a,xs,rfl,h1,f1,f2,h⟩
theorem Pe{x:V}{a:Addr}{xs:List V}(h1:SqL K H a xs\/SqT K H a xs)(f1:Am x=true)(f2:xs.all Am=true)(h:Q (.bl (!inV x xs)) H):Jd K x (.ref a) H Q:= .inr ⟨a,xs,rfl,h1,f1,f2,h⟩
theorem VY{x y:V}(hl:DR y=true)(h:Q (.bl (decide (x=y))) H):rIsA x y H Q:=⟨hl,h⟩
theorem Bw{a:List Nat}{i:Int}{c:Nat}(hz:a.length<=sizeLine)(he:atI a i=some c)(h:Q (tx [c]) H):Cd K (tx a) (.int i) H Q:= .inl ⟨a,i,c,rfl,rfl,hz,he,h⟩
theorem AN{p:Addr}{xs:List V}{i:Int}{v:V}(hq:SqL K H p xs)(he:atI xs i=some v)(h:Q v H):Cd K (.ref p) (.int i) H Q:= .inr (.inl ⟨p,xs,i,v,rfl,rfl,hq,he,h⟩)
theorem A0{p:Addr}{xs:List V}{i:Int}{v:V}(hq:SqT K H p xs)(he:atI xs i=some v)(h:Q v H):Cd K (.ref p) (.int i) H Q:= .inr (.inr ⟨p,xs,i,v,rfl,rfl,hq,he,h⟩)
theorem VS{r:V->Option Int->Option Int->Hp->VK->Prop}{te:TE}{tl th:TO}(h:te σ H λx H1=>tl σ H1 λl H2=>th σ H2 λu H3=>r x l u H3 Q):tSl r te tl th σ H Q:=h
theorem Pf{R:Option Int->Hp->Prop}(h:R none H):tNoPart σ H R:=h
theorem SQ{t:TE}{R:Option Int->Hp->Prop}(h:t σ H λx H1=>∃i,x= .int i/\R (some i) H1):GH t σ H R:=h
theorem Qr{i:Int}{R:Int->Prop}(h:R i):∃j,V.int i=V.int j/\R j:=⟨i,rfl,h⟩
theorem GN{a:List Nat}{lo hi:Option Int}(hz:a.length<=sizeLine)(h:Q (tx (A8 a lo hi)) H):Ek K (tx a) lo hi H Q:= .inl ⟨a,rfl,hz,h⟩
theorem GO{p:Addr}{xs:List V}{lo hi:Option Int}(hq:SqL K H p xs)(h:∀r,H r=none->Q (.ref r) (upd H r (.lst (C6 xs lo hi)))):Ek K (.ref p) lo hi H Q:= .inr ⟨p,xs,rfl,hq,h⟩
theorem F3{a:List Nat}(hz:a.length<=sizeLine)(h:Q (.int a.length) H):D3 K [tx a] H Q:= .inl ⟨a,rfl,hz,h⟩
theorem BS{p:Addr}{ys:List V}(hq:SqL K H p ys\/SqT K H p ys)(h:Q (.int ys.length) H):D3 K [.ref p] H Q:= .inr ⟨p,ys,rfl,hq,h⟩
theorem Dv{a:Addr}{bs:List Bool}(hq:SqL K H a (bs.map V.bl))(h:Q (.bl (bs.all id)) H):Lk K [.ref a] H Q:=⟨a,bs,rfl,hq,h⟩
theorem BV{x:V}{T:String}{t:Value}{b:Bool}(ty:TyOf K H x t)(e:W.kitOne K t (.type T)=some b)(h:Q (.bl b) H):Ga K [x, .ty T] H Q:=⟨x,T,t,b,rfl,ty,e,h⟩
theorem Uo{i j:Int}(h:Q (.int (if j>i then j else i)) H):rMax [.int i, .int j] H Q:=⟨i,j,rfl,h⟩
theorem Um{i j:Int}(h:Q (.int (if j<i then j else i)) H):rMin [.int i, .int j] H Q:=⟨i,j,rfl,h⟩
theorem Si{k:Bool}(h:Q (.int (if k then 1 else 0)) H):rInt [.bl k] H Q:= .inr ⟨k,rfl,h⟩
theorem Vd{T:String}{r:V->List V->Hp->VK->Prop}{to:TE}{t:TA}(h:to σ H λx H1=>tyV K T x H1/\t σ H1 λxs H2=>r x xs H2 Q):tBM K T r to t σ H Q:=h
theorem U2{T:String}{r:V->List V->Hp->VK->Prop}{to:TE}(h:to σ H λx H1=>tyV K T x H1/\r x [] H1 Q):GX K T r to σ H Q:=h
end
section
variable{g:TG}{tb:TS}{D:Ends}{σ:St}{H:Hp}
def Bg(J:It)(g:TG)(tb:TS)(D:Ends)(σ:St)(H:Hp):Prop:=∃W:Nat->Nat->St->Hp->Prop,(∃m,W 0 m σ H)/\∀i m σ H,W i m σ H->
 (J.stop i H/\D.nx σ H)\/(J.go i H/\∃N:St->Hp->Prop,(∀σ' H',N σ' H'->∃m',m'<m/\W (i+1) m' σ' H')/\∀x H',J.yld i H x H'->g x σ H' λσ2 H2=>tb {D with nx:=N,ct:=N,bk:=D.nx} σ2 H2)
theorem Uu{wi:TI}(h:wi σ H λJ H1=>Bg J g tb D σ H1):LZ wi g tb D σ H:=h
theorem Q2{ta:TA}{R:It->Hp->Prop}(h:ta σ H λvs H1=>∃j:Int,vs=[.int j]/\ -(2^62)<=j/\j<2^62/\R (Itr 0 j.toNat) H1):LE ta σ H R:=h
theorem Q1{ta:TA}{R:It->Hp->Prop}(h:ta σ H λvs H1=>∃i j:Int,vs=[.int i, .int j]/\(-(2^62)<=i/\i<2^62/\ -(2^62)<=j/\j<2^62)/\R (Itr i (j-i).toNat) H1):LD ta σ H R:=h
theorem Q3{K:W.Frag}{tl:TE}{R:It->Hp->Prop}(h:tl σ H λx H1=>∃a,x= .ref a/\(∃xs,SqL K H1 a xs)/\R (Itl K a) H1):GS K tl σ H R:=h
theorem Sf{tl:TE}{R:It->Hp->Prop}(h:tl σ H λx H1=>∃z,x= .str z/\R (Its z) H1):Lq tl σ H R:=h
theorem Qw{a:List Nat}{R:Str->Prop}(h:R ⟨a.toArray⟩):∃z,tx a= .str z/\R z:=⟨_,rfl,h⟩
theorem Sj{ta:TA}{R:It->Hp->Prop}(h:ta σ H λvs H1=>∃z,vs=[.str z]/\R (DS z) H1):Lr ta σ H R:=h
theorem Q4{a:List Nat}{R:Str->Prop}(h:R ⟨a.toArray⟩):∃z,[tx a]=[.str z]/\R z:=⟨_,rfl,h⟩
theorem Sk{K:W.Frag}{ta:TA}{R:It->Hp->Prop}(h:ta σ H λvs H1=>∃a,vs=[.ref a]/\(∃xs,SqL K H1 a xs)/\R (Gm K a) H1):Ge K ta σ H R:=h
theorem Rm{lo:Int}{n:Nat}(Pv:Nat->St->Hp->Prop)(h0:Pv 0 σ H)
 (hs:∀i σ H,i<n->Pv i σ H->g (.int (lo+i)) σ H λσ2 H2=>tb {D with nx:=Pv (i+1),ct:=Pv (i+1),bk:=D.nx} σ2 H2) (hd:∀σ H,Pv n σ H->D.nx σ H):Bg (Itr lo n) g tb D σ H:=O0 Pv h0 hs hd
theorem Rn{K:W.Frag}{a:Addr}{xs:List V}(Pv:Nat->St->Hp->Prop)(h0:Pv 0 σ H)(hl:∀i σ H,i<=xs.length->Pv i σ H->SqL K H a xs)
 (hs:∀i x σ H,xs[i]? =some x->Pv i σ H->g x σ H λσ2 H2=>tb {D with nx:=Pv (i+1),ct:=Pv (i+1),bk:=D.nx} σ2 H2) (hd:∀σ H,Pv xs.length σ H->D.nx σ H):Bg (Itl K a) g tb D σ H:=QO Pv h0 hl hs hd
theorem EZ{J:It}{n:Nat}(Pv:Nat->St->Hp->Prop)(h0:Pv 0 σ H)(hgo:∀i σ H,i<n->Pv i σ H->J.go i H)(hst:∀σ H,Pv n σ H->J.stop n H)
 (hs:∀i x σ H H',i<n->Pv i σ H->J.yld i H x H'->g x σ H' λσ2 H2=>tb {D with nx:=Pv (i+1),ct:=Pv (i+1),bk:=D.nx} σ2 H2) (hd:∀σ H,Pv n σ H->D.nx σ H):Bg J g tb D σ H:=by
 refine⟨λi m σ H=>m=n-i/\i<=n/\Pv i σ H,⟨n,by simp,Nat.zero_le _,h0⟩,?_⟩;rintro i m σ H ⟨rfl,hi,p⟩
 by_cases hlt:i<n
 ·exact .inr ⟨hgo i σ H hlt p,Pv (i+1),λσ' H' p'=>⟨n-(i+1),by lia,rfl,hlt,p'⟩,λx H' y=>hs i x σ H H' hlt p y⟩
 ·have e:i=n:=by lia
  subst e;exact .inl ⟨hst σ H p,hd σ H p⟩
theorem Rk{a:List Nat}(Pv:Nat->St->Hp->Prop)(h0:Pv 0 σ H)
 (hs:∀i c σ H,a[i]? =some c->Pv i σ H->g (tx [c]) σ H λσ2 H2=>tb {D with nx:=Pv (i+1),ct:=Pv (i+1),bk:=D.nx} σ2 H2) (hd:∀σ H,Pv a.length σ H->D.nx σ H):Bg (Its ⟨a.toArray⟩) g tb D σ H:=by
 refine EZ (n:=a.length) Pv h0 (λi σ H hi _=>by simpa[Its]using hi) (λσ H _=>by simp[Its]) (λi x σ H H' hi p y=>?_) hd;obtain⟨rfl,c,e,rfl⟩:=y;exact hs i c σ H' (by simpa using e) p
theorem Ro{a:List Nat}(Pv:Nat->St->Hp->Prop)(h0:Pv 0 σ H)
 (hs:∀i c σ H T,a[i]? =some c->H T=none->Pv i σ H->g (.ref T) σ (upd H T (.tup [.int i,tx [c]])) λσ2 H2=>tb {D with nx:=Pv (i+1),ct:=Pv (i+1),bk:=D.nx} σ2 H2) (hd:∀σ H,Pv a.length σ H->D.nx σ H):Bg (DS ⟨a.toArray⟩) g tb D σ H:=by
 refine EZ (n:=a.length) Pv h0 (λi σ H hi _=>by simpa[DS]using hi) (λσ H _=>by simp[DS]) (λi x σ H H' hi p y=>?_) hd;obtain⟨T,c,hT,e,rfl,rfl⟩:=y;exact hs i c σ H T (by simpa using e) hT p
def CW(D:Addr)(n:Nat)(Pv:Nat->List V->Hp->Prop)(i m:Nat)(H:Hp):Prop:=m=n-i/\i<=n/\∃ys,H D=some (.lst ys)/\ys.length<=i/\Pv i ys H
def BJ(J:It)(own:List Str)(sel:List Nat)(σ:St)(g:TG)(tt:TT)(te:TE)(Q:VK)(H1:Hp):Prop:=∀D,H1 D=none->
 ∃W:Nat->Nat->Hp->Prop,(∃m,W 0 m (upd H1 D (.lst [])))/\∀i m H2,W i m H2->
  (J.stop i H2/\Q (.ref D) H2)\/(J.go i H2/\∀x H3,J.yld i H2 x H3->g x (AT own sel σ) H3 λσ4 H4=>tt σ4 H4 λb H5=>
    if b=true then te σ4 H5 λv H6=>∃ys,H6 D=some (.lst ys)/\ys.length<sizeLine/\∃m',m'<m/\W (i+1) m' (upd H6 D (.lst (ys++[v])))
    else∃m',m'<m/\W (i+1) m' H5)
theorem S3{own:List Str}{sel:List Nat}{wi:TI}{tt:TT}{te:TE}{Q:VK}(h:wi σ H λJ H1=>BJ J own sel σ g tt te Q H1):Ec own sel wi g tt te σ H Q:=h
theorem CD{J:It}{n:Nat}{own:List Str}{sel:List Nat}{tt:TT}{te:TE}{Q:VK}{H1:Hp}(Pv:Addr->Nat->List V->Hp->Prop)(h0:∀D,H1 D=none->Pv D 0 [] (upd H1 D (.lst [])))
 (hgo:∀D i ys H,H1 D=none->i<n->H D=some (.lst ys)->Pv D i ys H->J.go i H) (hst:∀D ys H,H1 D=none->H D=some (.lst ys)->ys.length<=n->Pv D n ys H->J.stop n H/\Q (.ref D) H)
 (hs:∀D i ys H x H3,H1 D=none->i<n->H D=some (.lst ys)->ys.length<=i->Pv D i ys H->J.yld i H x H3->g x (AT own sel σ) H3 λσ4 H4=>tt σ4 H4 λb H5=>
   if b=true then te σ4 H5 λv H6=>∃ys,H6 D=some (.lst ys)/\ys.length<sizeLine/\∃m',m'<n-i/\CW D n (Pv D) (i+1) m' (upd H6 D (.lst (ys++[v])))
   else∃m',m'<n-i/\CW D n (Pv D) (i+1) m' H5):BJ J own sel σ g tt te Q H1:=by
 intro D hD;refine⟨CW D n (Pv D),⟨n,by simp,Nat.zero_le _,[],AF,Nat.le_refl _,h0 D hD⟩,?_⟩;rintro i m H2 ⟨rfl,hi,ys,hy,hl,p⟩
 by_cases hlt:i<n
 ·exact .inr ⟨hgo D i ys H2 hD hlt hy p,λx H3 y=>hs D i ys H2 x H3 hD hlt hy hl p y⟩
 ·have e:i=n:=by lia
  subst e;exact .inl (hst D ys H2 hD hy hl p)
theorem CA{D:Addr}{n i:Nat}{Pv:Nat->List V->Hp->Prop}{ys:List V}{v:V}{H:Hp}(hi:i<n)(hn:n<=sizeLine)(hD:H D=some (.lst ys))(hl:ys.length<=i)(p:Pv (i+1) (ys++[v]) (upd H D (.lst (ys++[v])))):
 ∃ys,H D=some (.lst ys)/\ys.length<sizeLine/\∃m',m'<n-i/\CW D n Pv (i+1) m' (upd H D (.lst (ys++[v]))):=
 ⟨ys,hD,by lia,n-(i+1),by lia,rfl,hi,ys++[v],AF,by simp;lia,p⟩
theorem DY{D:Addr}{n i:Nat}{Pv:Nat->List V->Hp->Prop}{ys:List V}{H:Hp}(hi:i<n)(hD:H D=some (.lst ys))(hl:ys.length<=i)(p:Pv (i+1) ys H):
 ∃m',m'<n-i/\CW D n Pv (i+1) m' H:=⟨n-(i+1),by lia,rfl,hi,ys,hD,by lia,p⟩
theorem Kw{R:Bool->Hp->Prop}(h:R true H):tYes σ H R:=h
end
theorem small{n:Nat}(h:n<=1000):n<=sizeLine:=Nat.le_of_lt (EE h)
theorem AI{H:Hp}{p:Addr}(h:H p=none)(o:HO):Same H (upd H p o):=λb u q=>by rw[AG (AQ q h)];exact q
def SameBut1(p:Addr)(H H':Hp):Prop:=∀b o,H b=some o->b≠p->H' b=some o
theorem SameBut1.refl(p:Addr)(H:Hp):SameBut1 p H H:=λ_ _ h _=>h
theorem SameBut1.trans{p:Addr}{H H1 H2:Hp}(a:SameBut1 p H H1)(b:SameBut1 p H1 H2):SameBut1 p H H2:=λc o h n=>b c o (a c o h n) n
theorem SameBut1.of{p:Addr}{H H':Hp}(a:Same H H'):SameBut1 p H H':=λc o h _=>a c o h
theorem SameBut1.upd{p:Addr}{H:Hp}{o:HO}:SameBut1 p H (upd H p o):=λc u h n=>by rw[AG n];exact h
def J0(osc:Scope)(N:List Str)(own:List Str)(sel:List Nat)(scope:Scope):Bool:=
 (scope.kind== .function)&&scope.names.all (λy=>y.2 != .cell)&&scope.names.all (λy=>y.2 != .local||scope.names.lookup y.1==some .local)&&
 scope.names.all (λy=>y.2 != .free||osc.names.lookup y.1==some .cell||osc.names.lookup y.1==some .free)&&
 sel.all (λj=>decide (j<N.length)&&scope.names.lookup (N.getD j Str.empty)==some .free&&(osc.names.lookup (N.getD j Str.empty)==some .cell||osc.names.lookup (N.getD j Str.empty)==some .free))
theorem O6{osc:Scope}{N:List Str}{own:List Str}{sel:List Nat}{scope:Scope}(h:J0 osc N own sel scope=true):CompOk osc N own sel scope:=by
 unfold J0 at h;simp only[Bool.and_eq_true,List.all_eq_true]at h;obtain⟨⟨⟨⟨h1,h2⟩,h3⟩,h4⟩,h5⟩:=h;refine⟨by simpa using h1,λy hy=>by simpa using h2 y hy,λy hy e=>?_,λy hy e=>?_,λj hj=>?_⟩
 ·have:=h3 y hy;simp only[Bool.or_eq_true,bne_iff_ne,beq_iff_eq]at this;rcases this with q|q
  ·exact absurd e q
  ·exact q
 ·have:=h4 y hy;simp only[Bool.or_eq_true,bne_iff_ne,beq_iff_eq]at this;rcases this with(q|q)|q
  ·exact absurd e q
  ·exact .inl q
  ·exact .inr q
 ·have:=h5 j hj;simp only[Bool.or_eq_true,beq_iff_eq,decide_eq_true_eq]at this;exact⟨this.1.1,this.1.2,this.2⟩
theorem Dx{α:Type}(x:α)(r:List α):atI (x::r) 0=some x:=by simp[atI,ixN]
theorem CG{p:Addr}{xs:List V}{k:Int}{j:Nat}{v:V}{H:Hp}{R:Hp->Prop}(h:H p=some (.lst xs))(e:ixN xs.length k=some j)(q:R (upd H p (.lst (xs.set j v)))):rSetL (.ref p) (.int k) v H R:=⟨p,xs,k,j,rfl,rfl,h,e,q⟩
def WN(Pv:St->Hp->Prop)(μ:St->Hp->Nat)(m:Nat):St->Hp->Prop:=λσ' H'=>Pv σ' H'/\μ σ' H'<m
theorem IL{c:TT}{tb:TS}{D:Ends}{σ:St}{H:Hp}(Pv:St->Hp->Prop)(μ:St->Hp->Nat)(h0:Pv σ H)
 (hs:∀σ H,Pv σ H->c σ H λb H1=>if b=true then∃N:St->Hp->Prop,(∀σ' H',N σ' H'->∃m',m'<μ σ H/\(m'=μ σ' H'/\Pv σ' H'))/\tb {D with nx:=N,ct:=N,bk:=D.nx} σ H1 else D.nx σ H1):KG c tb D σ H:=
 ⟨λm σ H=>m=μ σ H/\Pv σ H,⟨_,rfl,h0⟩,λm σ H ⟨e,p⟩=>by subst e;exact hs σ H p⟩
theorem Qd{tb:TS}{D:Ends}{σ:St}{H1:Hp}{Pv:St->Hp->Prop}{μ:St->Hp->Nat}{m:Nat}(h:tb {D with nx:=WN Pv μ m,ct:=WN Pv μ m,bk:=D.nx} σ H1):
 ∃N:St->Hp->Prop,(∀σ' H',N σ' H'->∃m',m'<m/\(m'=μ σ' H'/\Pv σ' H'))/\tb {D with nx:=N,ct:=N,bk:=D.nx} σ H1:=
 ⟨WN Pv μ m,λσ' H' ⟨p,l⟩=>⟨_,l,rfl,p⟩,h⟩
theorem P6{t u:TT}{σ:St}{H:Hp}{R:Bool->Hp->Prop}{c d:Bool}(ht:∀R:Bool->Hp->Prop,R c H->t σ H R)(hu:∀R:Bool->Hp->Prop,R d H->u σ H R)(h:R (c||d) H):tOr t u σ H R:=by
 refine ht _ ?_
 cases c with
 |true=>rw[if_pos rfl];exact h
 |false=>rw[if_neg Bool.false_ne_true];exact hu _ h
theorem Nk{u:Value}{x:V}(h:Es u=some x):RelV x u:=by
 cases u<;>first
  |(cases h;rfl)
  |(cases h;exact⟨_,rfl⟩)
  |(exact absurd h (by intro z;cases z))
def GG(its:Array Value)(xs:List V):Bool:=decide (its.toList.map Es=xs.map some)
theorem Gw:∀ {xs:List V} {us:List Value},us.map Es=xs.map some->Vals xs us
 |[],[],_=> .nil
 |x::xs,u::us,h=>by
  rw[List.map_cons,List.map_cons]at h;injection h with h1 h2
  exact .cons (Nk h1) (Gw h2)
 |[],_::_,h=>by cases h
 |_::_,[],h=>by cases h
theorem HI{its:Array Value}{xs:List V}(h:GG its xs=true):Vals xs its.toList:=Gw (of_decide_eq_true h)
theorem Nb{its:Array Value}{xs:List V}(h:GG its xs=true)(hx:xs.length<=1000):its.size<=sizeLine:=by
 have e:=(HI h).length;have e2:its.toList.length=its.size:=by simp
 exact Nat.le_of_lt (EE (by lia))
theorem Qz{x y:V}{H:Hp}{Q:VK}(hl:DR y=true)(h:Q (.bl (!decide (x=y))) H):rIsNotA x y H Q:=⟨hl,h⟩
theorem ifd{c A B:Prop}[Decidable c](h1:c->A)(h2:¬c->B):if decide c=true then A else B:=by
 by_cases h:c
 ·rw[if_pos (decide_eq_true h)];exact h1 h
 ·rw[if_neg (by rw[decide_eq_false h];exact Bool.false_ne_true)];exact h2 h
theorem ifn{c A B:Prop}[Decidable c](h1:¬c->A)(h2:c->B):if(!decide c)=true then A else B:=by
 by_cases h:c
 ·rw[if_neg (by rw[decide_eq_true h];exact Bool.false_ne_true)];exact h2 h
 ·rw[if_pos (by rw[decide_eq_false h];rfl)];exact h1 h
theorem ifp{c:Bool}{A B:Prop}(hc:c=true)(h:A):if c=true then A else B:=by rw[if_pos hc];exact h
theorem ifq{c:Bool}{A B:Prop}(hc:c=false)(h:B):if c=true then A else B:=by rw[if_neg (by rw[hc];exact Bool.false_ne_true)];exact h
theorem Qb{ns:List Int}{k:Int}(h0:0<=k)(h:k<(ns.length:Int)):∃v:Int,atI (ns.map V.int) k=some (.int v):=by
 have hk:k.toNat<ns.length:=by lia
 have ek:k=((k.toNat:Nat):Int):=by lia
 have q:atI (ns.map V.int) ((k.toNat:Nat):Int)=some (.int ns[k.toNat]):=Av (by rw[List.getElem?_map,List.getElem?_eq_getElem hk];rfl);rw[<-ek]at q;exact⟨_,q⟩
end L2
namespace BrM
open L2
def opn:List Nat:=[40,91,123,60]
def cls:List Nat:=[41,93,125,62]
def clo(c:Nat):Nat:=if c=40 then 41 else if c=91 then 93 else if c=123 then 125 else 62
def stp(st:List Nat)(c:Nat):Option (List Nat):=
 if c∈opn then some (clo c::st)else match st with
  |d::r=>if c=d then some r else none
  |[]=>none
def run:List Nat->List Nat->Option (List Nat)
 |st,[]=>some st
 |st,c::r=>(stp st c).bind λs=>run s r
theorem HM(st a b:List Nat):run st (a++b)=(run st a).bind λs=>run s b:=by
 induction a generalizing st with
 |nil=>rfl
 |cons c r ih=>
  show(stp st c).bind _=((stp st c).bind _).bind _
  cases stp st c with
  |none=>rfl
  |some s=>exact ih s
theorem FJ{st a s:List Nat}(h:run st a=some s)(c:Nat):run st (a++[c])=stp s c:=by
 rw[HM,h];show(stp s c).bind (λs=>some s)=stp s c
 cases stp s c<;>rfl
theorem IV{c:Nat}(h:c∈opn)(st:List Nat):stp st c=some (clo c::st):=by unfold stp;rw[if_pos h]
theorem Hh{d:Nat}(h:d∉opn)(r:List Nat):stp (d::r) d=some r:=by unfold stp;rw[if_neg h];simp
def Rt(row:List Nat):Prop:=run [] row=some []
def kin(k:Int)(c:Nat):Prop:=c∈opn.take k.toNat\/c∈cls.take k.toNat
theorem KZ{i:Int}{k:Int}(h0:0<=i)(h1:i<k)(hk:k<=4):∃c,atI [40,91,123,60] i=some c/\c∈opn/\c∈opn.take k.toNat/\atI [41,93,125,62] i=some (clo c)/\clo c∈cls.take k.toNat/\clo c∉opn:=by
 have:i=0\/i=1\/i=2\/i=3:=by lia
 have hk':k=1\/k=2\/k=3\/k=4:=by lia
 rcases hk' with rfl|rfl|rfl|rfl<;>rcases this with rfl|rfl|rfl|rfl<;>first
  |lia
  |exact⟨40,by decide⟩
  |exact⟨91,by decide⟩
  |exact⟨123,by decide⟩
  |exact⟨60,by decide⟩
theorem at3{α:Type}(x y z:α){i:Int}(h0:0<=i)(h1:i<3):∃v,atI [x,y,z] i=some v/\(v=x\/v=y\/v=z):=by
 have:i=0\/i=1\/i=2:=by lia
 rcases this with rfl|rfl|rfl
 ·exact⟨x,rfl, .inl rfl⟩
 ·exact⟨y,rfl, .inr (.inl rfl)⟩
 ·exact⟨z,rfl, .inr (.inr rfl)⟩
theorem JB{α:Type}(c:α)(r:List α):A8 (c::r) (some 1) none=r:=by
 unfold A8;have e1:HT.sIx (c::r).length 0 (some 1)=1:=by
  show HT.sIx (r.length+1) 0 (some ((1:Nat):Int))=1;rw[HT.sIx_nat];lia
 have e2:HT.sIx (c::r).length (c::r).length none=r.length+1:=rfl;rw[e1,e2];simp
def sg(c:Nat):Int:=if c∈opn then 1 else -1
def hg:List Nat->Int
 |[]=>0
 |c::r=>sg c+hg r
theorem Ow(a b:List Nat):hg (a++b)=hg a+hg b:=by
 induction a with
 |nil=>simp[hg]
 |cons c r ih=>rw[List.cons_append,hg,hg,ih];lia
def ht(a:List Nat)(i:Nat):Int:=hg (a.take i)
theorem Ju{a:List Nat}{i c:Nat}(h:a[i]? =some c):ht a (i+1)=ht a i+sg c:=by
 unfold ht;rw[List.take_add_one,h,Ow];show _=hg _+sg c;simp[hg]
theorem Qh{st s:List Nat}{c:Nat}(h:stp st c=some s):(s.length:Int)=st.length+sg c:=by
 unfold stp at h;unfold sg
 by_cases hc:c∈opn
 ·rw[if_pos hc]at h⊢
  cases h
  simp
 ·rw[if_neg hc]at h⊢
  cases st with
  |nil=>cases h
  |cons d r=>
   simp only at h
   split at h
   ·cases h;simp;lia
   ·cases h
theorem RC{st a s:List Nat}(h:run st a=some s):(s.length:Int)=st.length+hg a:=by
 induction a generalizing st with
 |nil=>cases h;simp[hg]
 |cons c r ih=>
  have h':(stp st c).bind (λs=>run s r)=some s:=h
  cases e:stp st c with
  |none=>rw[e]at h';cases h'
  |some s1=>
   rw[e]at h';have:=ih h';have:=Qh e;rw[hg];lia
theorem Pg{a s:List Nat}(h:run [] a=some s)(i:Nat):∃st,run [] (a.take i)=some st:=by
 have e:a=a.take i++a.drop i:=(List.take_append_drop i a).symm;rw[e,HM]at h
 cases q:run [] (a.take i)with
 |none=>rw[q]at h;cases h
 |some st=>exact⟨st,rfl⟩
theorem GT{a st:List Nat}{i:Nat}(h:run [] (a.take i)=some st):ht a i=st.length:=by
 have:=RC h;unfold ht;simp at this;lia
def Pr(a:List Nat)(x y:Nat):Prop:=x<y/\y<a.length/\ht a (y+1)=ht a x/\∀m,x<m->m<=y->ht a x<ht a m
def IsPart(a:List Nat)(xs:List V):Prop:=xs.length=a.length/\∀k,k<a.length->∃p:Nat,xs[k]? =some (.int p)/\(Pr a k p\/Pr a p k)
inductive WS (a:List Nat) (i:Nat):List Nat->List Nat->Prop where
 |nil:WS a i [] []
 |cons {w c:Nat} {ws st:List Nat}:w<i->a[w]? =some c->c∈opn->ht a w=ws.length->(∀m,w<m->m<=i->ht a w<ht a m)->WS a i ws st->WS a i (w::ws) (clo c::st)
theorem WS.len{a ws st:List Nat}{i:Nat}(h:WS a i ws st):ws.length=st.length:=by
 induction h with
 |nil=>rfl
 |cons _ _ _ _ _ _ ih=>simp[ih]
theorem WS.ext{a ws st:List Nat}{i:Nat}(h:WS a i ws st)(hh:(ws.length:Int)<=ht a (i+1)):WS a (i+1) ws st:=by
 induction h with
 |nil=>exact .nil
 |cons h1 h2 h3 h4 h5 _ ih=>
  simp only[List.length_cons]at hh;refine .cons (by lia) h2 h3 h4 (λm hm1 hm2=>?_) (ih (by lia))
  by_cases e:m=i+1
  ·subst e;lia
  ·exact h5 m hm1 (by lia)
structure MI (a:List Nat) (i:Nat) (st ws:List Nat) (xs:List V):Prop where
 rn:run [] (a.take i)=some st
 wk:WS a i ws st
 len:xs.length=a.length
 don:∀k,k<i->k∈ws\/∃p:Nat,xs[k]? =some (.int p)/\(Pr a k p\/Pr a p k)
theorem MI.start(a:List Nat){xs:List V}(h:xs.length=a.length):MI a 0 [] [] xs:=⟨rfl, .nil,h,λk z=>by lia⟩
theorem FL{a st:List Nat}{i c:Nat}(h:run [] (a.take i)=some st)(hc:a[i]? =some c):run [] (a.take (i+1))=stp st c:=by
 rw[List.take_add_one,hc];exact FJ h c
theorem MI.opens{a st ws:List Nat}{xs:List V}{i c:Nat}(m:MI a i st ws xs)(hc:a[i]? =some c)(ho:c∈opn):MI a (i+1) (clo c::st) (i::ws) xs:=by
 have e1:ht a (i+1)=ht a i+1:=by rw[Ju hc];unfold sg;rw[if_pos ho]
 have e2:=GT m.rn;have e3:=m.wk.len;refine⟨by rw[FL m.rn hc,IV ho], .cons (by lia) hc ho (by lia) (λk h1 h2=>?_) (m.wk.ext (by lia)),m.len,λk hk=>?_⟩
 ·have:k=i+1:=by lia
  subst this;lia
 ·by_cases e:k=i
  ·subst e;exact .inl List.mem_cons_self
  ·rcases m.don k (by lia)with z|z
   ·exact .inl (List.mem_cons_of_mem _ z)
   ·exact .inr z
theorem MI.top{a st:List Nat}{w:Nat}{ws:List Nat}{xs:List V}{i:Nat}(m:MI a i st (w::ws) xs):∃c r,a[w]? =some c/\c∈opn/\st=clo c::r/\w<i:=by
 have h:=m.wk
 cases h with
 |cons h1 h2 h3 h4 h5 h6=>exact⟨_,_,h2,h3,rfl,h1⟩
theorem MI.closes{a r:List Nat}{w:Nat}{ws:List Nat}{xs:List V}{i c:Nat}(m:MI a i (c::r) (w::ws) xs)(hc:a[i]? =some c)(ho:c∉opn):MI a (i+1) r ws ((xs.set w (.int i)).set i (.int w)):=by
 have e1:ht a (i+1)=ht a i-1:=by rw[Ju hc];unfold sg;rw[if_neg ho];lia
 have e2:=GT m.rn;have e3:=m.wk.len;have hn:i<a.length:=(List.getElem?_eq_some_iff.mp hc).1;have h:=m.wk
 cases h with
 |cons h1 h2 h3 h4 h5 h6=>
  simp only[List.length_cons]at e2 e3;have hp:Pr a w i:=⟨h1,hn,by lia,h5⟩;have hlen:=m.len;refine⟨?_,h6.ext (by lia),by simp[m.len],λk hk=>?_⟩
  ·rw[FL m.rn hc];exact Hh ho r
  ·by_cases ek:k=i
   ·subst ek;exact .inr ⟨w,by simp[hlen,hn], .inr hp⟩
   ·by_cases ew:k=w
    ·subst ew;refine .inr ⟨i,?_, .inl hp⟩;rw[List.getElem?_set_ne (by lia),List.getElem?_set_self (by lia)]
    ·rcases m.don k (by lia)with z|⟨p,z,q⟩
     ·rcases List.mem_cons.mp z with z|z
      ·exact absurd z ew
      ·exact .inl z
     ·exact .inr ⟨p,by rw[List.getElem?_set_ne (by lia),List.getElem?_set_ne (by lia)];exact z,q⟩
theorem MI.fin{a:List Nat}{ws:List Nat}{xs:List V}(m:MI a a.length [] ws xs):IsPart a xs:=by
 have h:=m.wk
 cases h
 refine⟨m.len,λk hk=>?_⟩;rcases m.don k hk with z|z
 ·cases z
 ·exact z
end BrM
namespace BrM
open L2 PySem
def B7:List String:=["NoneType","bool","int","str","list","tuple","dict"]
inductive spWhole (K:W.Frag) (vs:List V) (H:Hp) (Q:VK) (E:XK):Prop
 |mk (x T:_) (_:vs=[x]) (_:TyOf K H x (.type T)) (_:T∈B7) (_:Q (.bl (decide (T="int"))) H)
theorem HZ{K:W.Frag}{H:Hp}{i:Int}{Q:VK}{E:XK}(q:Q (.bl true) H):spWhole K ([.int i]++[]) H Q E:=⟨.int i,"int",rfl, .int i,by decide,q⟩
inductive spKinds (vs:List V) (H:Hp) (Q:VK) (E:XK):Prop
 |mk (k:_) (_:vs=[.int k]) (_:1<=k) (_:k<=4) (_:Q .non H)
theorem Hr{H:Hp}{k:Int}{Q:VK}{E:XK}(h1:1<=k)(h2:k<=4)(q:Q .non H):spKinds ([.int k]++[]) H Q E:=⟨k,rfl,h1,h2,q⟩
def sgn(k:Int):List Nat:=opn.take k.toNat++cls.take k.toNat++[63]
def isRow(k:Int)(a:List Nat):Bool:=decide (a.length<=40)&&a.all λc=>decide (c∈sgn k)
inductive spLine (K:W.Frag) (vs:List V) (H:Hp) (Q:VK) (E:XK):Prop
 |mk (k x:_) (_:vs=[.int k,x]) (_:1<=k) (_:k<=4) (_:((∃a,x=tx a/\a.length<=1000/\∀H',Same H H'->Q (.bl (isRow k a)) H')\/(∃T,TyOf K H x (.type T)/\T∈B7/\T≠"str"/\Q (.bl false) H)))
theorem Io{K:W.Frag}{H:Hp}{k:Int}{a:List Nat}{Q:VK}{E:XK}(h1:1<=k)(h2:k<=4)(ha:a.length<=1000)(q:∀H',Same H H'->Q (.bl (isRow k a)) H'):spLine K ([.int k,tx a]++[]) H Q E:=⟨k,_,rfl,h1,h2, .inl ⟨a,rfl,ha,q⟩⟩
inductive spCheckLine (vs:List V) (H:Hp) (Q:VK) (E:XK):Prop
 |mk (k a:_) (_:vs=[.int k,tx a]) (_:1<=k) (_:k<=4) (_:isRow k a=true) (_:∀H',Same H H'->Q .non H')
theorem B2{H:Hp}{k:Int}{a:List Nat}{Q:VK}{E:XK}(h1:1<=k)(h2:k<=4)(ha:isRow k a=true)(q:∀H',Same H H'->Q .non H'):spCheckLine ([.int k,tx a]++[]) H Q E:=⟨k,a,rfl,h1,h2,ha,q⟩
instance (a:List Nat):Decidable (Rt a):=by unfold Rt;infer_instance
inductive spMatched (vs:List V) (H:Hp) (Q:VK) (E:XK):Prop
 |mk (a:_) (_:vs=[tx a]) (_:a.length<=40) (_:(Rt a->∀r xs H',H r=none->Same H H'->H' r=some (.lst xs)->IsPart a xs->Q (.ref r) H')) (_:(¬Rt a->∀H',Same H H'->Q .non H'))
theorem NP{H:Hp}{a:List Nat}{Q:VK}{E:XK}(ha:a.length<=40)(q:Rt a->∀r xs H',H r=none->Same H H'->H' r=some (.lst xs)->IsPart a xs->Q (.ref r) H')(q':¬Rt a->∀H',Same H H'->Q .non H'):spMatched ([tx a]++[]) H Q E:=⟨a,rfl,ha,q,q'⟩
inductive spRightP (vs:List V) (H:Hp) (Q:VK) (E:XK):Prop
 |mk (k a:_) (_:vs=[.int k,tx a]) (_:1<=k) (_:k<=4) (_:isRow k a=true) (_:∀H',Same H H'->Q (.bl (decide (Rt a))) H')
theorem Ni{H:Hp}{k:Int}{a:List Nat}{Q:VK}{E:XK}(h1:1<=k)(h2:k<=4)(ha:isRow k a=true)(q:∀H',Same H H'->Q (.bl (decide (Rt a))) H'):spRightP ([.int k,tx a]++[]) H Q E:=⟨k,a,rfl,h1,h2,ha,q⟩
inductive spLaw (K:W.Frag) (vs:List V) (H:Hp) (Q:VK) (E:XK):Prop
 |mk (a:Addr) (ns:List Int) (_:vs=[.ref a]) (_:SqL K H a (ns.map V.int)) (_:ns.length<=63) (_:∀H',Q (.bl true) H')
theorem Ay{k:Int}{a:List Nat}(h:isRow k a=true):a.length<=40:=by
 unfold isRow at h;simp only[Bool.and_eq_true,decide_eq_true_eq]at h;exact h.1
theorem Gu{α:Type}{l:List α}{i j:Nat}(h:i<=j){x:α}(hx:x∈l.take i):x∈l.take j:=by
 have e:l.take i=(l.take j).take i:=by rw[List.take_take,Nat.min_eq_left h]
 rw[e]at hx;exact List.mem_of_mem_take hx
theorem QG{k kk:Int}{a:List Nat}(hk:kk<=k)(hl:a.length<=40)(h:∀c∈a,kin kk c):isRow k a=true:=by
 unfold isRow;rw[Bool.and_eq_true];refine⟨decide_eq_true hl,?_⟩;rw[List.all_eq_true];intro c hc;refine decide_eq_true ?_;unfold sgn;have hn:kk.toNat<=k.toNat:=by lia
 rcases h c hc with z|z
 ·exact List.mem_append_left _ (List.mem_append_left _ (Gu hn z))
 ·exact List.mem_append_left _ (List.mem_append_right _ (Gu hn z))
theorem CJ{α:Type}(xs:List α){k:Int}(h:0<=k):A8 xs none (some k)=xs.take k.toNat:=by
 unfold A8;obtain⟨n,rfl⟩:∃n:Nat,k=n:=⟨k.toNat,by lia⟩;rw[HT.sIx_nat,HT.sIx_none,List.drop_zero,Nat.sub_zero,Int.toNat_natCast];rcases Nat.le_total n xs.length with z|z
 ·rw[Nat.min_eq_left z]
 ·rw[Nat.min_eq_right z,List.take_length,List.take_of_length_le z]
theorem QE{c d:Nat}(ho:c∈opn):inV (tx [c,d]) [tx [40,41],tx [91,93],tx [123,125],tx [60,62]]=decide (d=clo c):=by
 have e:inV (tx [c,d]) [tx [40,41],tx [91,93],tx [123,125],tx [60,62]]=(decide ([40,41]=[c,d])||(decide ([91,93]=[c,d])||(decide ([123,125]=[c,d])||(decide ([60,62]=[c,d])||false)))):=by
  unfold inV;simp only[List.any_cons,List.any_nil,Ea]
 rw[e];have ho':c=40\/c=91\/c=123\/c=60:=by simpa[opn]using ho
 rcases ho' with rfl|rfl|rfl|rfl<;>simp[clo,eq_comm]
theorem VF{α:Type}(x:α)(n:Nat):(List.replicate n [x]).flatten=List.replicate n x:=by
 induction n with
 |zero=>rfl
 |succ n ih=>rw[List.replicate_succ,List.flatten_cons,ih];rfl
end BrM
namespace L2
open PySem PySem.Spec PyProof.Rows
abbrev EV:List Value:=[.type "ValueError", .type "Exception", .type "BaseException", .type "object"]
structure ECls (K:W.Frag) (C:Addr):Prop where
 ex:W.excIn K C EV "ValueError.__new__"=true
 ty:W.typeIn K (.ref C)=some (.type "type")
 cs:∃cd,W.clsIn K C=some cd
 bs:W.mroIn K C (.type "BaseException")=some true
 ob:W.mroIn K C (.type "object")=some true
 ga:W.findIn K (.ref C) "__getattribute__"=some (some (.builtin "BaseException.__getattribute__"))
 gk:W.findIn K (.ref C) "__getattr__"=some none
 ca:W.findIn K (.ref C) "__class__"=some (some (.builtin "object.__class__"))
 cn:W.specialIn K (.builtin "object.__class__") "__get__"=some (some (.builtin "getset_descriptor.__get__"))
 ct:W.takesIn K (.builtin "object.__class__")=some true
def ExcAt(x C:Addr)(h:Heap):Prop:=∃o vs,h.get? x=some o/\o.cls= .ref C/\o.data= .fields vs
theorem ExcAt.type{x C:Addr}{h:Heap}{M:Model}(e:ExcAt x C h):W.Looks M h (typeOf (.ref x)) (.ref C):=by
 obtain⟨o,vs,h1,h2,_⟩:=e;exact h2▸(W.Looks.ld h1).andThen .now
section
variable{prog:Program}{w:World}{A:Around}{E:Value->Shared->Prop}{s:Shared}{K:W.Frag}{x C:Addr}
open Builtin Builtin.ObjectAttr Builtin.Getset_descriptor in
theorem UH{R:Result->Shared->Prop}{tp:Value}(Z:ECls K C)(X:K.In s.heap)(e:ExcAt x C s.heap)(h:R (.ok (.ret (.ref C))) s):
 codeAny (model prog w) A (.call (.builtin "getset_descriptor.__get__") ⟨[.builtin "object.__class__", .ref x,tp],[]⟩) R s:=by
 obtain⟨hp,gn,dr,tk,os⟩:=s;have La:=e.type (M:=model prog w);have Lb:=W.looks_mroIn (M:=model prog w) X Z.ob;refine codeAny_call_builtin W.KF.slot_gs.plain W.KF.entry_gs (W.KF.slot_gs.check _ _ _ _ _ _ _ _ W.KF.type_class (W.KF.args_gs _ _ _) ?_);unfold Builtin.«getset_descriptor.__get__» descrGet;rw[W.dga_obj];refine wpAny_bind (wpAny_pure ?_);unfold descrGetter descrCheckInstance descrNameAndClass isInstance;simp only[W.KF.owner_class];repeat lk
 refine⟨Code.quiet_builtin _ (by decide +kernel),codeAny_builtin W.KF.entry_class ?_⟩;unfold Builtin.«object.__class__» shownTypeOf;repeat lk
 exact h
open Builtin Builtin.ObjectAttr in
theorem QQ{M:Model}{h:Heap}(Z:ECls K C)(X:K.In h):W.Looks M h (find (.ref x) (.ref C) "__class__") (.bind (.builtin "getset_descriptor.__get__") (.builtin "object.__class__")):=by
 have L1:=W.looks_findIn (M:=M) X Z.ca;have L2:W.Looks M h (getOf (some (.builtin "object.__class__"))) (some (.builtin "getset_descriptor.__get__")):=W.looks_specialIn X Z.cn;have L3:=W.looks_takesIn (M:=M) X Z.ct;refine L1.andThen (L2.andThen ?_);exact(show W.Looks M h (dataDescriptor? (some (.builtin "object.__class__")) (some (.builtin "getset_descriptor.__get__"))) (some (_,_))from L3.andThen .now).andThen (W.Looks.tag .now)
theorem UI{h:Heap}{g:Array GenState}{d:Drawn}{t:Nat}{os:OsState}{tk:Tok}{R:Result->Shared->Prop}(Z:ECls K C)(X:K.In h)(e:ExcAt x C h)(hq:R (.ok (.ret (.ref C))) ⟨h,g,d,t,os⟩):
 codeAny (model prog w) A (.call (.builtin "BaseException.__getattribute__") ⟨[.ref x, .str "__class__" tk],[]⟩) R ⟨h,g,d,t,os⟩:=by
 have L0:=e.type (M:=model prog w);have L1:=QQ (x:=x) (M:=model prog w) Z X;have L2:=W.looks_mroIn (M:=model prog w) X Z.bs;have hk:builtinKind "BaseException.__getattribute__"=some .slot:=by decide +kernel
 have hsplit:splitId "BaseException.__getattribute__"=some ("BaseException","__getattribute__"):=by decide +kernel
 have ha:=F.args_bexc_ga (.ref x) (.str "__class__" tk);refine codeAny_call_builtin F.attr_ValueError.ga.plain F.entry_bexc_ga ?_;simp only[checkBuiltinCall,hk,hsplit];refine wpAny_bind ?_;unfold isInstance;refine wpAny_bind (L0.at (L2.at ?_));simp only[Bool.not_true,Bool.false_eq_true,if_false];have body:wpAny (model prog w) A.in1 (Builtin.«object.__getattribute__» ⟨[.ref x, .str "__class__" tk],[]⟩) (λfin s'=>match fin with| .done f=>R (.ok f) s'| .again c'=>c'.quiet=true/\codeAny (model prog w) A c' R s')
  (λe s'=>R (.error e) s') ⟨h,g,d,t,os⟩:=by
  refine wpAny_bind (wpAny_pure (wpAny_bind (wpAny_pure (wpAny_bind (L0.at (wpAny_bind (L1.at ?_)))))));show wpAny _ _ (holding [_] (call (.builtin "getset_descriptor.__get__") [.builtin "object.__class__", .ref x, .ref C])>>=ret) _ _ _;exact wpAny_bind (wpAny_holding (wpAny_call (UH (s:=⟨h,g,d,t,os⟩) Z X e (wpAny_pure hq))))
 repeat(any_goals(first|assumption|wp_step))
theorem O2{Q:Option Value->Shared->Prop}(Z:ECls K C)(X:K.In s.heap)(e:ExcAt x C s.heap)(h:Q (some (.ref C)) {s with toks:=s.toks+1}):wpAny (model prog w) A (getAttr? (.ref x) "__class__") Q E s:=by
 obtain⟨hh,g,d,t,os⟩:=s;have L0:=e.type (M:=model prog w);have L1:=W.looks_findIn (M:=model prog w) X Z.ga;have L2:=W.looks_findIn (M:=model prog w) X Z.gk;have hb:=F.attr_ValueError.ga.bind (.ref x);have hx2:(Value.builtin "BaseException.__getattribute__"==Value.builtin "object.__getattribute__")=false:=by decide +kernel
 unfold getAttr? getAttrBy? getAttrBy;refine wpAny_bind (wpAny_mkText (wpAny_bind (wpAny_attempt (wpAny_holding (wpAny_bind (L0.at (wpAny_bind (L1.at ?_))))))))
 dsimp only
 rw[if_neg (by rw[hx2];simp)];unfold getAttrByItsOwn hookBefore callGetattribute boundAndCalled;refine wpAny_bind (L2.at (wpAny_bind (wpAny_attempt (wpAny_holding ?_))));rw[if_neg (by simp)];rw[hb];refine wpAny_bind (wpAny_pure (wpAny_call (UI Z X e ?_)));exact W.handed_on rfl (wpAny_pure h)
theorem FR(Z:ECls K C):W.KitX K (.ref x) (.ref C) (ExcAt x C) where
 ty:=λ_ _ _ e=>e.type
 it:=λ_ _ X _=>by
  obtain⟨cd,hcd⟩:=Z.cs;unfold W.clsIn at hcd
  split at hcd
  ·rename_i ho
   intro A' Q' E' s' k q;unfold isType loadHead;exact wpAny_bind (wpAny_loadPart (k _ _ (X _ _ ho)) (wpAny_pure q))
  ·cases hcd
 ne:=λh tp dd its n sl X htp=>by
  obtain⟨cd,hcd⟩:=Z.cs;refine Bool.eq_false_iff.mpr λq=>?_;have e:C=tp:=Value.ref.inj (beq_iff_eq.mp q);subst e;unfold W.clsIn at hcd
  split at hcd
  ·rename_i ho
   exact nomatch (X _ _ ho).symm.trans htp
  ·cases hcd
 ca:=λX e k=>O2 Z X e k
end
def BG(ob:Obj)(x C:Addr):HO:= .frz ob (.ext (ExcAt x C))
theorem ObjOk.here{P:Program}{w:World}{H:Hp}{h:Heap}{a:Addr}{o:HO}(x:ObjOk P w H h a o):∃ob,h.get? a=some ob:=by
 cases o with
 |lst xs=>obtain⟨_,_,_,_,e⟩:=x;exact⟨_,e⟩
 |tup xs=>obtain⟨_,_,_,_,e,_⟩:=x;exact⟨_,e⟩
 |dK kvs=>obtain⟨_,_,_,_,_,_,_,e,_⟩:=x;exact⟨_,e⟩
 |dT kvs=>obtain⟨_,_,_,_,_,_,_,e,_⟩:=x;exact⟨_,e⟩
 |set S n=>obtain⟨_,_,_,_,e,_⟩:=x;exact⟨_,e⟩
 |ins C dx fs=>obtain⟨_,_,_,e,_⟩:=x;exact⟨_,e⟩
 |own y=>exact x
 |xd fs=>obtain⟨_,⟨_,_,_,e,_⟩,_⟩:=x;exact⟨_,e⟩
 |rng lo hi=>obtain⟨_,_,_,e⟩:=x;exact⟨_,e⟩
 |frz ob u=>obtain⟨e,_⟩:=x;exact⟨_,e⟩
 |tbl ps=>exact⟨_,(show h.get? a=some _ from x)⟩
 |met f y=>exact⟨_,(show h.get? a=some _ from x)⟩
 |ext φ=>obtain⟨_,e,_⟩:=x;exact e
theorem UG{P:Program}{w:World}{H:Hp}{h:Heap}{x C:Addr}{ob:Obj}(g:h.get? x=some ob)(e:ExcAt x C h):ObjOk P w H h x (BG ob x C):=by
 refine⟨g,e,?_,λh1 h2 p k=>?_⟩
 ·obtain⟨o,_,q,_⟩:=e;exact⟨o,q⟩
 ·obtain⟨o,vs,q1,q2⟩:=p;exact⟨o,vs,k _ q1,q2⟩
structure Aloft (P:Program) (w:World) (l:List Env) (H:Hp) (h:Heap) (x C:Addr) (a0:Value) (H':Hp) (B h':Heap):Prop where
 un:Un (frs l) [] H H' h h'
 ok:HOk P w H' B
 stay:∀b o,h.get? b=some o->H b=none->b∉frs l->B.get? b=some o
 here:∀b o,h.get? b=some o->b∉frs l->∃o',B.get? b=some o'
 fl:Heap.FlyingW B l x (.ref C) a0 h'
def CXE(P:Program)(w:World):CXT:=λouter H s E e s'=>∃ (x C:Addr) (a0:Value) (H':Hp) (B:Heap),e= .ref x/\s'.os=s.os/\AllBare s'.gens/\Aloft P w outer H s.heap x C a0 H' B s'.heap/\E (.ref C) (some x) H'
abbrev XR:=Addr->Addr->St->Hp->Prop
def xk(R:XR)(σ:St):XK:=λc xo H'=>∃C x,c= .ref C/\xo=some x/\R C x σ H'
def XF(X:Cx)(R:XR)(e:Value)(s':Shared):Prop:=∃ (pins:List (Addr×Obj)) (σ:St) (H:Hp) (s:Shared),Inv X pins σ H s/\CXE X.prog X.w X.stack H s (xk R σ) e s'
def XM(X:Cx)(R:XR)(e:Value)(s':Shared):Prop:=∃ (pins:List (Addr×Obj)) (σ:St) (H:Hp) (s:Shared) (x C:Addr) (args:List Value),e= .ref x/\Inv X pins σ H s/\Heap.MadeExcOf s.heap s'.heap x (.ref C) args/\
 s'.os=s.os/\AllBare s'.gens/\R C x σ H
section
variable{P:Program}{w:World}{l:List Env}{H H':Hp}{h h' h2 B:Heap}{x C:Addr}{a0:Value}
theorem Aloft.newx(q:Aloft P w l H h x C a0 H' B h'):h.get? x=none:=by
 cases e:h.get? x with
 |none=>rfl
 |some o=>
  by_cases hm:x∈frs l
  ·obtain⟨_,o',h1,h2⟩:=q.fl.2.2.1.mem hm;obtain⟨oe,vs,h3,_,h4,_⟩:=q.fl.first;rw[h1]at h3;cases h3;exact absurd h4 (h2 vs)
  ·obtain⟨o',h1⟩:=q.here x o e hm;rw[q.fl.2.1]at h1;cases h1
theorem Aloft.nox(q:Aloft P w l H h x C a0 H' B h'):H' x=none:=by
 cases e:H' x with
 |none=>rfl
 |some o=>
  obtain⟨ob,h1⟩:=(q.ok x o e).here;rw[q.fl.2.1]at h1;cases h1
theorem Aloft.on(q:Aloft P w l H h x C a0 H' B h')(up:h'.UpToSlots h2)(fl:Heap.FlyingW B l x (.ref C) a0 h2)(fr:∀b∈frs l,H b=none):Aloft P w l H h x C a0 H' B h2 where
 ok:=q.ok
 stay:=q.stay
 here:=q.here
 fl:=fl
 un:={
  keep:=λb o e n hb _=>fl.1 b o (q.stay b o e n hb)
  slot:=λb o e n hb hx=>by
   obtain⟨sl,e1⟩:=q.un.slot b o e n hb hx;obtain⟨_,o1,e2,nf⟩:=q.fl.2.2.1.mem hb;rw[e1]at e2;cases e2;obtain⟨sl2,e3⟩:=up b _ e1 nf;exact⟨sl2,e3⟩
  free:=q.un.free
  there:=λb o e hx=>by
   by_cases hb:b∈frs l
   ·obtain⟨sl,e1⟩:=q.un.slot b o e (fr b hb) hb hx;obtain⟨_,o1,e2,nf⟩:=q.fl.2.2.1.mem hb;rw[e1]at e2;cases e2;obtain⟨sl2,e3⟩:=up b _ e1 nf;exact⟨_,e3⟩
   ·obtain⟨o',e1⟩:=q.here b o e hb;exact⟨o',fl.1 b o' e1⟩
  tups:=q.un.tups
  frzs:=q.un.frzs
  tbls:=q.un.tbls}
theorem Aloft.caught(q:Aloft P w l H h x C a0 H' B h'):∃ob,Un (frs l) [] H (upd H' x (BG ob x C)) h h'/\HOk P w (upd H' x (BG ob x C)) h':=by
 have nx:=q.newx;have n':=q.nox;have bgB:∃b o,1<b/\h'.get? b=some o:=by
  obtain⟨b,o,l,e⟩:=q.ok.bg;exact⟨b,o,l,q.fl.1 _ _ e⟩
 obtain⟨oe,vs,g1,g2,g3,_⟩:=q.fl.first;refine⟨oe,⟨q.un.keep,q.un.slot,λb o e n hx=>?_,q.un.there,λb xs e=>?_,λb o u e=>?_,λb ps e=>?_⟩,⟨λb u e=>?_,λu e=>?_,bgB⟩⟩
 ·rw[AG (λz=>by rw[z,nx]at e;cases e)];exact q.un.free b o e n hx
 ·have e':=q.un.tups b xs e;rw[AG (AQ e' n')];exact e'
 ·have e':=q.un.frzs b o u e;rw[AG (AQ e' n')];exact e'
 ·obtain⟨more,e'⟩:=q.un.tbls b ps e;exact⟨more,by rw[AG (AQ e' n')];exact e'⟩
 ·by_cases hb:b=x
  ·subst hb;rw[AF]at e;cases e;exact UG g1 ⟨oe,vs,g1,g2,g3⟩
  ·rw[AG hb]at e;exact(q.ok b u e).stay (λc v _ r=>q.fl.1 c v r) (λc r=>by rw[AG (AQ r n')];exact r) λc xs r=>by rw[AG (AQ r n')];exact r
 ·by_cases hb:sysModules=x
  ·rw[hb,AF]at e;cases e;exact⟨_,_,rfl⟩
  ·rw[AG hb]at e;exact q.ok.sm u e
end
section
variable{X:Cx}{R:XR}{e:Value}{s':Shared}
structure Cx.Top (X:Cx):Prop where
 stk:X.stack=X.env::X.outer
 fr:X.env.frame=some X.env.locals
 ex:X.ex=[]
theorem Inv.old{pins:List (Addr×Obj)}{σ:St}{H:Hp}{s:Shared}(I:Inv X pins σ H s){b:Addr}{o:Obj}(e:X.s₀.heap.get? b=some o)(hb:b∉X.fs):b∉frs X.stack:=λz=>by
 rcases List.mem_cons.mp (I.stkSub b z)with q|q
 ·exact absurd (Heap.lt_size e) (by rw[q];exact Nat.not_lt.mpr I.ok.above)
 ·exact hb q
theorem Inv.oldfs{pins:List (Addr×Obj)}{σ:St}{H:Hp}{s:Shared}(T:X.Top){b:Addr}(hb:b∈X.fs):b∈frs X.stack:=by
 rw[T.stk];unfold frs;rw[List.filterMap_cons,T.fr];exact List.mem_cons_of_mem _ hb
theorem Aloft.leave{pins:List (Addr×Obj)}{σ:St}{H H':Hp}{s:Shared}{x C:Addr}{a0:Value}{B h1 h':Heap}(T:X.Top)(I:Inv X pins σ H s)(q:Aloft X.prog X.w X.stack H s.heap x C a0 H' B h1)
 (up:h1.UpToSlots h') (fl:Heap.FlyingW B X.outer x (.ref C) a0 h'):Aloft X.prog X.w X.outer X.H₀ X.s₀.heap x C a0 H' B h':=by
 have nex:∀b:Addr,b∉X.ex:=λb=>by rw[T.ex];simp
 have stay:∀b o,X.s₀.heap.get? b=some o->X.H₀ b=none->b∉X.fs->B.get? b=some o:=λb o e n hb=>q.stay b o (I.base.keep b o e n hb (nex b)) (I.base.free b o e n (nex b)) (I.old e hb);have here:∀b o,X.s₀.heap.get? b=some o->b∉X.fs->∃o',B.get? b=some o':=λb o e hb=>by
  obtain⟨o1,e1⟩:=I.base.there b o e (nex b);exact q.here b o1 e1 (I.old e hb)
 have slot:∀b o,X.s₀.heap.get? b=some o->X.H₀ b=none->b∈X.fs->∃sl,h'.get? b=some {o with slots:=sl}:=λb o e n hb=>by
  obtain⟨sl,e1⟩:=I.base.slot b o e n hb (nex b);obtain⟨sl2,e2⟩:=q.un.any e1 (I.base.free b o e n (nex b)) (by simp);obtain⟨_,o3,e3,nf⟩:=q.fl.2.2.1.mem (Inv.oldfs (pins:=pins) (σ:=σ) (H:=H) (s:=s) T hb);rw[e2]at e3;cases e3;obtain⟨sl4,e4⟩:=up b _ e2 nf;exact⟨sl4,e4⟩
 refine⟨⟨λb o e n hb _=>fl.1 b o (stay b o e n hb),λb o e n hb _=>slot b o e n hb,λb o e n _=>?_,λb o e _=>?_,λb xs e=>q.un.tups b xs (I.base.tups b xs e),λb o u e=>q.un.frzs b o u (I.base.frzs b o u e),λb ps e=>?_⟩,q.ok,stay,here,fl⟩
 ·have n1:=I.base.free b o e n (nex b);obtain⟨o1,e1⟩:=I.base.there b o e (nex b);exact q.un.free b o1 e1 n1 (by simp)
 ·by_cases hb:b∈X.fs
  ·obtain⟨sl,e1⟩:=slot b o e (I.ok.frf b hb) hb;exact⟨_,e1⟩
  ·obtain⟨o1,e1⟩:=here b o e hb;exact⟨o1,fl.1 b o1 e1⟩
 ·obtain⟨m1,e1⟩:=I.base.tbls b ps e;obtain⟨m2,e2⟩:=q.un.tbls b _ e1;exact⟨m1++m2,by rw[e2,Array.append_assoc]⟩
theorem Inv.aloft{pins:List (Addr×Obj)}{σ:St}{H:Hp}{s:Shared}(I:Inv X pins σ H s):HOk X.prog X.w H (W.hideAll s.heap (frs X.stack)):=by
 refine⟨?_,I.hok.sm,?_⟩
 rotate_left
 ·obtain⟨o,_,_,e,_⟩:=I.ok.mod.glob;refine⟨mainGlobals,o,by decide,W.hideAll_get _ (I.bk _ _ e) λz=>?_⟩;rw[(I.stack.mem z).1]at e;cases e
 exact λa o q=>(I.hok a o q).stay (λb u hb e=>W.hideAll_get _ e λz=>by
  have n:=I.stkFree b z;rcases hb with rfl|hb
  ·rw[q]at n;cases n
  ·rw[hb]at n;cases n) (λ_ z=>z) λ_ _ z=>z
theorem OB{E':Value->Shared->Prop}(T:X.Top)(h:XF X R e s'):
 wpAny (model X.prog X.w) X.A (leaving X.env e) (λ_ s2=>CXE X.prog X.w X.outer X.H₀ X.s₀ (λc xo H'=>∃C x σ,c= .ref C/\xo=some x/\R C x σ H') e s2) E' s':=by
 obtain⟨pins,σ,H,s,I,x,C,a0,H',B,rfl,os,bare,q,C',x',e1,e2,r⟩:=h;refine wpAny_leaves_onW (by rw[I.ok.frames,T.stk]) T.fr (by rw[<-T.stk];exact q.fl) λh' fl up=>?_;exact⟨x,_,a0,H',B,rfl,os.trans I.os,bare,q.leave T I up fl,C',x',σ,e1,e2,r⟩
theorem OA{E':Value->Shared->Prop}(T:X.Top)(h:XM X R e s'):
 wpAny (model X.prog X.w) X.A (leaving X.env e) (λ_ s2=>CXE X.prog X.w X.outer X.H₀ X.s₀ (λc xo H'=>∃C x σ,c= .ref C/\xo=some x/\R C x σ H') e s2) E' s':=by
 obtain⟨pins,σ,H,s,x,C,args,rfl,I,mk,os,bare,r⟩:=h;have nex:∀b:Addr,b∉X.ex:=λb=>by rw[T.ex];simp
 have hin:∀env∈(X.env::X.outer),∀b,env.frame=some b->b∈frs X.stack:=λenv he b hb=>by rw[T.stk];exact List.mem_filterMap.mpr ⟨env,he,hb⟩
 refine wpAny_leaves_madeW (base:=W.hideAll s.heap (frs X.stack)) (h:=s.heap) (by rw[I.ok.frames,T.stk]) T.fr (λb o q=>W.of_hideAll _ q) (W.funFrames_hide (by rw[<-T.stk];exact I.stack) hin) mk λh' t fl _ _ up=>?_;have stay:∀b o,X.s₀.heap.get? b=some o->X.H₀ b=none->b∉X.fs->(W.hideAll s.heap (frs X.stack)).get? b=some o:=λb o e n hb=>W.hideAll_get _ (I.base.keep b o e n hb (nex b)) (I.old e hb);have here:∀b o,X.s₀.heap.get? b=some o->b∉X.fs->∃o',(W.hideAll s.heap (frs X.stack)).get? b=some o':=λb o e hb=>by
  obtain⟨o1,e1⟩:=I.base.there b o e (nex b);exact⟨o1,W.hideAll_get _ e1 (I.old e hb)⟩
 have slot:∀b o,X.s₀.heap.get? b=some o->X.H₀ b=none->b∈X.fs->∃sl,h'.get? b=some {o with slots:=sl}:=λb o e n hb=>by
  obtain⟨sl,e1⟩:=I.base.slot b o e n hb (nex b);obtain⟨_,o3,e3,nf⟩:=I.stack.mem (Inv.oldfs (pins:=pins) (σ:=σ) (H:=H) (s:=s) T hb);rw[e1]at e3;cases e3;obtain⟨sl4,e4⟩:=up b _ (mk.keeps _ _ e1) nf;exact⟨sl4,e4⟩
 refine⟨x,C,_,H,_,rfl,os.trans I.os,bare,⟨⟨λb o e n hb _=>fl.1 b o (stay b o e n hb),λb o e n hb _=>slot b o e n hb,λb o e n _=>I.base.free b o e n (nex b),λb o e _=>?_,I.base.tups,I.base.frzs,I.base.tbls⟩,I.aloft,stay,here,fl⟩,C,x,σ,rfl,rfl,r⟩
 by_cases hb:b∈X.fs
 ·obtain⟨sl,e1⟩:=slot b o e (I.ok.frf b hb) hb;exact⟨_,e1⟩
 ·obtain⟨o1,e1⟩:=here b o e hb;exact⟨o1,fl.1 b o1 e1⟩
end
theorem Rp{K:W.Frag}{h:Heap}{C:Addr}(X:K.In h)(q:W.excIn K C EV "ValueError.__new__"=true):
 ∃bm N nm qn bs hdct sn sub ab col dd k0 k1 k2 k3 k5 mN,h.get? C=some (excClassObj nm qn C N bs bm hdct sn sub ab col dd k0 k1 k2 k3 k5 "ValueError.__new__")/\h.Ns N mN/\mN "__init__"=none/\OwnTail h EV bm:=by
 unfold W.excIn at q
 split at q
 ·rename_i dd cd sl ho
  split at q
  ·rename_i C1 bm k0 k1 k2 k3 n k5 hm hs
   simp only[Bool.and_eq_true,beq_iff_eq,Bool.not_eq_true']at q;obtain⟨⟨⟨⟨⟨rfl,rfl⟩,hdel⟩,ht⟩,hok⟩,hni⟩:=q;obtain⟨nm,bs,mro,ns,qn,hd,sn,sub,ab,col,del⟩:=cd
   dsimp only at hm hdel hok hni;subst hm hdel
   obtain⟨sl⟩:=sl;have e:sl=[k0,k1,k2,k3,some (.builtin "ValueError.__new__"),k5]:=hs;subst e;exact⟨bm,ns,nm,qn,bs,hd,sn,sub,ab,col,dd,k0,k1,k2,k3,k5,_,X _ _ ho, .of_isNs (W.isNs_of_in X hok),W.nsMap_none_of_in X hok hni,W.tail_of_in X ht⟩
  ·cases q
 ·cases q
section
variable{X:Cx}{R:XR}{C:Addr}{x:Str}{e:Expr}{es:List Expr}{t:TA}{np cpos pos p:Pos}
def KH(C:Addr)(R:XR)(t:TA):TS:=λ_ σ H=>t σ H λvs H1=>vs.length<=sizeLine/\∀y,H1 y=none->R C y σ H1
theorem Cg(Z:ECls X.K C)(hm:X.mg x=some (.ref C))(hh:X.A.handled=none)(hx:∀e s',XM X R e s'->X.xe e s')(ha:PA X (e::es) t)(hg:Gl X x:=by rfl)(hd:(x==("__debug__":Str))=false:=by decide)
 (he:starEach (e::es) X.env=(false,eval e X.env)::starEach es X.env:=by rfl) (hpl:(backTo cpos (starEach es X.env)).any (·.1)=false:=by rfl):
 PS X (.Raise (some (.Call (.Name x np) (e::es) [] cpos)) none pos) (KH C R t):=by
 intro pins s σ H D I h;obtain⟨bm,N,nm,qn,bs,hdct,sn,sub,ab,col,dd,k0,k1,k2,k3,k5,mN,hC,hN,hni,TL⟩:=Rp I.ok.mod.kin Z.ex;refine wpAny_Raise_call_subU (C:=C) (nm:=nm) (q:=qn) (N:=N) (bs:=bs) (bm:=bm) (hdct:=hdct) (sn:=sn) (sub:=sub) (ab:=ab) (col:=col) (dd:=dd) (k0:=k0) (k1:=k1) (k2:=k2) (k3:=k3) (k5:=k5)
  F.excBase_ValueError rfl F.excBase_ValueError (mN:=mN) (TL.hasType F.excBase_ValueError.hasBase) hh ?_ hni (Cm I hg hm ⟨rfl,?_⟩ hd)
 ·rw[he];show(false||(backTo cpos (starEach es X.env)).any (·.1))=false;rw[hpl];rfl
 ·have w:=ha cpos pins s σ H _ I h;rw[he]at w⊢;refine Calls.evalArgs_plain (thn w λus s2 ⟨vs,H1,I1,rv,hl,r⟩=>⟨rfl,by show us.length<=_;rw[<-rv.length];exact hl,I1.bk _ _ hC,hN.keeps I1.bk,TL.keeps I1.bk,λh' y mk=>hx _ _ ?_⟩);refine⟨pins,σ,H1,s2,y,C,_,rfl,I1,mk,rfl,I1.bare,r y ?_⟩
  cases q:H1 y with
  |none=>rfl
  |some o=>
   obtain⟨ob,h1⟩:=(I1.hok y o q).here;rw[mk.new]at h1;cases h1
structure FnUE (P:Program) (w:World) (K:W.Frag) (mg:Str->Option Value) (base:Heap) (k:Nat) (x:Str) (ps:List Str) (sp:Sp):Prop where
 ex:∃f fd,FnOk P w K mg base (CXE P w) k f fd ps sp/\mg x=some (.ref f)/\W.keepIn K (.ref f)=true/\Binds K fd ps []
def KM(sp:Sp)(R:XR)(t:TA):TE:=λσ H Q=>t σ H λvs H1=>sp vs H1 Q (xk R σ)
theorem Ak{k:Nat}{ps:List Str}{sp:Sp}(U:FnUE X.prog X.w X.K X.mg X.base k x ps sp)(hr:Room k X.A)(hx:∀e s',XF X R e s'->X.xe e s')(ha:PA X (e::es) t)(hg:Gl X x:=by rfl)
 (hdb:(x==("__debug__":Str))=false:=by decide) (he:starEach (e::es) X.env=(false,eval e X.env)::starEach es X.env:=by rfl) (hpl:(backTo pos (starEach es X.env)).any (·.1)=false:=by rfl):
 PE X (.Call (.Name x p) (e::es) [] pos) (KM sp R t):=by
 obtain⟨f,fd,F,hm,hk,hb⟩:=U.ex;intro pins s σ H Q I h;refine wpAny_Call_Name_kw (Cm I hg hm ?_ hdb);refine W.callWith_K (h₀:=X.base) I.ok.mod.kin hk (thn (ha pos pins s σ H _ I h) λus s1 ⟨vs,H1,I1,r,q⟩=>⟨I1.kIn,?_⟩) he hpl;have hl:us.length=ps.length:=by rw[<-r.length];exact F.len _ _ _ _ q
 refine wpAny_call (codeAny_mono (F.run X.A X.stack s1 H1 ⟨us,[]⟩ us vs Q (xk R σ) hr I1.env0 ?_ r q) λres s' hq=>?_)
 ·have z:=hb s1 us I1.kIn (by rw[List.append_nil];exact hl);rw[List.append_nil]at z;exact z
 ·cases res with
  |error ev=>exact hx _ _ ⟨pins,σ,H1,s1,I1,hq⟩
  |ok fl=>
   cases fl with
   |ret u=>exact I1.after hq
   |next=>exact False.elim hq
   |brk=>exact False.elim hq
   |cont=>exact False.elim hq
end
section
variable{P:Program}{w:World}{K:W.Frag}{mg:Str->Option Value}{base:Heap}
def rOf(E:XK):XR:=λC x _ H'=>E (.ref C) (some x) H'
abbrev cxE(P:Program)(w:World)(K:W.Frag)(mg:Str->Option Value)(base:Heap)(N:List Str)(qual:Str)(st:Stmt)(f:Addr)(cdv:Value)(A:Around)(outer:List Env)(s:Shared)(H:Hp)(E:XK):Cx:=
 Cf (CXE P w) P w K mg base N qual (AU st) f cdv A outer s H E
theorem Jy{N:List Str}{qual:Str}{st:Stmt}{f:Addr}{cdv:Value}{A:Around}{outer:List Env}{s:Shared}{H:Hp}{E:XK}:(cxE P w K mg base N qual st f cdv A outer s H E).Top:=⟨rfl,rfl,rfl⟩
theorem JA{l:List Env}{H:Hp}{s s':Shared}{E E':XK}{e:Value}(h:CXE P w l H s E e s')(k:∀c x H',E c x H'->E' c x H'):CXE P w l H s E' e s':=by
 obtain⟨x,C,a0,H',B,e1,e2,e3,q,r⟩:=h;exact⟨x,C,a0,H',B,e1,e2,e3,q,k _ _ _ r⟩
theorem BE{N:List Str}{qual:Str}{st:Stmt}{f:Addr}{cdv:Value}{A:Around}{outer:List Env}{s:Shared}{H:Hp}{E:XK}(e:Value)(s':Shared)
 (h:XF (cxE P w K mg base N qual st f cdv A outer s H E) (rOf E) e s'):(cxE P w K mg base N qual st f cdv A outer s H E).xe e s':=
 wpAny_mono (OB (E':=λ_ _=>False) Jy h) (λ_ _ q=>JA q λc x H' ⟨C,y,σ,e1,e2,r⟩=>by subst e1;subst e2;exact r) λ_ _ z=>z.elim
theorem Cv{N:List Str}{qual:Str}{st:Stmt}{f:Addr}{cdv:Value}{A:Around}{outer:List Env}{s:Shared}{H:Hp}{E:XK}(e:Value)(s':Shared)
 (h:XM (cxE P w K mg base N qual st f cdv A outer s H E) (rOf E) e s'):(cxE P w K mg base N qual st f cdv A outer s H E).xe e s':=
 wpAny_mono (OA (E':=λ_ _=>False) Jy h) (λ_ _ q=>JA q λc x H' ⟨C,y,σ,e1,e2,r⟩=>by subst e1;subst e2;exact r) λ_ _ z=>z.elim
theorem Fun.okE{x qual:Str}{st:Stmt}{f:Addr}{fd:FuncData}{N ps:List Str}{k:Nat}{sp:Sp}(F:Fun K x qual st f fd)(S:FnScope N ps (AU st))(len:∀vs H Q E,sp vs H Q E->vs.length=ps.length)
 (hbody:∀ (cdv:Value) (A:Around) (outer:List Env) (s:Shared) (H:Hp) (vs:List V) (Q:VK) (E:XK),Room k (A.deeper (envOfC qual (AU st) s.heap.objs.size f cdv))->sp vs H Q E->
   ∃t,PSs (cxE P w K mg base N qual st f cdv A outer s H E) (Bl st) t/\t {nx:=λ_ H'=>Q .non H',rt:=Q} (start N vs) H):FnOk P w K mg base (CXE P w) (k+1) f fd ps sp:=by
 obtain⟨oc,od,kV,doc,pm,an,cdv,ct,osl,rfl,lk,hcd⟩:=F.ex;exact LH lk hcd S len λA outer s H vs Q E hr hsp=>hbody cdv A outer s H vs Q E hr hsp
end
section
variable{M:Model}{A:Around}{E:Value->Shared->Prop}{K:W.Frag}{x C CR:Addr}
theorem QP{h:Heap}(Z:ECls K C)(X:K.In h):W.Looks M h (isType (.ref C)) true:=by
 obtain⟨cd,hcd⟩:=Z.cs;unfold W.clsIn at hcd
 split at hcd
 ·rename_i ho
  intro A' Q' E' s' k q;unfold isType loadHead;exact wpAny_bind (wpAny_loadPart (k _ _ (X _ _ ho)) (wpAny_pure q))
 ·cases hcd
theorem NS{s:Shared}{b:Bool}{Q:Bool->Shared->Prop}(ZR:ECls K CR)(X:K.In s.heap)(hb:W.mroIn K C (.ref CR)=some b)(e:ExcAt x C s.heap)(h:Q b s):wpAny M A (excMatches (.ref x) (.ref CR)) Q E s:=by
 obtain⟨hp,g,d,tk,os⟩:=s;have L0:=e.type (M:=M);have L1:=W.looks_typeIn (M:=M) X ZR.ty;have L2:=QP (M:=M) ZR X;have L3:=W.looks_mroIn (M:=M) X ZR.bs;have L4:=W.looks_mroIn (M:=M) X hb;have f:=tc_notTuple;unfold excMatches isInstance;refine wpAny_bind (wpAny_bind (L1.at ?_));rw[f];refine wpAny_pure ?_;simp only[Bool.false_eq_true,if_false];refine wpAny_bind (wpAny_pure ?_);rw[List.forIn_cons];unfold isExcClass;refine wpAny_bind (wpAny_bind (wpAny_bind (wpAny_bind (L2.at ?_))));simp only[if_true];refine L3.at ?_;simp only[Bool.not_true,Bool.false_eq_true,if_false];refine wpAny_pure ?_;refine wpAny_pure (wpAny_bind (L0.at ?_));rw[List.forIn_cons];refine wpAny_bind (wpAny_bind (wpAny_bind (L4.at ?_)))
 cases b with
 |true=>
  simp only[if_true];exact wpAny_pure (wpAny_pure (wpAny_pure h))
 |false=>
  simp only[Bool.false_eq_true,if_false];exact wpAny_pure (wpAny_pure (wpAny_pure h))
end
abbrev Cx.held(X:Cx)(e:Value):Cx:={X with A:=X.A.mark (some e),calm:=false,xe:=λ_ _=>False}
abbrev Cx.tried(X:Cx)(pn:List (Addr×Obj))(xe:Value->Shared->Prop):Cx:={X with pn:=pn,xe:=xe}
section
variable{X:Cx}{pins:List (Addr×Obj)}{σ:St}{H:Hp}{s:Shared}
theorem Cx.Ok.held(ok:X.Ok)(e:Value):(X.held e).Ok:=
 ⟨ok.mod,ok.kind,ok.glob,ok.blt,ok.above,ok.inj,ok.has,ok.cab,λz=>(nomatch z),ok.frames,ok.stk,ok.exf,ok.bs,ok.bsz,ok.noex,ok.exfs,ok.funs,ok.frf⟩
theorem Inv.held(I:Inv X pins σ H s)(e:Value):Inv (X.held e) pins σ H s:=⟨I.ok.held e,I.os,I.bare,I.base,I.loc,I.cell,I.free,I.freeC,I.pin,I.hok,I.len⟩
theorem Inv.unheld{e:Value}(ok:X.Ok)(I:Inv (X.held e) pins σ H s):Inv X pins σ H s:=⟨ok,I.os,I.bare,I.base,I.loc,I.cell,I.free,I.freeC,I.pin,I.hok,I.len⟩
theorem Cx.Ok.tried(ok:X.Ok)(pn:List (Addr×Obj))(xe:Value->Shared->Prop):(X.tried pn xe).Ok:=
 ⟨ok.mod,ok.kind,ok.glob,ok.blt,ok.above,ok.inj,ok.has,ok.cab,ok.hd,ok.frames,ok.stk,ok.exf,ok.bs,ok.bsz,ok.noex,ok.exfs,ok.funs,ok.frf⟩
theorem Inv.tried(I:Inv X pins σ H s)(xe:Value->Shared->Prop):Inv (X.tried (X.pn++pins) xe) [] σ H s:=
 ⟨I.ok.tried _ _,I.os,I.bare,I.base,I.loc,I.cell,I.free,I.freeC,λp hp=>I.pin p (by simpa using hp),I.hok,I.len⟩
theorem Inv.untried{pins':List (Addr×Obj)}{xe:Value->Shared->Prop}(ok:X.Ok)(I:Inv (X.tried (X.pn++pins) xe) pins' σ H s):Inv X pins σ H s:=
 ⟨ok,I.os,I.bare,I.base,I.loc,I.cell,I.free,I.freeC,λp hp=>I.pin p (List.mem_append_left _ hp),I.hok,I.len⟩
theorem SP.untried{D:Ends}{f:Flow}{xe:Value->Shared->Prop}(ok:X.Ok)(h:SP (X.tried (X.pn++pins) xe) [] D f s):SP X pins D f s:=by
 cases f with
 |next=>obtain⟨σ',H',I,q⟩:=h;exact⟨σ',H',I.untried ok,q⟩
 |brk=>obtain⟨σ',H',I,q⟩:=h;exact⟨σ',H',I.untried ok,q⟩
 |cont=>obtain⟨σ',H',I,q⟩:=h;exact⟨σ',H',I.untried ok,q⟩
 |ret u=>obtain⟨v,σ',H',I,r,q⟩:=h;exact⟨v,σ',H',I.untried ok,r,q⟩
theorem Inv.gone{i:Nat}{n:Str}{h':Heap}{v:Option Value}{m:Str->Option Value}{tk:Nat}(I:Inv X pins σ H s)(hN:X.N.Nodup)(hi:X.N[i]? =some n)
 (hl:∀ (i:Nat) (x:Str) (v:V),X.N[i]? =some x->σ[i]? =some (some v)->Vis X.env.scope x->∃u,RelV v u/\Look X.env s.heap m x u)
 (hn:h'.Ns X.env.locals (λx=>if x=n then v else m x)) (hs:Heap.SameBut X.env.locals s.heap h'):Inv X pins (σ.set i none) H {s with heap:=h',toks:=tk}:=by
 have ne0:∀b o,X.s₀.heap.get? b=some o->b≠X.env.locals:=λb o e=>Nat.ne_of_lt (Nat.lt_of_lt_of_le (Heap.lt_size e) I.ok.above);have tr:∀b u,H b=some u->b≠X.env.locals:=λb u e z=>by rw[z,I.free]at e;cases e
 refine⟨I.ok,I.os,I.bare,⟨λb o e q hb hx=>?_,λb o e q hb hx=>?_,I.base.free,λb o e hx=>?_,I.base.tups,I.base.frzs,I.base.tbls⟩,⟨_,hn,λj y w e1 e2 e3=>?_⟩,λy c e=>?_,I.free,I.freeC,λp hp=>?_,⟨λb u e=>?_,I.hok.sm,let⟨o,_,_,e,_⟩:=I.ok.mod.glob;⟨mainGlobals,o,by decide,(hs.2 _ (ne0 _ o (I.ok.bs _ _ e).1)).trans (I.bk _ _ e)⟩⟩,by simpa using I.len⟩
 ·exact(hs.2 b (ne0 b o e)).trans (I.base.keep b o e q hb hx)
 ·obtain⟨sl,e1⟩:=I.base.slot b o e q hb hx;exact⟨sl,(hs.2 b (ne0 b o e)).trans e1⟩
 ·obtain⟨o',e1⟩:=I.base.there b o e hx;exact⟨o',(hs.2 b (ne0 b o e)).trans e1⟩
 ·have hj:j≠i:=λz=>by
   subst z
   by_cases hlt:j<σ.length
   ·rw[List.getElem?_set_self hlt]at e2;cases e2
   ·rw[List.getElem?_eq_none (by rw[List.length_set];lia)]at e2;cases e2
  rw[List.getElem?_set_ne (Ne.symm hj)]at e2;obtain⟨u,r,q⟩:=hl j y w e1 e2 e3;refine⟨u,r,?_⟩;have ny:y≠n:=λz=>hj (FQ hN e1 (z▸hi));rcases q with⟨k,e⟩|⟨k,c,e,z⟩
  ·exact .inl ⟨k,by show(if y=n then v else m y)=some u;rw[if_neg ny];exact e⟩
  ·exact .inr ⟨k,c,e,z.sameBut hs (I.cne y c e)⟩
 ·obtain⟨w',z⟩:=I.cell y c e;exact⟨w',z.sameBut hs (I.cne y c e)⟩
 ·obtain⟨e,q,ne,nf,d⟩:=I.pin p hp;exact⟨(hs.2 p.1 ne).trans e,q,ne,nf,d⟩
 ·refine(I.hok b u e).stay (λc w' hc r=>(hs.2 c ?_).trans r) (λ_ z=>z) λ_ _ z=>z;rcases hc with rfl|hc
  ·exact tr _ _ e
  ·exact tr _ _ hc
end
section
variable{X:Cx}{cn en:Str}{CR:Addr}{i:Nat}{body suite:List Stmt}{b₀:Stmt}{np hpos pos:Pos}{tb:XR->TS}{ts:TS}
def ET(i:Nat)(D:Ends):Ends:={nx:=λσ H=>D.nx (σ.set i none) H,rt:=D.rt,bk:=λσ H=>D.bk (σ.set i none) H,ct:=λσ H=>D.ct (σ.set i none) H}
def LT(K:W.Frag)(i:Nat)(CR:Addr)(tb:XR->TS)(ts:TS):TS:=λD σ H=>
 tb (λC x σ' H'=>W.mroIn K C (.ref CR)=some true/\∀ob,ts (ET i D) (σ'.set i (some (.ref x))) (upd H' x (BG ob x C))) D σ H
theorem TH(ZR:ECls X.K CR)(hm:X.mg cn=some (.ref CR))(T:X.Top)(hN:X.N.Nodup)(hi:X.N[i]? =some en)(hl:X.env.scope.names.lookup en=some .local)
 (hb:∀ (pn:List (Addr×Obj)) (xe:Value->Shared->Prop) (R:XR),(∀e s',XF (X.tried pn xe) R e s'->xe e s')->PSs (X.tried pn xe) body (tb R))
 (hs:∀e:Value,PSs (X.held e) (b₀::suite) ts) (hg:Gl X cn:=by rfl) (hd:(cn==("__debug__":Str))=false:=by decide):
 PS X (.Try body [.ExceptHandler (some (.Name cn np)) (some en) (b₀::suite) hpos] [] [] pos) (LT X.K i CR tb ts):=by
 intro pins s σ H D I h;refine wpAny_Try_except ?_;refine wpAny_mono (hb (X.pn++pins) _ _ (λe s1 z=>?_) [] s σ H D (I.tried _) h) (λf s1 q=>?_) λe s1 z=>z
 ·obtain⟨pins1,σ1,H1,s1',I1,x,C,a0,H',B,rfl,os,bare,q,C',x',e1,e2,hsub,r⟩:=z
  cases e1;cases e2
  have I1:=I1.untried I.ok;refine wpAny_looks_onW (by rw[I.ok.frames,T.stk]) T.fr (by rw[<-T.stk];exact q.fl) λh4 held4 up4=>?_;refine wpAny_landsW held4 λh5 fl5 up5=>?_;have q5:=q.on (up4.trans up5) (by rw[T.stk];exact fl5) I1.stkFree;have I5:Inv X pins σ1 H' {s1 with heap:=h5}:=I1.call' (ch:=[]) os q5.un (q5.ok.kept q5.fl.1) bare (λb z=>absurd z (by simp));have X5:ExcAt x C h5:=by
   obtain⟨oe,vs,g1,g2,g3,_⟩:=q5.fl.first;exact⟨oe,vs,g1,g2,g3⟩
  refine wpAny_handleBy_cons (codeAny_handlers_test (Cm (X:=X.held (.ref x)) (I5.held _) hg hm ?_ hd)) (by intro z;cases z);refine NS ZR I5.kIn hsub X5 ?_;refine codeAny_handlers_suite_as ?_;refine lands_againW (base:=B) (l:=X.env::X.outer) (by rw[<-T.stk];exact q5.fl) λh6 fl6 up6=>?_;have q6:=q5.on up6 (by rw[T.stk];exact fl6) I1.stkFree;obtain⟨ob,c6⟩:=q6.caught;have I6:Inv X pins σ1 (upd H' x (BG ob x C)) {s1 with heap:=h6}:=I1.call' (ch:=[]) os c6.1 c6.2 bare (λb z=>absurd z (by simp));refine FG (X:=X.held (.ref x)) (I6.held _) hN hi (.inl hl) (v:= .ref x) rfl (λs7 I7=>?_) (.inr hl);refine wpAny_mono (hs (.ref x) pins s7 _ _ (ET i D) I7 (r ob)) (λf s8 q8=>?_) λ_ _ z=>z.elim;have go:∀ {σ8:St} {H8:Hp},Inv (X.held (.ref x)) pins σ8 H8 s8->(∀s9,Inv X pins (σ8.set i none) H8 s9->SP X pins D f s9)->wpAny (model X.prog X.w) X.A (do bindName X.env en .none;unbindBehindTheSuite X.env en hpos) (λ_ s9=>SP X pins D f s9) X.xe s8:=fun{σ8 H8} I8 k=>by
   have I8:=I8.unheld I.ok;obtain⟨m,hn,hlk⟩:=id I8.loc;refine wpAny_nameGoes_keeps hl hn ?_ λh9 v hn9 hs9=>k _ (I8.gone hN hi hlk hn9 hs9);rw[I.ok.kind];rfl
  cases f with
  |next=>obtain⟨σ8,H8,I8,q9⟩:=q8;exact go I8 λs9 I9=>⟨_,_,I9,q9⟩
  |brk=>obtain⟨σ8,H8,I8,q9⟩:=q8;exact go I8 λs9 I9=>⟨_,_,I9,q9⟩
  |cont=>obtain⟨σ8,H8,I8,q9⟩:=q8;exact go I8 λs9 I9=>⟨_,_,I9,q9⟩
  |ret u=>obtain⟨v,σ8,H8,I8,rv,q9⟩:=q8;exact go I8 λs9 I9=>⟨_,_,_,I9,rv,q9⟩
 ·have q:=q.untried I.ok
  cases f with
  |next=>exact wpAny_execs_nil q
  |brk=>exact q
  |cont=>exact q
  |ret u=>exact q
end
end L2
namespace L2
open PySem PySem.Spec PyProof.Rows PySem.SeqAt
section
variable{X:Cx}
theorem GC{pins:List (Addr×Obj)}{σ:St}{H:Hp}{s:Shared}{x C:Addr}{ob:Obj}(I:Inv X pins σ H s)(h:H x=some (BG ob x C)):ExcAt x C s.heap:=by
 obtain⟨_,p,_⟩:=(show ObjOk X.prog X.w H s.heap x (.frz ob (.ext (ExcAt x C)))from I.hok x _ h);exact p
def Ee(K:W.Frag):List V->Hp->VK->Prop:=λxs H Q=>Ga K xs H Q\/
 (∃x ob C T b,xs=[.ref x, .ty T]/\H x=some (BG ob x C)/\ECls K C/\W.kitOne K (.ref C) (.type T)=some b/\Q (.bl b) H)\/
 (∃x ob C D b,xs=[.ref x, .ref D]/\H x=some (BG ob x C)/\ECls K C/\W.kitOne K (.ref C) (.ref D)=some b/\Q (.bl b) H)\/
 ∃x ob C tp,∃cs:List Addr,∃b,xs=[.ref x, .ref tp]/\H x=some (BG ob x C)/\ECls K C/\H tp=some (.tup (cs.map V.ref))/\W.kitAny K (.ref C) (cs.map Value.ref)=some b/\Q (.bl b) H
theorem Hc:∀ {cs:List Addr} {us:List Value},Vals (cs.map V.ref) us->us=cs.map Value.ref
 |[],_, .nil=>rfl
 |_::_,_, .cons r t=>by rw[show _=Value.ref _ from r,Hc t];rfl
theorem FF:∀ {bs:List Bool} {us:List Value},Vals (bs.map V.bl) us->us=bs.map Value.bool
 |[],_, .nil=>rfl
 |_::_,_, .cons r t=>by rw[show _=Value.bool _ from r,FF t];rfl
theorem CB(K:W.Frag)(hK:X.K=K:=by rfl):CallR X (.builtin "isinstance") (Ee K):=by
 intro pins s σ H xs us Q I r h;rcases h with h|⟨x,ob,C,T,b,rfl,hx,Z,e,q⟩|⟨x,ob,C,D,b,rfl,hx,Z,e,q⟩|⟨x,ob,C,tp,cs,b,rfl,hx,Z,ht,e,q⟩
 ·exact DC K hK pins s σ H xs us Q I r h
 ·subst hK;obtain⟨u,v,rfl,ru,rv⟩:=vals2 r
  cases(show u=Value.ref x from ru);cases(show v=Value.type T from rv)
  exact W.kia_one (FR Z) I.kIn (GC I hx) e (λz=>nomatch z) λtk=>⟨.bl b,H,I.tok _,rfl,q⟩
 ·subst hK;obtain⟨u,v,rfl,ru,rv⟩:=vals2 r
  cases(show u=Value.ref x from ru);cases(show v=Value.ref D from rv)
  exact W.kia_one (FR Z) I.kIn (GC I hx) e (λz=>nomatch z) λtk=>⟨.bl b,H,I.tok _,rfl,q⟩
 ·subst hK;obtain⟨u,v,rfl,ru,rv⟩:=vals2 r
  cases(show u=Value.ref x from ru);cases(show v=Value.ref tp from rv)
  obtain⟨_,its,rv,⟨oc,od,oda,osl⟩,e1,e2,n,e3⟩:=(show ObjOk X.prog X.w H s.heap tp (.tup (cs.map V.ref))from I.hok tp _ ht)
  dsimp only at e2 e3;subst e2;subst e3
  exact W.kia_tup (FR Z) I.kIn (GC I hx) e1 (by rw[Hc rv];exact e) (λz=>nomatch z) λtk=>⟨.bl b,H,I.tok _,rfl,q⟩
theorem Sh{K:W.Frag}{H:Hp}{Q:VK}{x C:Addr}{ob:Obj}{T:String}{b:Bool}(hx:H x=some (BG ob x C))(Z:ECls K C)(e:W.kitOne K (.ref C) (.type T)=some b)(h:Q (.bl b) H):Ee K [.ref x, .ty T] H Q:=
 .inr (.inl ⟨x,ob,C,T,b,rfl,hx,Z,e,h⟩)
theorem Cr{K:W.Frag}{H:Hp}{Q:VK}{x C D:Addr}{ob:Obj}{b:Bool}(hx:H x=some (BG ob x C))(Z:ECls K C)(e:W.kitOne K (.ref C) (.ref D)=some b)(h:Q (.bl b) H):Ee K [.ref x, .ref D] H Q:=
 .inr (.inr (.inl ⟨x,ob,C,D,b,rfl,hx,Z,e,h⟩))
theorem Sg{K:W.Frag}{H:Hp}{Q:VK}{x C tp:Addr}{ob:Obj}{cs:List Addr}{b:Bool}(hx:H x=some (BG ob x C))(Z:ECls K C)(ht:H tp=some (.tup (cs.map V.ref)))(e:W.kitAny K (.ref C) (cs.map Value.ref)=some b)(h:Q (.bl b) H):
 Ee K [.ref x, .ref tp] H Q:= .inr (.inr (.inr ⟨x,ob,C,tp,cs,b,rfl,hx,Z,ht,e,h⟩))
def rCountB:V->List V->Hp->VK->Prop:=λx vs H Q=>∃l,∃bs:List Bool,∃k,x= .ref l/\vs=[.bl k]/\H l=some (.lst (bs.map V.bl))/\Q (.int (bs.count k:Nat)) H
theorem LJ(k:Bool){bs:List Bool}{A:Around}{s:Shared}:∀y∈bs.map Value.bool,EqAt A s y (.bool k) (isBoolOf k y):=λy hy=>by
 obtain⟨b,_,rfl⟩:=List.mem_map.mp hy;exact EqAt.bool_bool b k
theorem Og:MtM X "list.count" rCountB:=by
 intro pins s σ H x vs v us Q I rx rv h;obtain⟨l,bs,k,rfl,rfl,hH,q⟩:=h
 cases rx
 obtain⟨u,rfl,ru⟩:=rv.one
 cases(show u=Value.bool k from ru)
 obtain⟨z,its,n,r,hl,e⟩:=I.lstM hH;have ei:=FF r;subst ei;refine call_meets F.slot_list_count ⟨_,e,rfl⟩ F.entry_list_count (F.args_list_count_2 _ _) (list_countAt l _ n none #[] (.bool k) (isBoolOf k)) ⟨e,λy hy=>LJ k y (by simpa using hy),?_⟩;have ec:(bs.map Value.bool).toArray.toList.countP (isBoolOf k)=bs.count k:=by
  show(bs.map Value.bool).countP (isBoolOf k)=bs.count k;rw[List.countP_map,List.count]
  rfl
 rw[ec];exact⟨.int (bs.count k:Nat),H,I.tok _,⟨_,rfl⟩,q⟩
def rIndexB:V->List V->Hp->VK->Prop:=λx vs H Q=>∃l,∃bs:List Bool,∃k,∃j:Nat,x= .ref l/\vs=[.bl k]/\H l=some (.lst (bs.map V.bl))/\bs[j]? =some k/\(∀m,m<j->bs[m]? ≠some k)/\bs.length<=1000/\Q (.int j) H
theorem Oe:MtM X "list.index" rIndexB:=by
 intro pins s σ H x vs v us Q I rx rv h;obtain⟨l,bs,k,j,rfl,rfl,hH,hj,hno,hz,q⟩:=h
 cases rx
 obtain⟨u,rfl,ru⟩:=rv.one
 cases(show u=Value.bool k from ru)
 obtain⟨z,its,n,r,hl,e⟩:=I.lstM hH;have ei:=FF r;subst ei;obtain⟨hlt,ej⟩:=List.getElem?_eq_some_iff.mp hj;refine call_meets F.slot_list_index ⟨_,e,rfl⟩ F.entry_list_index (F.args_list_index_2 _ _) (list_indexAt l _ n none #[] (.bool k) (isBoolOf k) j (by simpa using hlt) (by lia) ?_ ?_) ⟨e,λy hy=>LJ k y (by simpa using hy),?_⟩
 ·simp only[List.getElem_toArray,List.getElem_map,isBoolOf,ej,beq_self_eq_true]
 ·intro m hm hmj;have hm':m<bs.length:=by simpa using hm
  have:=hno m hmj;rw[List.getElem?_eq_getElem hm']at this;simp only[List.getElem_toArray,List.getElem_map,isBoolOf];exact beq_eq_false_iff_ne.mpr λz=>this (by rw[z])
 ·exact⟨.int j,H,I.tok _,⟨_,rfl⟩,q⟩
end
section
variable{P:Program}{w:World}{K:W.Frag}{mg:Str->Option Value}{base:Heap}
end
end L2
namespace BrR
open PySem PySem.Spec PyProof.Rows
open PySem.Builtin
end BrR
namespace BrR
open PySem PySem.Spec PyProof.Rows L2
open PySem.Builtin
section
variable{prog:Program}{w:World}{A:Around}{E:Value->Shared->Prop}{s:Shared}
end
end BrR
namespace L2
open PySem PySem.Spec PyProof.Rows BrR
section
variable{X:Cx}
theorem Jc(n:Nat):sliceRange ((n:Int)-1) (-1) (-1)=(List.range n).map λk=>n-1-k:=by
 unfold sliceRange;have e:(if(-1:Int)>0 then(if((n:Int)-1)<(-1)then((-1)-((n:Int)-1)+(-1)-1)/(-1)else 0)else(if((n:Int)-1)>(-1)then(((n:Int)-1)-(-1)-(-1)-1)/(-(-1))else 0)).toNat=n:=by
  rw[if_neg (by decide)];simp only[Int.neg_neg,Int.ediv_one]
  split<;>lia
 simp only[e];refine List.map_congr_left λk hk=>?_;have:=List.mem_range.mp hk;lia
theorem OJ{α:Type}(a:List α):∀n,n<=a.length->((List.range n).map λk=>n-1-k).filterMap (λj=>a[j]?)=(a.take n).reverse:=by
 intro n
 induction n with
 |zero=>intro _;simp
 |succ n ih=>
  intro hn;rw[List.range_succ_eq_map,List.map_cons,List.filterMap_cons];have e1:a[n+1-1-0]? =some (a[n]'(by lia)):=by simp
  rw[e1];simp only[List.map_map];have e2:((λk=>n+1-1-k)∘Nat.succ)=λk=>n-1-k:=by
   funext k;simp only[Function.comp];lia
  rw[e2,ih (by lia),List.take_succ_eq_append_getElem (by lia),List.reverse_append]
  rfl
theorem Ic{α:Type}(a:List α):((List.range a.length).map λk=>a.length-1-k).filterMap (λj=>a[j]?)=a.reverse:=by
 rw[OJ a a.length (Nat.le_refl _),List.take_length]
def GQ(K:W.Frag):V->Hp->VK->Prop:=λx H Q=>(∃a,x=tx a/\a.length<=sizeLine/\Q (tx a.reverse) H)\/∃p xs,x= .ref p/\SqL K H p xs/\∀r,H r=none->Q (.ref r) (upd H r (.lst xs.reverse))
def LW(K:W.Frag)(te ts:TE):TE:=λσ H Q=>te σ H λx H1=>ts σ H1 λy H2=>y= .int (-1)/\GQ K x H2 Q
theorem Vals.rev:∀ {xs:List V} {us:List Value},Vals xs us->Vals xs.reverse us.reverse
 |_,_, .nil=> .nil
 |_,_, .cons r rr=>by
  rw[List.reverse_cons,List.reverse_cons];exact(Vals.rev rr).append (.cons r .nil)
theorem TU(K:W.Frag){e st:Expr}{te ts:TE}{p2 pos:Pos}(he:PE X e te)(hs:PE X st ts)(hK:X.K=K:=by rfl):PE X (.Subscript e (.Slice none none (some st) p2) pos) (LW K te ts):=by
 subst hK;intro pins s σ H Q I h;refine Subscript_ (thn (he pins s σ H _ I h) λv s1 ⟨x,H1,I1,r1,q1⟩=>?_);refine wpAny_Slice ?_;rw[evalPart_none];refine wpAny_pure (wpAny_pure ?_);rw[evalPart_some];refine thn (hs pins s1 σ H1 _ I1 q1) λu s2 ⟨y,H2,I2,r2,q2⟩=>?_;obtain⟨rfl,q⟩:=q2;obtain⟨tk,rfl⟩:=r2;have I4:Inv X pins σ H2 {s2 with heap:=s2.heap.push {cls:= .type "slice",data:= .fields #[.none, .none, .int (-1) tk]}}:=I2.kept (t':=s2.toks) λb ob q=>Heap.get?_push_of_some _ q;show wpAny (model X.prog X.w) X.A (subscriptTail e (.Slice none none (some st) p2) v (.ref s2.heap.objs.size)) (EP X pins σ Q) X.xe {s2 with heap:=s2.heap.push {cls:= .type "slice",data:= .fields #[.none, .none, .int (-1) tk]}};have key:∃T id,typeLookup (.type T) "__getitem__"=pure (some (.builtin id))/\({s2 with heap:=s2.heap.push {cls:= .type "slice",data:= .fields #[.none, .none, .int (-1) tk]}}:Shared).TypeIs v T/\wpAny (model X.prog X.w) X.A (getItem v (.ref s2.heap.objs.size)) (EP X pins σ Q) X.xe {s2 with heap:=s2.heap.push {cls:= .type "slice",data:= .fields #[.none, .none, .int (-1) tk]}}:=by
  rcases q with⟨a,rfl,hz,q⟩|⟨p,xs,rfl,hx,q⟩
  ·obtain⟨t,rfl⟩:=r1;refine⟨"str",_,F.slot_str_getitem.lookup,typeIs_str _ _ _,?_⟩;refine wpAny_getItem_str_slice (l:=none) (u:=none) (st:=some (-1,tk)) ⟨_,Heap.get?_push_size _ rfl,rfl,rfl⟩ rfl ?_;have ep:slicePicked ⟨a.toArray⟩ none none (some (-1,tk))=(List.range a.length).map λk=>a.length-1-k:=by
    unfold slicePicked;rw[Az];exact Jc a.length
   have ec:((slicePicked ⟨a.toArray⟩ none none (some (-1,tk))).filterMap (a.toArray[·]?))=a.reverse:=by
    rw[ep];simp only[List.getElem?_toArray];exact Ic a
   unfold sliceMade;rw[if_neg (by simp)];rw[ec];exact⟨by rw[Az,List.length_reverse];exact hz,⟨tx a.reverse,H2,I4.tok _,⟨_,rfl⟩,q⟩⟩
  ·cases r1
   obtain⟨its,r,ht,hz⟩:=I4.list hx;have hlen:=r.length;refine⟨"list",_,slot_list_getitem.lookup,ht.isList.typeIs,?_⟩;refine wpAny_getItem_list_slice ht.isList (Heap.IsSliceOf.new ..) .none .none (.int (-1) tk) (by simp) ?_ (by rw[List.size_toArray]<;>lia);have ep:slicePick its.toArray none none (some (-1))=its.reverse.toArray:=by
    unfold slicePick;have e:sliceBounds none none (some (-1)) its.toArray.size=((its.length:Int)-1,-1,-1):=by rw[List.size_toArray];rfl
    rw[e];show((sliceRange ((its.length:Int)-1) (-1) (-1)).filterMap _).toArray=_;rw[Jc];simp only[List.getElem?_toArray];rw[Ic]
   rw[ep];refine⟨.ref _,_,I4.laid (o:= .lst xs.reverse) (λb ob q=>Heap.get?_push_of_some _ q) (Nat.le_refl _) ?_,rfl,q _ (I4.hok.fresh (Nat.le_refl _))⟩;exact⟨by rw[List.length_reverse];exact hz,_,0,r.rev,Heap.get?_push_size _ rfl⟩
 obtain⟨T,id,hT,ht,hg⟩:=key;exact tail_any (ops:=[v, .ref s2.heap.objs.size]) ht hT hg (by with_unfolding_all rfl)
theorem JP{xss:List (List Nat)}:∀ {us:List Value},Vals (xss.map tx) us->StrsAre us (xss.map λa=>⟨a.toArray⟩):=by
 induction xss with
 |nil=>intro us r;cases r;exact .nil
 |cons a r ih=>
  intro us h
  cases h with
  |cons h1 h2=>
   obtain⟨t,rfl⟩:=h1;exact .cons _ t (ih h2)
theorem Ht:∀ (xss:List (List Nat)),Str.join ⟨([]:List Nat).toArray⟩ (xss.map λa=>⟨a.toArray⟩)=⟨xss.flatten.toArray⟩
 |[]=>rfl
 |[a]=>by simp[Str.join]
 |a::b::r=>by
  have ih:=Ht (b::r);rw[List.map_cons,List.map_cons]at*
  show(⟨a.toArray⟩:Str)++⟨([]:List Nat).toArray⟩++Str.join ⟨([]:List Nat).toArray⟩ (⟨b.toArray⟩::r.map λa=>⟨a.toArray⟩)=_;rw[ih];show(⟨a.toArray++([]:List Nat).toArray++(b::r).flatten.toArray⟩:Str)=_;simp
def rJoin(K:W.Frag):V->List V->Hp->VK->Prop:=λx vs H Q=>∃ (p:Addr) (xss:List (List Nat)),x=tx []/\vs=[.ref p]/\SqL K H p (xss.map tx)/\xss.flatten.length+xss.length<=1000000/\Q (tx xss.flatten) H
theorem Fl(K:W.Frag)(hK:X.K=K:=by rfl):MtR X "str.join" (rJoin K):=by
 subst hK;intro pins s σ H x vs v us Q I rx rv h;obtain⟨p,xss,rfl,rfl,hq,hw,q⟩:=h;obtain⟨t,rfl⟩:=rx;obtain⟨u,rfl,ru⟩:=rv.one
 cases ru
 obtain⟨its,r,ht,hz⟩:=I.list hq;have hs:((xss.map λa=>(⟨a.toArray⟩:Str)).map (·.length)).sum=xss.flatten.length:=by
  rw[List.map_map,List.length_flatten];congr 1
 refine join_listW ht.isList (JP r) (by rw[Az];decide) (by rw[hs,List.length_map];lia) λt' k=>?_;have e:Txt.join ⟨([]:List Nat).toArray⟩ (xss.map λa=>⟨a.toArray⟩)=⟨xss.flatten.toArray⟩:=by
  show Builtin.Str.glued _ _=_;rw[StrLaws.glued_eq_join,Ht]
 rw[e];exact⟨tx xss.flatten,H,I.tok k,⟨t',rfl⟩,q⟩
end
section
variable{σ:St}{H:Hp}{Q:VK}{K:W.Frag}
theorem Ub{te ts:TE}(h:te σ H λx H1=>ts σ H1 λy H2=>y= .int (-1)/\GQ K x H2 Q):LW K te ts σ H Q:=h
theorem SN{P:Prop}(h:P):V.int (-1)=V.int (-1)/\P:=⟨rfl,h⟩
theorem SM{p:Addr}{xs:List V}(hq:SqL K H p xs)(h:∀r,H r=none->Q (.ref r) (upd H r (.lst xs.reverse))):GQ K (.ref p) H Q:= .inr ⟨p,xs,rfl,hq,h⟩
theorem UU{a:List Nat}{P:Prop}(h:P):tyV K "str" (tx a) H/\P:=⟨rfl,h⟩
theorem F4{p:Addr}{xss:List (List Nat)}(hq:SqL K H p (xss.map tx))(hw:xss.flatten.length+xss.length<=1000000)(h:Q (tx xss.flatten) H):rJoin K (tx []) [.ref p] H Q:=⟨p,xss,rfl,rfl,hq,hw,h⟩
theorem JD{a:List Nat}{own:List Str}{sel:List Nat}{g:TG}{tt:TT}{te:TE}(hn:a.length<=sizeLine)(Pv:Addr->Nat->List V->Hp->Prop)(h0:∀D,H D=none->Pv D 0 [] (upd H D (.lst [])))
 (hst:∀D ys H',H D=none->H' D=some (.lst ys)->Pv D a.length ys H'->Q (.ref D) H')
 (hs:∀D i c ys H',H D=none->a[i]? =some c->i<a.length->H' D=some (.lst ys)->ys.length<=i->Pv D i ys H'->g (tx [c]) (AT own sel σ) H' λσ4 H4=>tt σ4 H4 λb H5=>
   if b=true then te σ4 H5 λv H6=>∃ys,H6 D=some (.lst ys)/\ys.length<sizeLine/\∃m',m'<a.length-i/\CW D a.length (Pv D) (i+1) m' (upd H6 D (.lst (ys++[v])))
   else∃m',m'<a.length-i/\CW D a.length (Pv D) (i+1) m' H5):BJ (Its ⟨a.toArray⟩) own sel σ g tt te Q H:=by
 refine CD (n:=a.length) Pv h0 (λD i ys H' hD hi _ p=>by simpa[Its]using hi) (λD ys H' hD hy hl p=>⟨by simp[Its],hst D ys H' hD hy p⟩) (λD i ys H' x H3 hD hi hy hl p y=>?_);obtain⟨rfl,c,e,rfl⟩:=y;exact hs D i c ys H3 hD (by simpa using e) hi hy hl p
theorem QW{lo:Int}{n:Nat}{own:List Str}{sel:List Nat}{g:TG}{tt:TT}{te:TE}(hn:n<=sizeLine)(Pv:Addr->Nat->List V->Hp->Prop)(h0:∀D,H D=none->Pv D 0 [] (upd H D (.lst [])))
 (hst:∀D ys H',H D=none->H' D=some (.lst ys)->Pv D n ys H'->Q (.ref D) H')
 (hs:∀D i ys H',H D=none->i<n->H' D=some (.lst ys)->ys.length<=i->Pv D i ys H'->g (.int (lo+i)) (AT own sel σ) H' λσ4 H4=>tt σ4 H4 λb H5=>
   if b=true then te σ4 H5 λv H6=>∃ys,H6 D=some (.lst ys)/\ys.length<sizeLine/\∃m',m'<n-i/\CW D n (Pv D) (i+1) m' (upd H6 D (.lst (ys++[v])))
   else∃m',m'<n-i/\CW D n (Pv D) (i+1) m' H5):BJ (Itr lo n) own sel σ g tt te Q H:=by
 refine CD (n:=n) Pv h0 (λD i ys H' hD hi _ p=>hi) (λD ys H' hD hy hl p=>⟨Nat.le_refl _,hst D ys H' hD hy p⟩) (λD i ys H' x H3 hD hi hy hl p y=>?_);obtain⟨rfl,rfl⟩:=y;exact hs D i ys _ hD hi hy hl p
end
end L2
namespace BrTx
open PySem L2
def BF(c:Nat):List Nat->Nat->List Nat
 |[],_=>[]
 |x::r,i=>if x=c then i::BF c r (i+1)else BF c r (i+1)
theorem JN(l:List Nat)(c i:Nat):Builtin.Str.subAt ⟨l.toArray⟩ ⟨#[c]⟩ i=decide (l[i]? =some c):=by
 unfold Builtin.Str.subAt;have e:(⟨l.toArray⟩:Str).cps.extract i (i+(⟨#[c]⟩:Str).length)=((l.drop i).take 1).toArray:=by
  show l.toArray.extract i (i+1)=_;simp
 rw[e];show(((l.drop i).take 1).toArray== #[c])=_;rw[Bool.eq_iff_iff,beq_iff_eq,decide_eq_true_eq];rw[List.take_one,List.head?_drop]
 cases l[i]? with
 |none=>simp
 |some x=>simp
theorem F9(l:List Nat)(c k:Nat):∀ (r:List Nat) (i:Nat) (arr:Array Nat) (free:Nat),l.drop i=r->free<=i->i<=l.length->
 (forIn (List.range' i (l.length+1-i)) (arr,free) (StrLaws.occBody ⟨l.toArray⟩ ⟨#[c]⟩ l.length k)).run.fst.toList=arr.toList++(BF c r i).take (k-arr.size)
 |[],i,arr,free,hr,hf,hi=>by
  have hi2:i=l.length:=by
   have:=congrArg List.length hr;simp at this;lia
  subst hi2;rw[show l.length+1-l.length=1 by lia];have hb:StrLaws.occBody ⟨l.toArray⟩ ⟨#[c]⟩ l.length k l.length (arr,free)=pure (ForInStep.yield (arr,free)):=by
   unfold StrLaws.occBody;rw[if_neg];rintro⟨⟨_,h⟩,_⟩;have:(⟨#[c]⟩:Str).length=1:=rfl;lia
  simp[List.range',hb,BF]
 |x::r,i,arr,free,hr,hf,hi=>by
  have hlt:i<l.length:=by
   have:=congrArg List.length hr;simp at this;lia
  have hx:l[i]? =some x:=by
   have:=congrArg List.head? hr;rw[List.head?_drop]at this;exact this
  have hr2:l.drop (i+1)=r:=by
   have:=congrArg List.tail hr;rw[List.tail_drop]at this;exact this
  rw[show l.length+1-i=(l.length+1-(i+1))+1 by lia,List.range'_succ];have e1:(⟨#[c]⟩:Str).length=1:=rfl
  by_cases h:(arr.size<k)/\x=c
  ·have hb:StrLaws.occBody ⟨l.toArray⟩ ⟨#[c]⟩ l.length k i (arr,free)=pure (ForInStep.yield (arr.push i,i+1)):=by
    unfold StrLaws.occBody;rw[if_pos ⟨⟨⟨h.1,hf⟩,by rw[e1];lia⟩,by rw[JN,hx,h.2];simp⟩]
    rfl
   have ih:=F9 l c k r (i+1) (arr.push i) (i+1) hr2 (Nat.le_refl _) hlt;simp only[List.forIn_cons,hb,pure_bind];rw[ih,BF,if_pos h.2,Array.toList_push,Array.size_push,List.append_assoc];congr 1;rw[show k-arr.size=(k-(arr.size+1))+1 by lia]
   rfl
  ·have hb:StrLaws.occBody ⟨l.toArray⟩ ⟨#[c]⟩ l.length k i (arr,free)=pure (ForInStep.yield (arr,free)):=by
    unfold StrLaws.occBody;rw[if_neg];rintro⟨⟨⟨h1,_⟩,_⟩,h2⟩;rw[JN,hx]at h2;exact h ⟨h1,by simpa using h2⟩
   have ih:=F9 l c k r (i+1) arr free hr2 (by lia) hlt;simp only[List.forIn_cons,hb,pure_bind];rw[ih,BF]
   by_cases h2:x=c
   ·rw[if_pos h2];have:k-arr.size=0:=by
     have:¬arr.size<k:=λz=>h ⟨z,h2⟩;lia
    rw[this,List.take_zero,List.take_zero]
   ·rw[if_neg h2]
theorem Jo(l:List Nat)(c k:Nat):Builtin.Str.occurrences ⟨l.toArray⟩ ⟨#[c]⟩ 0 (⟨l.toArray⟩:Str).length k=(BF c l 0).take k:=by
 have h:=F9 l c k l 0 #[] 0 rfl (Nat.le_refl _) (Nat.zero_le _);have e:(⟨l.toArray⟩:Str).length=l.length:=by show l.toArray.size=_;simp
 rw[e];unfold Builtin.Str.occurrences;have hb:(fun(i:Nat) (st:Array Nat×Nat)=>if(decide (st.fst.size<k)&&decide (st.snd<=i)&&decide (i+(⟨#[c]⟩:Str).length<=l.length)&&Builtin.Str.subAt ⟨l.toArray⟩ ⟨#[c]⟩ i)=true then(pure (ForInStep.yield (st.fst.push i,i+(⟨#[c]⟩:Str).length)):Id _)else pure (ForInStep.yield (st.fst,st.snd)))=StrLaws.occBody ⟨l.toArray⟩ ⟨#[c]⟩ l.length k:=by
  funext i st
  unfold StrLaws.occBody;simp only[Bool.and_eq_true,decide_eq_true_eq]
 simp only[Std.Legacy.Range.forIn_eq_forIn_range',Std.Legacy.Range.size];have h2:(forIn (List.range' 0 (l.length+1)) (#[],0) (StrLaws.occBody ⟨l.toArray⟩ ⟨#[c]⟩ l.length k)).run.fst.toList=(BF c l 0).take k:=by simpa using h
 rw[<-h2,<-hb];simp
def C3(x:Nat):List (List Nat)->List (List Nat)
 |w::ws=>(x::w)::ws
 |[]=>[[x]]
def spN(c:Nat):Nat->List Nat->List (List Nat)
 |_,[]=>[[]]
 |0,x::r=>[x::r]
 |n+1,x::r=>if x=c then []::spN c n r else C3 x (spN c (n+1) r)
theorem CV(c:Nat):∀ (n:Nat) (l:List Nat),spN c n l≠[]
 |0,[]=>by simp[spN]
 |n+1,[]=>by simp[spN]
 |0,x::r=>by simp[spN]
 |n+1,x::r=>by
  rw[spN]
  split
  ·simp
  ·cases e:spN c (n+1) r with
   |nil=>simp[C3]
   |cons w ws=>simp[C3]
def hdP(p:List Nat):List (List Nat)->List (List Nat)
 |w::ws=>(p++w)::ws
 |[]=>[p]
theorem Fn:∀ {ws:List (List Nat)},ws≠[]->hdP [] ws=ws
 |[],h=>(h rfl).elim
 |w::ws,_=>rfl
theorem Ox{p:List Nat}{x:Nat}{ws:List (List Nat)}(h:ws≠[]):hdP p (C3 x ws)=hdP (p++[x]) ws:=by
 cases ws with
 |nil=>exact(h rfl).elim
 |cons w ws=>simp[hdP,C3]
def stS(w:List Nat):Str:=⟨w.toArray⟩
theorem Fx(l:List Nat)(a b:Nat):Builtin.Str.strSub ⟨l.toArray⟩ a b=stS ((l.drop a).take (b-a)):=by
 unfold Builtin.Str.strSub stS;simp[List.extract_eq_take_drop]
theorem DG(l:List Nat):(⟨l.toArray⟩:Str).length=l.length:=by show l.toArray.size=_;simp
theorem EI(l:List Nat)(c:Nat):∀ (r:List Nat) (b a n:Nat),l.drop b=r->a<=b->b<=l.length->StrLaws.partsFrom ⟨l.toArray⟩ 1 a ((BF c r b).take n)=(hdP ((l.drop a).take (b-a)) (spN c n r)).map stS
 |[],b,a,n,hr,hab,hb=>by
  have hb2:b=l.length:=by
   have:=congrArg List.length hr;simp at this;lia
  have e1:spN c n []=[[]]:=by cases n<;>rfl
  rw[BF,List.take_nil,e1];show [Builtin.Str.strSub ⟨l.toArray⟩ a (⟨l.toArray⟩:Str).length]=[stS (_++[])];rw[Fx,DG,List.append_nil,hb2]
 |x::r,b,a,0,hr,hab,hb=>by
  rw[List.take_zero];show [Builtin.Str.strSub ⟨l.toArray⟩ a (⟨l.toArray⟩:Str).length]=[stS (_++(x::r))];rw[Fx,DG,<-hr];congr 2;have e:l.drop b=(l.drop a).drop (b-a):=by rw[List.drop_drop];congr 1;lia
  rw[e,List.take_append_drop,List.take_of_length_le (by simp)]
 |x::r,b,a,n+1,hr,hab,hb=>by
  have hlt:b<l.length:=by
   have:=congrArg List.length hr;simp at this;lia
  have hx:(l.drop a)[b-a]? =some x:=by
   have:=congrArg List.head? hr;rw[List.head?_drop]at this;rw[List.getElem?_drop,show a+(b-a)=b by lia];exact this
  have hr2:l.drop (b+1)=r:=by
   have:=congrArg List.tail hr;rw[List.tail_drop]at this;exact this
  by_cases h:x=c
  ·rw[BF,if_pos h,spN,if_pos h,List.take_succ_cons];show Builtin.Str.strSub ⟨l.toArray⟩ a b::StrLaws.partsFrom ⟨l.toArray⟩ 1 (b+1) _=_;rw[EI l c r (b+1) (b+1) n hr2 (Nat.le_refl _) hlt,Fx,Nat.sub_self,List.take_zero,Fn (CV c n r)];simp[hdP]
  ·rw[BF,if_neg h,spN,if_neg h,EI l c r (b+1) a (n+1) hr2 (by lia) hlt,Ox (CV c (n+1) r)];congr 2;rw[show b+1-a=(b-a)+1 by lia,List.take_add_one,hx]
   rfl
theorem EG(c:Nat):∀ (n:Nat) (l:List Nat),c∉l->spN c n l=[l]
 |0,[],_=>rfl
 |n+1,[],_=>rfl
 |0,x::r,_=>rfl
 |n+1,x::r,h=>by
  rw[spN,if_neg (λz=>h (by rw[z];exact List.mem_cons_self)),EG c (n+1) r (λz=>h (List.mem_cons_of_mem _ z))]
  rfl
theorem Ff{c:Nat}:∀ {l:List Nat} {i:Nat},BF c l i=[]->c∉l
 |[],_,_=>by simp
 |x::r,i,h=>by
  rw[BF]at h
  split at h
  ·cases h
  ·rename_i hx
   have:=Ff h;simp[this,Ne.symm hx]
theorem Hi(l:List Nat)(c:Nat)(k:Int)(hk:0<=k):Txt.splitMax ⟨l.toArray⟩ ⟨#[c]⟩ k=(spN c k.toNat l).map stS:=by
 have hlim:limitOf ⟨l.toArray⟩ k=k.toNat:=by unfold limitOf;rw[if_neg (by lia)]
 unfold Txt.splitMax;rw[hlim,Jo]
 split
 ·rename_i h
  have hc:c∉l:=by
   rw[Bool.or_eq_true,decide_eq_true_eq,decide_eq_true_eq]at h;rcases h with h|h
   ·rw[DG]at h;have:l=[]:=List.length_eq_zero_iff.mp (by have:(⟨#[c]⟩:Str).length=1:=rfl;lia);simp[this]
   ·simpa using StrLaws.kind_free _ _ h
  rw[EG c _ l hc];rfl
 ·split
  ·rename_i h
   rw[List.isEmpty_iff]at h
   by_cases hk0:k.toNat=0
   ·rw[hk0]
    cases l with
    |nil=>rfl
    |cons x r=>rfl
   ·have:BF c l 0=[]:=by
     cases e:BF c l 0 with
     |nil=>rfl
     |cons i t=>
      rw[e,show k.toNat=(k.toNat-1)+1 by lia]at h
      cases h
    rw[EG c _ l (Ff this)];rfl
  ·rw[StrLaws.partsBetween_eq];have:=EI l c l 0 0 k.toNat rfl (Nat.le_refl _) (Nat.zero_le _);rw[show(⟨#[c]⟩:Str).length=1 from rfl,this,Nat.sub_self,List.take_zero,Fn (CV c _ l)]
theorem PZ(l:List Nat)(c:Nat):Txt.split ⟨l.toArray⟩ ⟨#[c]⟩=(spN c (l.length+1) l).map stS:=by
 have h:=Hi l c ((l.length+1:Nat):Int) (by lia);rw[Int.toNat_natCast]at h;rw[<-h];unfold Txt.split Txt.splitMax;have hlim:limitOf ⟨l.toArray⟩ ((l.length+1:Nat):Int)=(⟨l.toArray⟩:Str).length+1:=by unfold limitOf;rw[if_neg (by lia),DG];lia
 rw[hlim]
theorem RY(l:List Nat)(c:Nat):∃w v u,Txt.partition ⟨l.toArray⟩ ⟨#[c]⟩=(stS w,v,u)/\(spN c 1 l).head?=some w:=by
 unfold Txt.partition;rw[Jo];have:=EI l c l 0 0 1 rfl (Nat.le_refl _) (Nat.zero_le _);rw[Nat.sub_self,List.take_zero,Fn (CV c _ l)]at this
 cases e:BF c l 0 with
 |nil=>
  rw[EG c _ l (Ff e)];exact⟨l,_,_,rfl,rfl⟩
 |cons i t=>
  rw[e]at this
  cases es:spN c 1 l with
  |nil=>exact(CV c 1 l es).elim
  |cons w ws=>
   rw[es]at this;have h1:Builtin.Str.strSub ⟨l.toArray⟩ 0 i=stS w:=by
    have:=congrArg List.head? this;simpa[StrLaws.partsFrom]using this
   refine⟨w,⟨#[c]⟩,Builtin.Str.strSub ⟨l.toArray⟩ (i+(⟨#[c]⟩:Str).length) (⟨l.toArray⟩:Str).length,?_,rfl⟩;show(Builtin.Str.strSub ⟨l.toArray⟩ 0 i,_,_)=_;rw[h1]
end BrTx
namespace L2
open PySem PySem.Spec PyProof.Rows BrTx
theorem E4:∀ (ws:List (List Nat)) (tk:Nat),Vals (ws.map tx) (strsFrom tk (ws.map stS))
 |[],_=> .nil
 |w::ws,tk=> .cons ⟨tk,rfl⟩ (E4 ws (tk+1))
theorem Df(c:Nat):∀ (n:Nat) (l:List Nat),(spN c n l).length<=l.length+1
 |0,[]=>by simp[spN]
 |n+1,[]=>by simp[spN]
 |0,x::r=>by simp[spN]
 |n+1,x::r=>by
  rw[spN]
  split
  ·have:=Df c n r;simp;lia
  ·have h1:=Df c (n+1) r;have:(C3 x (spN c (n+1) r)).length=(spN c (n+1) r).length:=by
    cases e:spN c (n+1) r with
    |nil=>exact(CV c (n+1) r e).elim
    |cons w ws=>rfl
   rw[this,List.length_cons];lia
def rSplit:V->List V->Hp->VK->Prop:=λx vs H Q=>∃l c,x=tx l/\l.length<=2000/\((vs=[tx [c]]/\∀p,H p=none->Q (.ref p) (upd H p (.lst ((spN c (l.length+1) l).map tx))))\/
 ∃k:Int,vs=[tx [c], .int k]/\0<=k/\k<=1000/\∀p,H p=none->Q (.ref p) (upd H p (.lst ((spN c k.toNat l).map tx))))
section
variable{X:Cx}
theorem EK{pins:List (Addr×Obj)}{σ:St}{H:Hp}{s:Shared}{Q:VK}{ws:List (List Nat)}{k:Nat}{its:List Value}(I:Inv X pins σ H s)(hw:ws.length<=2001)(hv:Vals (ws.map tx) its)(q:∀p,H p=none->Q (.ref p) (upd H p (.lst (ws.map tx)))):
 EP X pins σ Q (Value.ref s.heap.objs.size) {heap:=s.heap.push {cls:=Value.type "list",data:=Data.seq its.toArray},gens:=s.gens,drawn:=s.drawn,toks:=k,os:=s.os}:=by
 refine⟨.ref _,_,I.laid (o:= .lst (ws.map tx)) (λb ob q=>Heap.get?_push_of_some _ q) (Nat.le_refl _) ?_,rfl,q _ (I.hok.fresh (Nat.le_refl _))⟩;exact⟨by rw[List.length_map,sizeLine_eq];lia,_,0,hv,Heap.get?_push_size _ rfl⟩
theorem Il:MtR X "str.split" rSplit:=by
 intro pins s σ H x vs v us Q I rx rv h;obtain⟨l,c,rfl,hl,h⟩:=h;obtain⟨t,rfl⟩:=rx;have e0:((⟨#[c]⟩:Str).length==0)=false:=rfl;have hlen:(⟨l.toArray⟩:Str).length<=sizeLine:=by rw[DG,sizeLine_eq];lia
 rcases h with⟨rfl,q⟩|⟨k,rfl,k0,k1,q⟩
 ·obtain⟨u,rfl,tu,rfl⟩:=rv.one;have sp:=PZ l c;have hw:=Df c (l.length+1) l;unfold Txt.split at sp;have one:[(⟨l.toArray⟩:Str)]=(spN c (l.length+1) l).map stS->EP X pins σ Q (Value.ref s.heap.objs.size) {heap:=s.heap.push {cls:=Value.type "list",data:=Data.seq #[Value.str ⟨l.toArray⟩ t]},gens:=s.gens,drawn:=s.drawn,toks:=s.toks,os:=s.os}:=λe=>by
   have e2:spN c (l.length+1) l=[l]:=by
    cases es:spN c (l.length+1) l with
    |nil=>rw[es]at e;cases e
    |cons w ws=>
     rw[es]at e;have h1:=congrArg List.length e;have h2:=congrArg List.head? e;simp at h1 h2;have h3:l.toArray=w.toArray:=by
      have:(⟨l.toArray⟩:Str)=⟨w.toArray⟩:=h2;injection this
     have h4:=congrArg Array.toList h3;simp at h4;rw[h1,h4]
   exact EK (ws:=[l]) (its:=[Value.str ⟨l.toArray⟩ t]) I (by simp) (.cons ⟨t,rfl⟩ .nil) (by rw[e2]at q;exact q)
  by_cases hc:(decide ((⟨l.toArray⟩:Str).length<(⟨#[c]⟩:Str).length)||decide (Builtin.Str.strKind ⟨l.toArray⟩<Builtin.Str.strKind ⟨#[c]⟩))=true
  ·rw[if_pos hc]at sp;exact call_meets PySem.F.slot_str_split (typeIs_str s _ t) PySem.F.entry_str_split (PySem.F.args_str_split_2 _ _) (meets_str_split_cannot_occur _ _ t tu hc) (one sp)
  ·rw[if_neg hc]at sp;have hc':(decide ((⟨l.toArray⟩:Str).length<(⟨#[c]⟩:Str).length)||decide (Builtin.Str.strKind ⟨l.toArray⟩<Builtin.Str.strKind ⟨#[c]⟩))=false:=by simpa using hc
   by_cases he:(Builtin.Str.occurrences ⟨l.toArray⟩ ⟨#[c]⟩ 0 (⟨l.toArray⟩:Str).length ((⟨l.toArray⟩:Str).length+1)).isEmpty=true
   ·rw[if_pos he]at sp;exact call_meets PySem.F.slot_str_split (typeIs_str s _ t) PySem.F.entry_str_split (PySem.F.args_str_split_2 _ _) (meets_str_split_not_found _ _ t tu hc' e0 he) (one sp)
   ·rw[if_neg he]at sp;have he':=by simpa using he
    refine call_meets PySem.F.slot_str_split (typeIs_str s _ t) PySem.F.entry_str_split (PySem.F.args_str_split_2 _ _) (meets_str_split_sep _ _ t tu hc' e0 (by simpa using he) hlen (by rw[sp,List.length_map,sizeLine_eq];lia)) ?_;rw[sp];exact EK I (by lia) (E4 _ _) q
 ·obtain⟨u,us',rfl,⟨tu,rfl⟩,r2⟩:∃u us',us=u::us'/\RelV (tx [c]) u/\Vals [.int k] us':=by
   cases rv with
   |cons a b=>exact⟨_,_,rfl,a,b⟩
  obtain⟨u2,rfl,tv,rfl⟩:=r2.one;have hk:(decide (k< -2^63)||decide (k>=2^63))=false:=by
   rw[Bool.or_eq_false_iff,decide_eq_false_iff_not,decide_eq_false_iff_not];lia
  have sp:=Hi l c k k0;have hw:=Df c k.toNat l;unfold Txt.splitMax at sp;have one:[(⟨l.toArray⟩:Str)]=(spN c k.toNat l).map stS->EP X pins σ Q (Value.ref s.heap.objs.size) {heap:=s.heap.push {cls:=Value.type "list",data:=Data.seq #[Value.str ⟨l.toArray⟩ t]},gens:=s.gens,drawn:=s.drawn,toks:=s.toks,os:=s.os}:=λe=>by
   have e2:spN c k.toNat l=[l]:=by
    cases es:spN c k.toNat l with
    |nil=>rw[es]at e;cases e
    |cons w ws=>
     rw[es]at e;have h1:=congrArg List.length e;have h2:=congrArg List.head? e;simp at h1 h2;have h3:l.toArray=w.toArray:=by
      have:(⟨l.toArray⟩:Str)=⟨w.toArray⟩:=h2;injection this
     have h4:=congrArg Array.toList h3;simp at h4;rw[h1,h4]
   exact EK (ws:=[l]) (its:=[Value.str ⟨l.toArray⟩ t]) I (by simp) (.cons ⟨t,rfl⟩ .nil) (by rw[e2]at q;exact q)
  by_cases hc:(decide ((⟨l.toArray⟩:Str).length<(⟨#[c]⟩:Str).length)||decide (Builtin.Str.strKind ⟨l.toArray⟩<Builtin.Str.strKind ⟨#[c]⟩))=true
  ·rw[if_pos hc]at sp;exact call_meets PySem.F.slot_str_split (typeIs_str s _ t) PySem.F.entry_str_split (PySem.F.args_str_split_3 _ _ _) (meets_str_split_max_cannot_occur _ _ k t tu tv hk hc) (one sp)
  ·rw[if_neg hc]at sp;have hc':(decide ((⟨l.toArray⟩:Str).length<(⟨#[c]⟩:Str).length)||decide (Builtin.Str.strKind ⟨l.toArray⟩<Builtin.Str.strKind ⟨#[c]⟩))=false:=by simpa using hc
   by_cases he:(Builtin.Str.occurrences ⟨l.toArray⟩ ⟨#[c]⟩ 0 (⟨l.toArray⟩:Str).length (limitOf ⟨l.toArray⟩ k)).isEmpty=true
   ·rw[if_pos he]at sp;exact call_meets PySem.F.slot_str_split (typeIs_str s _ t) PySem.F.entry_str_split (PySem.F.args_str_split_3 _ _ _) (meets_str_split_max_not_found _ _ k t tu tv hk hc' e0 he) (one sp)
   ·rw[if_neg he]at sp;refine call_meets PySem.F.slot_str_split (typeIs_str s _ t) PySem.F.entry_str_split (PySem.F.args_str_split_3 _ _ _) (meets_str_split_sep_max _ _ k t tu tv hk hc' e0 (by simpa using he) hlen (by rw[sp,List.length_map,sizeLine_eq];lia)) ?_;rw[sp];exact EK I (by lia) (E4 _ _) q
def rPart:V->List V->Hp->VK->Prop:=λx vs H Q=>∃l c w,x=tx l/\vs=[tx [c]]/\l.length<=2000/\(spN c 1 l).head?=some w/\∀p v u,H p=none->Q (.ref p) (upd H p (.tup [tx w,v,u]))
theorem Rf:MtR X "str.partition" rPart:=by
 intro pins s σ H x vs v us Q I rx rv h;obtain⟨l,c,w,rfl,rfl,hl,hw,q⟩:=h;obtain⟨t,rfl⟩:=rx;obtain⟨u,rfl,tu,rfl⟩:=rv.one;have e0:((⟨#[c]⟩:Str).length==0)=false:=rfl;have hlen:(⟨l.toArray⟩:Str).length<=sizeLine:=by rw[DG,sizeLine_eq];lia
 obtain⟨w',a,b,hp,hw'⟩:=RY l c;rw[hw]at hw'
 cases hw'
 have fin:∀ {ta tb tc:Tok} {k:Nat},EP X pins σ Q (Value.ref s.heap.objs.size) {heap:=s.heap.push {cls:=Value.type "tuple",data:=Data.seq #[Value.str (stS w) ta,Value.str a tb,Value.str b tc]},gens:=s.gens,drawn:=s.drawn,toks:=k,os:=s.os}:=fun{ta tb tc k}=>by
  refine⟨.ref _,_,I.laid (o:= .tup [tx w, .str a, .str b]) (λb ob q=>Heap.get?_push_of_some _ q) (Nat.le_refl _) ?_,rfl,q _ _ _ (I.hok.fresh (Nat.le_refl _))⟩;exact⟨by rw[sizeLine_eq];simp,[_,_,_], .cons ⟨ta,rfl⟩ (.cons ⟨tb,rfl⟩ (.cons ⟨tc,rfl⟩ .nil)),⟨_,Heap.get?_push_size _ rfl,rfl,0,rfl⟩⟩
 refine call_meets PySem.F.slot_str_partition (typeIs_str s _ t) PySem.F.entry_str_partition (PySem.F.args_str_partition_2 _ _) (meets_str_partition _ _ t tu e0 hlen) ?_;unfold Txt.partition at hp
 cases eo:Builtin.Str.occurrences ⟨l.toArray⟩ ⟨#[c]⟩ 0 (⟨l.toArray⟩:Str).length 1 with
 |nil=>
  rw[eo]at hp;simp only[Prod.mk.injEq]at hp;obtain⟨h1,h2,h3⟩:=hp;subst h2 h3;rw[<-h1]at fin;exact fin
 |cons i r=>
  rw[eo]at hp;simp only[Prod.mk.injEq]at hp;obtain⟨h1,h2,h3⟩:=hp;subst h2 h3;rw[<-h1]at fin;exact fin
end
theorem Qn{l:List Nat}{c:Nat}{H:Hp}{Q:VK}(hl:l.length<=2000)(q:∀p,H p=none->Q (.ref p) (upd H p (.lst ((spN c (l.length+1) l).map tx)))):rSplit (tx l) [tx [c]] H Q:=⟨l,c,rfl,hl, .inl ⟨rfl,q⟩⟩
theorem Pd{l:List Nat}{c:Nat}{k:Int}{H:Hp}{Q:VK}(hl:l.length<=2000)(k0:0<=k)(k1:k<=1000)(q:∀p,H p=none->Q (.ref p) (upd H p (.lst ((spN c k.toNat l).map tx)))):rSplit (tx l) [tx [c], .int k] H Q:=⟨l,c,rfl,hl, .inr ⟨k,rfl,k0,k1,q⟩⟩
theorem Qq{l w:List Nat}{c:Nat}{H:Hp}{Q:VK}(hl:l.length<=2000)(hw:(spN c 1 l).head?=some w)(q:∀p v u,H p=none->Q (.ref p) (upd H p (.tup [tx w,v,u]))):rPart (tx l) [tx [c]] H Q:=⟨l,c,w,rfl,rfl,hl,hw,q⟩
end L2
namespace L2
open PySem PySem.Spec PyProof.Rows
section
variable{κ:Type}[DecidableEq κ]
def AR(kvs:List (κ×V))(k:κ):Option V:=(kvs.find? λkv=>decide (kv.1=k)).map (·.2)
def putK(kvs:List (κ×V))(k:κ)(v:V):List (κ×V):=
 if(kvs.any λkv=>decide (kv.1=k))=true then kvs.map (λkv=>if kv.1=k then(kv.1,v)else kv)else kvs++[(k,v)]
def Cc(kvs:List (κ×V))(k:κ):List (κ×V):=kvs.filter λkv=>decide (kv.1≠k)
theorem Br{p:κ×V}{r:List (κ×V)}{k:κ}(e:p.1=k):AR (p::r) k=some p.2:=by simp[AR,List.find?_cons,e]
theorem Bs{p:κ×V}{r:List (κ×V)}{k:κ}(e:¬p.1=k):AR (p::r) k=AR r k:=by simp[AR,List.find?_cons,e]
theorem EF(k:κ):∀kvs:List (κ×V),(kvs.any λkv=>decide (kv.1=k))=(AR kvs k).isSome
 |[]=>rfl
 |p::r=>by
  rw[List.any_cons]
  by_cases e:p.1=k
  ·simp only[Br e,decide_eq_true e,Bool.true_or,Option.isSome_some]
  ·rw[Bs e,decide_eq_false e,Bool.false_or];exact EF k r
theorem IR(k j:κ)(y:V):∀kvs:List (κ×V),AR (kvs.map λkv=>if kv.1=k then(kv.1,y)else kv) j=(AR kvs j).map λx=>if j=k then y else x
 |[]=>rfl
 |p::r=>by
  have ih:=IR k j y r;rw[List.map_cons]
  by_cases h:p.1=k
  ·rw[if_pos h]
   by_cases e:p.1=j
   ·rw[Br (p:=(p.1,y)) e,Br e,Option.map_some,if_pos (e.symm.trans h)]
   ·rw[Bs (p:=(p.1,y)) e,Bs e,ih]
  ·rw[if_neg h]
   by_cases e:p.1=j
   ·rw[Br (p:=p) e,Br e,Option.map_some,if_neg (λz=>h (e.trans z))]
   ·rw[Bs (p:=p) e,Bs e,ih]
theorem Hd(k j:κ)(y:V):∀kvs:List (κ×V),AR kvs k=none->AR (kvs++[(k,y)]) j=if j=k then some y else AR kvs j
 |[],_=>by
  by_cases e:k=j
  ·rw[if_pos e.symm];exact Br (p:=(k,y)) e
  ·rw[if_neg (λz=>e z.symm)];exact Bs (p:=(k,y)) e
 |p::r,hn=>by
  rw[List.cons_append];have hk:¬p.1=k:=λz=>by rw[Br z]at hn;cases hn
  rw[Bs hk]at hn;have ih:=Hd k j y r hn
  by_cases e:p.1=j
  ·rw[Br e,Br e,if_neg (λz=>hk (e.trans z))]
  ·rw[Bs e,Bs e,ih]
theorem PY(kvs:List (κ×V))(k j:κ)(y:V):AR (putK kvs k y) j=if j=k then some y else AR kvs j:=by
 unfold putK
 by_cases a:(kvs.any λkv=>decide (kv.1=k))=true
 ·rw[if_pos a,IR];rw[EF]at a
  by_cases e:j=k
  ·obtain⟨x,hx⟩:=Option.isSome_iff_exists.mp a;rw[if_pos e,e,hx,Option.map_some,if_pos rfl]
  ·rw[if_neg e]
   cases AR kvs j with
   |none=>rfl
   |some x=>rw[Option.map_some,if_neg e]
 ·rw[if_neg a];refine Hd k j y kvs ?_;rw[EF]at a
  cases q:AR kvs k with
  |none=>rfl
  |some x=>rw[q]at a;exact(a rfl).elim
theorem Ey(kvs:List (κ×V))(k:κ)(v:V):(putK kvs k v).length<=kvs.length+1:=by
 unfold putK
 split
 ·rw[List.length_map];lia
 ·rw[List.length_append,List.length_cons,List.length_nil];lia
theorem RelO.isSome_eq{o:Option V}{u:Option Value}(r:RelO o u):o.isSome=u.isSome:=by
 cases o with
 |none=>cases u with
  |none=>rfl
  |some _=>exact(show False from r).elim
 |some _=>cases u with
  |none=>exact(show False from r).elim
  |some _=>rfl
theorem KV.val{kvs:List (κ×V)}{vs:List (κ×Value)}(r:KV kvs vs)(k:κ):RelO (AR kvs k) (valueAt vs k):=by
 unfold KV at r
 induction r with
 |nil=>exact True.intro
 | @cons p q ps qs h t ih=>
   obtain⟨h1,h2⟩:=h
   by_cases e:p.1=k
   ·have e':q.1=k:=h1.symm.trans e;have b:valueAt (q::qs) k=some q.2:=by simp[valueAt,List.find?_cons,e']
    rw[Br e,b];exact h2
   ·have e':¬q.1=k:=λz=>e (h1.trans z);have b:valueAt (q::qs) k=valueAt qs k:=by simp[valueAt,List.find?_cons,e']
    rw[Bs e,b];exact ih
theorem KV.any{kvs:List (κ×V)}{vs:List (κ×Value)}(r:KV kvs vs)(k:κ):(kvs.any λkv=>decide (kv.1=k))=vs.any λkv=>decide (kv.1=k):=by
 unfold KV at r
 induction r with
 |nil=>rfl
 |cons h t ih=>rw[List.any_cons,List.any_cons,ih,h.1]
theorem KV.repl{kvs:List (κ×V)}{vs:List (κ×Value)}(r:KV kvs vs)(k:κ){y:V}{u:Value}(ry:RelV y u):
 KV (kvs.map λkv=>if kv.1=k then(kv.1,y)else kv) (vs.map λkv=>if kv.1=k then(kv.1,u)else kv):=by
 unfold KV at r⊢
 induction r with
 |nil=>exact .nil
 | @cons p q ps qs h t ih=>
   rw[List.map_cons,List.map_cons];refine .cons ?_ ih;obtain⟨h1,h2⟩:=h
   by_cases e:p.1=k
   ·rw[if_pos e,if_pos (h1.symm.trans e)];exact⟨h1,ry⟩
   ·rw[if_neg e,if_neg (λz=>e (h1.trans z))];exact⟨h1,h2⟩
theorem KV.put{kvs:List (κ×V)}{vs:List (κ×Value)}(r:KV kvs vs)(k:κ){y:V}{u:Value}(ry:RelV y u):KV (putK kvs k y) (stored vs k u):=by
 unfold putK stored;rw[r.any k]
 by_cases e:(vs.any λkv=>decide (kv.1=k))=true
 ·rw[if_pos e,if_pos e];exact r.repl k ry
 ·rw[if_neg e,if_neg e];exact Paired.snoc r ⟨rfl,ry⟩
theorem KV.drop{kvs:List (κ×V)}{vs:List (κ×Value)}(r:KV kvs vs)(k:κ):KV (Cc kvs k) (without vs k):=by
 unfold KV at r⊢;unfold Cc without
 induction r with
 |nil=>exact .nil
 | @cons p q ps qs h t ih=>
   obtain⟨h1,h2⟩:=h;rw[List.filter_cons,List.filter_cons]
   by_cases e:p.1=k
   ·have a:¬decide (p.1≠k)=true:=by simp[e]
    have b:¬decide (q.1≠k)=true:=by simp[h1.symm.trans e]
    rw[if_neg a,if_neg b];exact ih
   ·have e':¬q.1=k:=λz=>e (h1.trans z);have a:decide (p.1≠k)=true:=by simp[e]
    have b:decide (q.1≠k)=true:=by simp[e']
    rw[if_pos a,if_pos b];exact .cons ⟨h1,h2⟩ ih
theorem KV.keys{kvs:List (κ×V)}{vs:List (κ×Value)}(r:KV kvs vs):kvs.map (·.1)=vs.map (·.1):=by
 unfold KV at r
 induction r with
 |nil=>rfl
 |cons h t ih=>rw[List.map_cons,List.map_cons,ih,h.1]
theorem KV.length{kvs:List (κ×V)}{vs:List (κ×Value)}(r:KV kvs vs):kvs.length=vs.length:=Paired.length r
theorem QR(kvs:List (κ×V))(k:κ):(Cc kvs k).length<=kvs.length:=List.length_filter_le _ _
end
theorem C0{P:Program}{w:World}{k:Key}{u:Value}(r:RelV (kV k) u):(Au P w).is k u=true:=by
 cases k with
 |inl i=>obtain⟨t,e⟩:=(show∃t,u=Value.int i t from r);subst e;exact NO P w i t
 |inr x=>obtain⟨t,e⟩:=(show∃t,u=Value.str x t from r);subst e;exact NN P w x t
theorem Hu{P:Program}{w:World}:∀ {ks:List Key} {us:List Value},Vals (ks.map kV) us->ItemsAre (Au P w) ks us
 |[],_,r=>by rw[List.map_nil]at r;cases r;exact .nil
 |k::ks,_,r=>by
  rw[List.map_cons]at r
  cases r with
  |cons h t=>exact .cons (C0 h) (Hu t)
abbrev KT(H:Hp):List (List Key×V)->List (List Key×Addr×Value)->Prop:=Paired λp q=>p.1=q.1/\H q.2.1=some (.tup (p.1.map kV))/\RelV p.2 q.2.2
theorem KT.val{H:Hp}{kvs:List (List Key×V)}{xs:List (List Key×Addr×Value)}(r:KT H kvs xs)(k:List Key):RelO (AR kvs k) ((atKey xs k).map (·.2)):=by
 induction r with
 |nil=>exact True.intro
 | @cons p q ps qs h t ih=>
   obtain⟨h1,_,h2⟩:=h
   by_cases e:p.1=k
   ·have e':q.1=k:=h1.symm.trans e;have b:atKey (q::qs) k=some q.2:=by simp[atKey,List.find?_cons,e']
    rw[Br e,b];exact h2
   ·have e':¬q.1=k:=λz=>e (h1.trans z);have b:atKey (q::qs) k=atKey qs k:=by simp[atKey,List.find?_cons,e']
    rw[Bs e,b];exact ih
theorem KT.repl{H:Hp}{kvs:List (List Key×V)}{xs:List (List Key×Addr×Value)}(r:KT H kvs xs)(k:List Key){y:V}{u:Value}(ry:RelV y u):
 KT H (kvs.map λkv=>if kv.1=k then(kv.1,y)else kv) (xs.map (putAt k u)):=by
 induction r with
 |nil=>exact .nil
 | @cons p q ps qs h t ih=>
   rw[List.map_cons,List.map_cons];refine .cons ?_ ih;obtain⟨h1,h2,h3⟩:=h;unfold putAt
   by_cases e:p.1=k
   ·rw[if_pos e,if_pos (h1.symm.trans e)];exact⟨h1,h2,ry⟩
   ·rw[if_neg e,if_neg (λz=>e (h1.trans z))];exact⟨h1,h2,h3⟩
theorem KT.put{H:Hp}{kvs:List (List Key×V)}{xs:List (List Key×Addr×Value)}(r:KT H kvs xs)(k:List Key){b:Addr}{y:V}{u:Value}(hb:H b=some (.tup (k.map kV)))(ry:RelV y u):
 KT H (putK kvs k y) (storedH xs k b u):=by
 have e:(kvs.any λkv=>decide (kv.1=k))=(atKey xs k).isSome:=by
  rw[EF,(r.val k).isSome_eq,Option.isSome_map]
 unfold putK storedH;rw[e]
 by_cases q:(atKey xs k).isSome=true
 ·rw[if_pos q,if_pos q];exact r.repl k ry
 ·rw[if_neg q,if_neg q];exact Paired.snoc r ⟨rfl,hb,ry⟩
theorem KT.keeps{H H':Hp}{kvs:List (List Key×V)}{xs:List (List Key×Addr×Value)}(r:KT H kvs xs)(ht:∀b ys,H b=some (.tup ys)->H' b=some (.tup ys)):KT H' kvs xs:=
 Paired.mapP r λ_ _ z=>⟨z.1,ht _ _ z.2.1,z.2.2⟩
section
variable{P:Program}{w:World}{H:Hp}{h:Heap}{a:Addr}
theorem K2{u:HO}(ok:HOk P w H h)(e:Rd H a u):ObjOk P w H h a u:=e.ok ok
theorem DM{kvs:List (Key×V)}(ok:HOk P w H h)(e:Rd H a (.dK kvs)):kvs.length<=sizeLine/\(a==sysModules)=false/\∃vs,KV kvs vs/\h.DictOf (Au P w) a vs:=
 show ObjOk P w H h a (.dK kvs)from K2 ok e
theorem LL{kvs:List (Key×V)}(ok:HOk P w H h)(e:H a=some (.dK kvs)):kvs.length<=sizeLine/\(a==sysModules)=false/\∃vs,KV kvs vs/\h.DictOf (Au P w) a vs:=DM ok (.inl e)
theorem key_of{ks:List Key}(ok:HOk P w H h)(e:H a=some (.tup (ks.map kV))):(tupleKind (Au P w)).is h ks a:=by
 obtain⟨_,its,r,o,h1,h2,n,h3⟩:=(show ObjOk P w H h a (.tup (ks.map kV))from ok a _ e);exact⟨o,its.toArray,n,h1,h2,h3,by simpa using Hu r⟩
theorem Dw{kvs:List (List Key×V)}(ok:HOk P w H h)(e:Rd H a (.dT kvs)):kvs.length<=sizeLine/\(a==sysModules)=false/\
 ∃xs,KT H kvs xs/\h.DictOfH (tupleKind (Au P w)) a xs:=by
 obtain⟨z,y,xs,r,o,es,ep,h1,h2,h3,h4,h5⟩:=(show ObjOk P w H h a (.dT kvs)from K2 ok e);refine⟨z,y,xs,r,o,es,ep,h1,h2,h3,h4,λx hx=>?_,h5⟩;have all:∀ {l:List (List Key×V)} {m:List (List Key×Addr×Value)},KT H l m->∀x∈m,(tupleKind (Au P w)).is h x.1 x.2.1:=by
  intro l m q
  induction q with
  |nil=>intro x hx;exact nomatch hx
  | @cons p q ps qs hq t ih=>
    intro x hx;rcases List.mem_cons.mp hx with e|hx
    ·subst e;exact key_of ok (by rw[<-hq.1];exact hq.2.1)
    ·exact ih x hx
 exact all r x hx
theorem VH{kvs:List (List Key×V)}(ok:HOk P w H h)(e:H a=some (.dT kvs)):kvs.length<=sizeLine/\(a==sysModules)=false/\
 ∃xs,KT H kvs xs/\h.DictOfH (tupleKind (Au P w)) a xs:=Dw ok (.inl e)
end
def DGet(H:Hp)(a:Addr)(y:V)(r:Option V):Prop:=
 (∃kvs k,Rd H a (.dK kvs)/\y=kV k/\r=AR kvs k)\/∃kvs k b,Rd H a (.dT kvs)/\y= .ref b/\H b=some (.tup (k.map kV))/\r=AR kvs k
def DPut(H:Hp)(a:Addr)(y v:V)(H':Hp):Prop:=
 (∃kvs k,H a=some (.dK kvs)/\y=kV k/\kvs.length<sizeLine/\H'=upd H a (.dK (putK kvs k v)))\/
 ∃kvs k b,H a=some (.dT kvs)/\y= .ref b/\H b=some (.tup (k.map kV))/\kvs.length<sizeLine/\H'=upd H a (.dT (putK kvs k v))
theorem DGet.k{H:Hp}{a:Addr}{kvs:List (Key×V)}{k:Key}(e:H a=some (.dK kvs)):DGet H a (kV k) (AR kvs k):= .inl ⟨kvs,k, .inl e,rfl,rfl⟩
theorem DPut.k{H:Hp}{a:Addr}{kvs:List (Key×V)}{k:Key}{v:V}(e:H a=some (.dK kvs))(hl:kvs.length<sizeLine):DPut H a (kV k) v (upd H a (.dK (putK kvs k v))):= .inl ⟨kvs,k,e,rfl,hl,rfl⟩
section
variable{X:Cx}{pins:List (Addr×Obj)}{σ:St}{H:Hp}{s:Shared}{a:Addr}{y v:V}{u r:Value}{o:Option V}{A:Around}{E:Value->Shared->Prop}
theorem Inv.big(I:Inv X pins σ H s):sysModules<s.heap.objs.size:=by
 have h:mainGlobals<s.heap.objs.size:=(I.mod.glob.keeps I.bk).lt;exact Nat.lt_trans (by decide) h
theorem O4{Q:Value->Shared->Prop}(hu:A.units+1<cLine)(I:Inv X pins σ H s)(g:DGet H a y (some v))(ry:RelV y u)(h:∀w' s',Inv X pins σ H s'->RelV v w'->Q w' s'):
 wpAny (model X.prog X.w) A (getItem (.ref a) u) Q E s:=by
 rcases g with⟨kvs,k,e,ey,l⟩|⟨kvs,k,b,e,ey,eb,l⟩
 ·subst ey;obtain⟨z,hd,vs,rel,dd⟩:=DM I.hok e;obtain⟨w',hw,rw'⟩:=RelO.some_of (v:=v) (o:=valueAt vs k) (by rw[l];exact rel.val k);exact wpAny_getItem_of (C0 ry) dd.mapOf hw (h w' _ (I.tok _) rw')
 ·subst ey
  cases(show u=Value.ref b from ry)
  obtain⟨z,hd,xs,rel,dd⟩:=Dw I.hok e;obtain⟨w',hw,rw'⟩:=RelO.some_of (v:=v) (o:=(atKey xs k).map (·.2)) (by rw[l];exact rel.val k);obtain⟨p,hp,hp2⟩:=Option.map_eq_some_iff.mp hw;refine wpAny_getItem_heap (tupleKind_room_in1 hu) (key_of I.hok eb) dd hp ?_;rw[hp2];exact h w' _ (I.tok _) rw'
theorem Rr{Q:Value->Shared->Prop}(hu:A.units+1<cLine)(I:Inv X pins σ H s)(g:DGet H a y o)(ry:RelV y u)(h:∀s',Inv X pins σ H s'->Q (.bool (!o.isSome)) s'):
 wpAny (model X.prog X.w) A (compareOp .NotIn u (.ref a)) Q E s:=by
 rcases g with⟨kvs,k,e,ey,l⟩|⟨kvs,k,b,e,ey,eb,l⟩
 ·subst ey;obtain⟨z,hd,vs,rel,dd⟩:=DM I.hok e;refine wpAny_notIn_of (C0 ry) hd dd.mapOf ?_;rw[<-(rel.val k).isSome_eq,<-l];exact h _ (I.tok _)
 ·subst ey
  cases(show u=Value.ref b from ry)
  obtain⟨z,hd,xs,rel,dd⟩:=Dw I.hok e;refine wpAny_notIn_heap (tupleKind_room_in1 hu) (key_of I.hok eb) hd dd ?_;have q:=(rel.val k).isSome_eq;rw[Option.isSome_map]at q;rw[<-q,<-l];exact h _ (I.tok _)
theorem Fo{h':Heap}{t':Nat}{ob:HO}(I:Inv X pins σ H s)(mu:Mut (H a))(hs:Heap.SameBut a s.heap h')(he:∃q,h'.get? a=some q)(new:ObjOk X.prog X.w (upd H a ob) h' a ob):
 Inv X pins σ (upd H a ob) {s with heap:=h',toks:=t'}:=
 I.write (x:=a) (e:=a) mu (.inl rfl) (λb q hb z=>(hs.2 b hb).trans z) he new
theorem Kh{P:Program}{w:World}{H':Hp}{h':Heap}{kvs:List (Key×V)}{vs:List (Key×Value)}(z:kvs.length<=sizeLine)(hd:(a==sysModules)=false)(rel:KV kvs vs)(dd:h'.DictOf (Au P w) a vs):
 ObjOk P w H' h' a (.dK kvs):=⟨z,hd,vs,rel,dd⟩
theorem O3{H':Hp}{Q:Unit->Shared->Prop}(hu:A.units+1<cLine)(I:Inv X pins σ H s)(g:DPut H a y v H')(ry:RelV y u)(rv:RelV v r)(h:∀s',Inv X pins σ H' s'->Q () s'):
 wpAny (model X.prog X.w) A (setItem (.ref a) u r) Q E s:=by
 rcases g with⟨kvs,k,e,ey,l,eH⟩|⟨kvs,k,b,e,ey,eb,l,eH⟩
 ·subst ey eH;obtain⟨z,hd,vs,rel,dd⟩:=LL I.hok e;have hz:vs.length<=sizeLine:=by rw[<-rel.length];exact z
  have hl:(putK kvs k v).length<=sizeLine:=by have:=Ey kvs k v;lia
  refine wpAny_setItem_pairs (hsz:=hz) (C0 ry) dd λh' dd' hs=>h _ ?_;have he:∃q,h'.get? a=some q:=let⟨q,_,_,hq,_⟩:=dd';⟨q,hq⟩;exact Fo I (by rw[e];exact True.intro) hs he (Kh hl hd (rel.put k rv) dd')
 ·subst ey eH
  cases(show u=Value.ref b from ry)
  obtain⟨z,hd,xs,rel,dd⟩:=VH I.hok e;have hz:xs.length<=sizeLine:=by rw[<-Paired.length rel];exact z
  have hl:(putK kvs k v).length<=sizeLine:=by have:=Ey kvs k v;lia
  refine wpAny_setItem_heap (hsz:=hz) (tupleKind_room_in1 hu) (key_of I.hok eb) dd λh' dd' hs=>h _ ?_;obtain⟨q,es,ep,hq,h2,h3,h4,_,h5⟩:=dd';refine Fo I (by rw[e];exact True.intro) hs ⟨q,hq⟩ ⟨hl,hd,_,(rel.put k eb rv).keeps λc ys ec=>?_,q,es,ep,hq,h2,h3,h4,h5⟩;rw[AG (VB ec e (λz=>nomatch z))];exact ec
end
section
variable{X:Cx}{pins:List (Addr×Obj)}{σ:St}{H:Hp}{s:Shared}{a:Addr}{kvs:List (Key×V)}{k:Key}{u:Value}{A:Around}{E:Value->Shared->Prop}
theorem VJ{v:V}{more:List Value}{Q:Value->Shared->Prop}(I:Inv X pins σ H s)(e:H a=some (.dK kvs))(ry:RelV (kV k) u)(l:AR kvs k=some v)(hm:more=[]\/∃x,more=[x])
 (h:∀w' s',Inv X pins σ (upd H a (.dK (Cc kvs k))) s'->RelV v w'->Q w' s'):wpAny (model X.prog X.w) A (call (.builtin "dict.pop") (.ref a::u::more)) Q E s:=by
 obtain⟨z,hd,vs,rel,dd⟩:=LL I.hok e;obtain⟨w',hw,rw'⟩:=RelO.some_of (v:=v) (o:=valueAt vs k) (by rw[<-l];exact rel.val k);have hp:(keyPart u).isSome=true:=by
  cases k with
  |inl i=>obtain⟨t,q⟩:=(show∃t,u=Value.int i t from ry);subst q;rfl
  |inr x=>obtain⟨t,q⟩:=(show∃t,u=Value.str x t from ry);subst q;rfl
 have ha:argsOk "dict.pop" ⟨.ref a::u::more,[]⟩:=by
  rcases hm with q|⟨x,q⟩
  ·subst q;exact PySem.F.args_dict_pop_2 _ _
  ·subst q;exact PySem.F.args_dict_pop_3 _ _ _
 refine call_meetsIn PySem.F.slot_dict_pop dd.typeIs PySem.F.entry_dict_pop ha (meets_dict_pop_there (Au X.prog X.w) a (C0 ry) more hm hp)
  ⟨vs,w',dd,by rw[<-rel.length];exact z,hw,λh' dd' hs=>h w' _ ?_ rw'⟩
 have he:∃q,h'.get? a=some q:=let⟨q,_,_,hq,_⟩:=dd';⟨q,hq⟩;exact Fo I (by rw[e];exact True.intro) hs he (Kh (Nat.le_trans (QR kvs k) z) hd (rel.drop k) dd')
end
def D8(i:Expr):Prop:=∀ov iv,subscripted i false ov iv=operate [ov,iv] (getItem ov iv)
theorem JO{prog:Program}{w:World}{A:Around}{E:Value->Shared->Prop}{s:Shared}{env:Env}{value slice:Expr}{pos:Pos}{T id:String}{Q:Value->Shared->Prop}
 (hl:typeLookup (.type T) "__getitem__"=pure (some (.builtin id))) (hs:D8 slice)
 (h:wpAny (model prog w) A (eval value env) (λo s₁=>wpAny (model prog w) A (eval slice env) (λi s₂=>s₂.TypeIs o T/\wpAny (model prog w) A (getItem o i) Q E s₂) E s₁) E s):
 wpAny (model prog w) A (eval (.Subscript value slice pos) env) Q E s:=by
 refine Subscript_ (wpAny_mono h (λo s₁ h₁=>wpAny_mono h₁ (λi s₂ h₂=>?_) λ_ _ x=>x) λ_ _ x=>x);obtain⟨hT,h₂⟩:=h₂;unfold subscriptTail;refine wpAny_bind ?_;rw[getitemInPython_of_ne hT.not_modules];refine wpAny_bind (wpAny_specialOf hT hl ?_);have fin:wpAny (model prog w) A (subscripted slice false o i) (λr s₃=>wpAny (model prog w) A (letTemporaryGo value o r>>=λ_=>pure r) Q E s₃) E s₂:=by
  rw[hs o i];exact wpAny_operating (wpAny_mono h₂ (λr s₃ h₃=>wpAny_bind (wpAny_letTemporaryGo (wpAny_pure h₃))) λ_ _ x=>x)
 first
  |exact wpAny_pure (wpAny_bind fin)
  |exact wpAny_bind (wpAny_pure (wpAny_bind fin))
  |exact wpAny_bind fin
theorem NT{X:Cx}{pins:List (Addr×Obj)}{σ:St}{H:Hp}{s:Shared}{a:Addr}{y:V}{o:Option V}(I:Inv X pins σ H s)(g:DGet H a y o):s.TypeIs (.ref a) "dict":=by
 rcases g with⟨kvs,k,e,_,_⟩|⟨kvs,k,b,e,_,_,_⟩
 ·obtain⟨_,_,vs,_,dd⟩:=DM I.hok e;exact dd.typeIs
 ·obtain⟨_,_,xs,_,dd⟩:=Dw I.hok e;exact dd.typeIs
def GJ(td ty:TE):TE:=λσ H Q=>td σ H λx H1=>ty σ H1 λy H2=>∃a v,x= .ref a/\DGet H2 a y (some v)/\Q v H2
def JM(ty td:TE):TE:=λσ H Q=>ty σ H λy H1=>td σ H1 λx H2=>∃a o,x= .ref a/\DGet H2 a y o/\Q (.bl (!o.isSome)) H2
def K1(td ty tv:TE):TS:=λD σ H=>tv σ H λv H1=>td σ H1 λx H2=>ty σ H2 λy H3=>∃a H4,x= .ref a/\DPut H3 a y v H4/\D.nx σ H4
section
variable{X:Cx}{o i e value:Expr}{pos pos' tpos:Pos}{td ty tv:TE}
theorem RT(hu:X.A.units+1<cLine)(ho:PE X o td)(hi:PE X i ty)(hs:D8 i):PE X (.Subscript o i pos) (GJ td ty):=by
 intro pins s σ H Q I h;refine JO PySem.F.slot_dict_getitem.lookup hs (thn (ho pins s σ H _ I h) λu s1 ⟨x,H1,I1,rx,q1⟩=>thn (hi pins s1 σ H1 _ I1 q1) λiv s2 z_=>?_);obtain⟨y,H2,I2,ry,a,v,ex,g,q2⟩:=z_;subst ex;obtain rfl:u=Value.ref a:=rx;exact⟨NT I2 g,O4 hu I2 g ry λw' s3 I3 rw'=>⟨v,H2,I3,rw',q2⟩⟩
theorem OP(hu:X.A.units+1<cLine)(hi:PE X i ty)(ho:PE X o td):PC X .NotIn i o (JM ty td):=by
 intro pins s σ H Q I h;refine thn (hi pins s σ H _ I h) λiv s1 ⟨y,H1,I1,ry,q1⟩=>thn (ho pins s1 σ H1 _ I1 q1) λu s2 z_=>?_;obtain⟨x,H2,I2,rx,a,ov,ex,g,q2⟩:=z_;subst ex;obtain rfl:u=Value.ref a:=rx;exact Rr hu I2 g ry λs3 I3=>⟨.bl (!ov.isSome),H2,I3,rfl,q2⟩
theorem Fe(hu:X.A.units+1<cLine)(ho:PE X o td)(hi:PE X i ty)(hv:PE X value tv)(hs:swapsWith value (some (.Subscript o i pos')) pos.line X.env=pure false):
 PS X (.Assign [.Subscript o i pos'] value pos) (K1 td ty tv):=by
 intro pins s σ H D I h;refine wpAny_Assign_Subscript (thn (hv pins s σ H _ I h) λr s1 ⟨v,H1,I1,rv,q1⟩=>thn (ho pins s1 σ H1 _ I1 q1) λu s2 ⟨x,H2,I2,rx,q2⟩=>thn (hi pins s2 σ H2 _ I2 q2) λiv s3 ⟨y,H3,I3,ry,a,H4,ex,g,q3⟩=>?_) hs;subst ex;obtain rfl:u=Value.ref a:=rx;exact O3 hu I3 g ry rv λs4 I4=>⟨σ,H4,I4,q3⟩
end
theorem QS{P:Program}{w:World}{H:Hp}(h:Heap)(hb:sysModules<h.objs.size):ObjOk P w H (h.push {cls:= .type "dict",data:= .dict #[]}) h.objs.size (.dK []):=
 ⟨Nat.zero_le _,beq_eq_false_iff_ne.mpr (Ne.symm (Nat.ne_of_lt hb)),[], .nil,Heap.DictOf.new h⟩
def tDNewK:TE:=λ_ H Q=>∀p,H p=none->Q (.ref p) (upd H p (.dK []))
section
variable{X:Cx}{pos:Pos}
theorem FP:PE X (.Dict [] [] pos) tDNewK:=λpins s σ H Q I h=>
 wpAny_Dict_empty ⟨.ref s.heap.objs.size,_,I.laid (a:=s.heap.objs.size) (o:= .dK []) (t':=s.toks) (λ_ _ q=>Heap.get?_push_of_some _ q) (Nat.le_refl _) (QS s.heap I.big),rfl,h _ (I.hok.fresh (Nat.le_refl _))⟩
end
structure M1 (X:Cx) (o:Expr) (m:Str) (apos:Pos) (e:Expr) (cpos:Pos):Prop where
 base:attributeBase o m X.env (eval o X.env)=eval o X.env
 few:((backTo cpos (starEach [e] X.env)).all (λx=> !x.1)&&(backToKw cpos (keywordEach [] X.env)).all (λx=>x.1.isSome)
  &&decide (([e]:List Expr).length+([]:List Keyword).length+(if([]:List Keyword).isEmpty then 0 else 1)<30))=true
 line:(apos.endLine==cpos.line)=true
 trees:backTo cpos (starEach [e] X.env)=[(false,eval e X.env)]
def IsD(H:Hp)(a:Addr):Prop:=(∃kvs,Rd H a (.dK kvs))\/∃kvs,Rd H a (.dT kvs)
theorem UC{X:Cx}{pins:List (Addr×Obj)}{σ:St}{H:Hp}{s:Shared}{a:Addr}(I:Inv X pins σ H s)(d:IsD H a):
 s.TypeIs (.ref a) "dict"/\(∀b,Value.ref a= .ref b->∃ob,s.heap.get? b=some ob/\ob.dict=none)/\(a==sysModules)=false:=by
 rcases d with⟨kvs,e⟩|⟨kvs,e⟩
 ·obtain⟨_,hd,vs,_,dd⟩:=DM I.hok e;refine⟨dd.typeIs,λb q=>?_,hd⟩
  cases q
  obtain⟨ob,_,_,h1,h2,_⟩:=dd;exact⟨ob,h1,h2.2.1⟩
 ·obtain⟨_,hd,xs,_,dd⟩:=Dw I.hok e;refine⟨dd.typeIs,λb q=>?_,hd⟩
  cases q
  obtain⟨ob,_,_,h1,h2,_⟩:=dd;exact⟨ob,h1,h2.2.1⟩
section
variable{X:Cx}{pins:List (Addr×Obj)}{σ:St}{H:Hp}{s:Shared}{a:Addr}{y d:V}{u r:Value}{o:Option V}{A:Around}{E:Value->Shared->Prop}
end
def KJ(td ty:TE):TE:=λσ H Q=>td σ H λx H1=>∃a,x= .ref a/\IsD H1 a/\ty σ H1 λy H2=>∃kvs k v,H2 a=some (.dK kvs)/\y=kV k/\AR kvs k=some v/\Q v (upd H2 a (.dK (Cc kvs k)))
section
variable{X:Cx}{o e f:Expr}{apos cpos:Pos}{td ty tx:TE}
theorem Pz(ho:PE X o td)(he:PE X e ty)(m:M1 X o "pop" apos e cpos):PE X (.Call (.Attribute o "pop" apos) [e] [] cpos) (KJ td ty):=by
 intro pins s σ H Q I h;refine wpAny_Call_method m.base m.few m.line PySem.F.plainAttrs_dict PySem.F.slot_dict_pop PySem.F.type_dict_pop (thn (ho pins s σ H _ I h) λu s1 z_=>?_);obtain⟨x,H1,I1,rx,a,ex,d,q1⟩:=z_;subst ex;obtain rfl:u=Value.ref a:=rx;obtain⟨t1,t2,_⟩:=UC I1 d;refine⟨t1,t2,?_⟩;rw[m.trees];refine Calls.callWith_builtin rfl (Calls.evalArgs_plain (Calls.spliced_cons (thn (he pins s1 σ H1 _ I1 q1) λiv s2 ⟨y,H2,I2,ry,kvs,k,v,ea,ey,l,q2⟩=>Calls.spliced_nil ?_)));subst ey;exact VJ I2 ea ry l (.inl rfl) λw' s3 I3 rw'=>⟨v,_,I3,rw',q2⟩
end
section
variable{X:Cx}{pins:List (Addr×Obj)}{σ:St}{H:Hp}{s:Shared}{a:Addr}{kvs:List (Key×V)}{A:Around}{E:Value->Shared->Prop}
end
section
variable{X:Cx}{pins:List (Addr×Obj)}{σ:St}{H:Hp}{s:Shared}{a:Addr}{y:V}{u:Value}{A:Around}{E:Value->Shared->Prop}
end
section
variable{κ:Type}[DecidableEq κ]
end
section
variable{X:Cx}
def R5(i:Nat)(G:Addr->Prop)(spOf:Addr->Sp)(R:XR)(t:TA):TE:=λσ H Q=>∃f,σ[i]? =some (some (.ref f))/\G f/\t σ H λvs H1=>spOf f vs H1 Q (xk R σ)
theorem RS(i:Nat){k:Nat}{x:Str}{ps:List Str}{G:Addr->Prop}{spOf:Addr->Sp}{R:XR}{e:Expr}{es:List Expr}{t:TA}{p pos:Pos}
 (U:∀f,G f->∃fd,FnOk X.prog X.w X.K X.mg X.base (CXE X.prog X.w) k f fd ps (spOf f)/\W.keepIn X.K (.ref f)=true/\Binds X.K fd ps []) (hr:Room k X.A) (hx:∀e s',XF X R e s'->X.xe e s') (ha:PA X (e::es) t)
 (hN:X.N[i]? =some x:=by rfl) (hv:Vis X.env.scope x:=by first|exact Or.inl rfl|exact Or.inr (Or.inl rfl)|exact Or.inr (Or.inr rfl)) (hd:(x==("__debug__":Str))=false:=by decide) (hcd:(x==("__classdict__":Str))=false:=by decide)
 (he:starEach (e::es) X.env=(false,eval e X.env)::starEach es X.env:=by rfl) (hpl:(backTo pos (starEach es X.env)).any (·.1)=false:=by rfl):
 PE X (.Call (.Name x p) (e::es) [] pos) (R5 i G spOf R t):=by
 intro pins s σ H Q I h;obtain⟨f,ef,hf,h⟩:=h;obtain⟨fd,F,hk,hb⟩:=U f hf;refine wpAny_Call_Name_kw (thn (KU hN hv hd hcd pins s σ H (λv H'=>v= .ref f/\H'=H) I ⟨.ref f,ef,rfl,rfl⟩) λu s0 z_=>?_);obtain⟨v,H0,I0,r0,ev,eH⟩:=z_;subst ev eH;obtain rfl:u=Value.ref f:=r0;refine W.callWith_K (h₀:=X.base) I0.ok.mod.kin hk (thn (ha pos pins s0 σ _ _ I0 h) λus s1 ⟨vs,H1,I1,r,q⟩=>⟨I1.kIn,?_⟩) he hpl;have hl:us.length=ps.length:=by rw[<-r.length];exact F.len _ _ _ _ q
 refine wpAny_call (codeAny_mono (F.run X.A X.stack s1 H1 ⟨us,[]⟩ us vs Q (xk R σ) hr I1.env0 ?_ r q) λres s' hq=>?_)
 ·have z:=hb s1 us I1.kIn (by rw[List.append_nil];exact hl);rw[List.append_nil]at z;exact z
 ·cases res with
  |error ev=>exact hx _ _ ⟨pins,σ,H1,s1,I1,hq⟩
  |ok fl=>
   cases fl with
   |ret u=>exact I1.after hq
   |next=>exact False.elim hq
   |brk=>exact False.elim hq
   |cont=>exact False.elim hq
def FDc(P:Program)(w:World)(K:W.Frag)(a:Addr)(kvs:List (Key×V)):Prop:=∃ (o:Obj) (es:Array DictEntry) (ep:Nat) (vs:List (Key×Value)),KV kvs vs/\K.lookup a=some o/\o.ExactDict/\o.data=Data.dict es ep/\KeysOf (Au P w) es/\Pairs (Au P w) es.toList vs/\(vs.map λx=>x.1).Nodup/\(a==sysModules)=false
theorem FDc.of{pins:List (Addr×Obj)}{σ:St}{H:Hp}{s:Shared}{a:Addr}{kvs:List (Key×V)}(h:FDc X.prog X.w X.K a kvs)(I:Inv X pins σ H s):(a==sysModules)=false/\∃vs,KV kvs vs/\s.heap.DictOf (Au X.prog X.w) a vs:=by
 obtain⟨o,es,ep,vs,r,lk,ex,hd,hk,hp,nd,ns⟩:=h;exact⟨ns,vs,r,o,es,ep,I.kIn _ _ lk,ex,hd,hk,hp,nd⟩
def Fu(P:Program)(w:World)(K:W.Frag)(td ty:TE):TE:=λσ H Q=>td σ H λx H1=>ty σ H1 λy H2=>∃a kvs k v,x= .ref a/\FDc P w K a kvs/\y=kV k/\AR kvs k=some v/\Q v H2
theorem P0{o i:Expr}{td ty:TE}{pos:Pos}(P:Program)(w:World)(K:W.Frag)(ho:PE X o td)(hi:PE X i ty)(hs:D8 i)(hP:X.prog=P:=by rfl)(hw:X.w=w:=by rfl)(hK:X.K=K:=by rfl):PE X (.Subscript o i pos) (Fu P w K td ty):=by
 subst hP hw hK;intro pins s σ H Q I h;refine JO PySem.F.slot_dict_getitem.lookup hs (thn (ho pins s σ H _ I h) λu s1 ⟨x,H1,I1,rx,q1⟩=>thn (hi pins s1 σ H1 _ I1 q1) λiv s2 z_=>?_);obtain⟨y,H2,I2,ry,a,kvs,k,v,ex,f,ey,l,q2⟩:=z_;subst ex ey;obtain rfl:u=Value.ref a:=rx;obtain⟨_,vs,rel,dd⟩:=f.of I2;obtain⟨w',hw,rw'⟩:=RelO.some_of (v:=v) (o:=valueAt vs k) (by rw[<-l];exact rel.val k);exact⟨dd.typeIs,wpAny_getItem_of (C0 ry) dd.mapOf hw ⟨v,H2,I2.tok _,rw',q2⟩⟩
def IU(P:Program)(w:World)(K:W.Frag)(ty td:TE):TE:=λσ H Q=>ty σ H λy H1=>td σ H1 λx H2=>∃a kvs k,x= .ref a/\FDc P w K a kvs/\y=kV k/\Q (.bl (!(AR kvs k).isSome)) H2
theorem Nl{o i:Expr}{td ty:TE}(P:Program)(w:World)(K:W.Frag)(hi:PE X i ty)(ho:PE X o td)(hP:X.prog=P:=by rfl)(hw:X.w=w:=by rfl)(hK:X.K=K:=by rfl):PC X .NotIn i o (IU P w K ty td):=by
 subst hP hw hK;intro pins s σ H Q I h;refine thn (hi pins s σ H _ I h) λiv s1 ⟨y,H1,I1,ry,q1⟩=>thn (ho pins s1 σ H1 _ I1 q1) λu s2 z_=>?_;obtain⟨x,H2,I2,rx,a,kvs,k,ex,f,ey,q2⟩:=z_;subst ex ey;obtain rfl:u=Value.ref a:=rx;obtain⟨ns,vs,rel,dd⟩:=f.of I2;refine wpAny_notIn_of (C0 ry) ns dd.mapOf ?_;rw[<-(rel.val k).isSome_eq];exact⟨.bl _,H2,I2.tok _,rfl,q2⟩
def DO(w:World)(x:Str×Tok×Value):DictEntry:=⟨PyData.keyHash w.params x.1, .str x.1 x.2.1,x.2.2⟩
theorem Hx{P:Program}{w:World}:∀l:List (Str×Tok×Value),Pairs (Au P w) (l.map (DO w)) (l.map λx=>((.inr x.1:Key),x.2.2))
 |[]=> .nil
 |x::l=> .cons (FA x.1 x.2.1) rfl (Hx l)
theorem Ke:∀ {l:List (Str×Tok×Value)} {vs:List V},Paired RelV vs (l.map λx=>x.2.2)->KV ((l.map λx=>(.inr x.1:Key)).zip vs) (l.map λx=>((.inr x.1:Key),x.2.2))
 |[],[],_=> .nil
 |[],_::_,h=>by cases h
 |x::l,[],h=>by cases h
 |x::l,v::vs,h=>by
  cases h with
  |cons a b=>exact .cons ⟨rfl,a⟩ (Ke b)
theorem UF{P:Program}{w:World}{K:W.Frag}{a:Addr}{o:Obj}{ep:Nat}(l:List (Str×Tok×Value)){vs:List V}(lk:K.lookup a=some o)(ex:o.ExactDict)(dt:o.data= .dict (l.map (DO w)).toArray ep)(hr:Paired RelV vs (l.map λx=>x.2.2))(nd:(l.map λx=>x.1).Nodup)(ns:(a==sysModules)=false):
 FDc P w K a ((l.map λx=>(.inr x.1:Key)).zip vs):=by
 refine⟨o,_,ep,_,Ke hr,lk,ex,dt,λe he=>?_,by simpa using Hx l,?_,ns⟩
 ·have he':e∈l.map (DO w):=by simpa using he
  obtain⟨x,hx,rfl⟩:=List.mem_map.mp he';exact⟨.inr x.1,FA x.1 x.2.1,rfl⟩
 ·rw[List.map_map];have:(l.map ((λx=>x.1)∘λx:Str×Tok×Value=>((.inr x.1:Key),x.2.2)))=(l.map λx=>x.1).map Sum.inr:=by rw[List.map_map];rfl
  rw[this];exact List.Pairwise.map _ (λa b h z=>h (Sum.inr.inj z)) nd
end
theorem FW:∀ (names:List (Str×NameKind)) (h:Heap) (acc:List (Str×Addr)) (x:Str) (c:Addr),(cellsFrom h.objs.size names acc).lookup x=some c->
 ((x,NameKind.cell)∈names/\h.objs.size<=c/\(pushCells h names).IsCell c none)\/acc.lookup x=some c
 |[],_,_,_,_,e=> .inr e
 |(nm,k)::r,h,acc,x,c,e=>by
  unfold cellsFrom at e;unfold pushCells
  by_cases hk:(k==NameKind.cell)=true
  ·rw[if_pos hk]at e⊢;rw[<-Heap.size_push h {cls:= .type "cell",data:= .cell none}]at e;rcases FW r _ _ x c e with⟨a,b,d⟩|q
   ·refine .inl ⟨List.mem_cons_of_mem _ a,?_,d⟩;rw[Heap.size_push]at b;lia
   ·rw[List.lookup_cons]at q
    cases hx:x==nm with
    |true=>
     rw[hx]at q
     cases q
     have e1:=eq_of_beq hx;have e2:k= .cell:=by simpa using hk
     subst e1;subst e2;exact .inl ⟨List.mem_cons_self,Nat.le_refl _,⟨_,pushCells_keeps _ _ _ _ (Heap.get?_push_size _ rfl),rfl⟩⟩
    |false=>rw[hx]at q;exact .inr q
  ·rw[if_neg hk]at e⊢;rcases FW r h acc x c e with⟨a,b,d⟩|q
   ·exact .inl ⟨List.mem_cons_of_mem _ a,b,d⟩
   ·exact .inr q
theorem Ds:∀ (names:List (Str×NameKind)) (n:Nat) (acc:List (Str×Addr)) (x:Str),(x,NameKind.cell)∉names->(cellsFrom n names acc).lookup x=acc.lookup x
 |[],_,_,_,_=>rfl
 |(nm,k)::r,n,acc,x,hx=>by
  unfold cellsFrom;have hr:(x,NameKind.cell)∉r:=λz=>hx (List.mem_cons_of_mem _ z)
  by_cases hk:(k==NameKind.cell)=true
  ·rw[if_pos hk,Ds r _ _ x hr,List.lookup_cons];have:(x==nm)=false:=by
    cases q:x==nm with
    |false=>rfl
    |true=>
     have e1:=eq_of_beq q;have e2:k= .cell:=by simpa using hk
     subst e1;subst e2;exact absurd List.mem_cons_self hx
   rw[this]
  ·rw[if_neg hk];exact Ds r n acc x hr
theorem GE:∀ (names:List (Str×NameKind)) (n:Nat) (acc:List (Str×Addr)) (x:Str),((x,NameKind.cell)∈names\/∃c,acc.lookup x=some c/\n<=c)->∃c,(cellsFrom n names acc).lookup x=some c/\n<=c
 |[],n,acc,x,h=>by
  rcases h with z|z
  ·cases z
  ·exact z
 |(nm,k)::r,n,acc,x,h=>by
  unfold cellsFrom
  by_cases hk:(k==NameKind.cell)=true
  ·rw[if_pos hk]
   by_cases hr:(x,NameKind.cell)∈r
   ·obtain⟨c,e,l⟩:=GE r (n+1) ((nm,n)::acc) x (.inl hr);exact⟨c,e,by lia⟩
   ·rw[Ds r _ _ x hr,List.lookup_cons]
    cases hx:x==nm with
    |true=>exact⟨n,rfl,Nat.le_refl _⟩
    |false=>
     rcases h with z|z
     ·rcases List.mem_cons.mp z with q|q
      ·cases q;simp at hx
      ·exact absurd q hr
     ·exact z
  ·rw[if_neg hk];refine GE r n acc x ?_;rcases h with z|z
   ·rcases List.mem_cons.mp z with q|q
    ·cases q;exact absurd rfl hk
    ·exact .inl q
   ·exact .inr z
theorem GF:∀ (names:List (Str×NameKind)) (n:Nat) (acc:List (Str×Addr)),(∀x y c,acc.lookup x=some c->acc.lookup y=some c->x=y)->(∀x c,acc.lookup x=some c->c<n)->
 ∀x y c,(cellsFrom n names acc).lookup x=some c->(cellsFrom n names acc).lookup y=some c->x=y
 |[],_,_,h,_=>h
 |(nm,k)::r,n,acc,h,hb=>by
  unfold cellsFrom
  by_cases hk:(k==NameKind.cell)=true
  ·rw[if_pos hk];refine GF r (n+1) ((nm,n)::acc) (λx y c a b=>?_) λx c a=>?_
   ·rw[List.lookup_cons]at a b
    cases hx:x==nm<;>cases hy:y==nm<;>rw[hx]at a<;>rw[hy]at b
    ·exact h x y c a b
    ·cases b;exact absurd (hb x _ a) (Nat.lt_irrefl _)
    ·cases a;exact absurd (hb y _ b) (Nat.lt_irrefl _)
    ·rw[eq_of_beq hx,eq_of_beq hy]
   ·rw[List.lookup_cons]at a
    cases hx:x==nm<;>rw[hx]at a
    ·exact Nat.lt_succ_of_lt (hb x c a)
    ·cases a;exact Nat.lt_succ_self _
  ·rw[if_neg hk];exact GF r n acc h hb
theorem Qc{M:Model}{A:Around}{E:Value->Shared->Prop}{s:Shared}{scope:Scope}{cl:List (Str×Addr)}{env:Env}{Q:Env->Shared->Prop}
 (h:Q {scope:=scope,locals:=s.heap.objs.size,globals:=env.globals,cells:=cellsFrom (s.heap.objs.size+1) scope.names cl,qual:=env.qual,func:=none,code:=env.code,frame:=env.frame,builtins:=env.builtins}
   {s with heap:=pushCells (s.heap.push {cls:= .type "dict",data:= .dict #[]}) scope.names}):
 wpAny M A (newFunctionEnv scope env.globals cl [] env.qual none .none (some env)) Q E s:=by
 simp only[newFunctionEnv,Option.isSome_some,if_true];refine wpAny_bind (wpAny_alloc ?_);refine wpAny_bind (wpAny_layCells _ (λname kind cells=>by cases hkc:kind==NameKind.cell<;>simp[hkc]) _ _ _ _ ?_);rw[show({s with heap:=s.heap.push {cls:= .type "dict",data:= .dict #[]}}:Shared).heap.objs.size=s.heap.objs.size+1 from Heap.size_push ..];rw[List.forIn_nil];exact wpAny_bind (wpAny_pure (wpAny_pure h))
def Be(X:Cx)(own:List Str)(sel:List Nat)(scope:Scope)(cl:List (Str×Addr))(C:Addr)(s2:Shared)(H2:Hp)(fp:List Addr):Cx where
 prog:=X.prog
 w:=X.w
 K:=X.K
 mg:=X.mg
 base:=X.base
 A:=X.A
 N:=own++sel.map λj=>X.N.getD j Str.empty
 s₀:=s2
 H₀:=H2
 env:=compEnvC scope cl C X.env
 outer:=X.stack
 stack:=X.stack
 ex:=fp
 fn:=λx=>scope.names.lookup x==some .cell
 calm:=X.calm
 pn:=[]
 xe:=λ_ _=>False
structure CompOkC (osc:Scope) (N:List Str) (own:List Str) (sel:List Nat) (scope:Scope):Prop where
 kind:scope.kind= .function
 cell:∀y∈scope.names,y.2= .cell->scope.names.lookup y.1=some .cell
 names:∀y∈scope.names,y.2= .local->scope.names.lookup y.1=some .local
 free:∀y∈scope.names,y.2= .free->osc.names.lookup y.1=some .cell\/osc.names.lookup y.1=some .free
 seln:∀j∈sel,j<N.length/\scope.names.lookup (N.getD j Str.empty)=some .free/\(osc.names.lookup (N.getD j Str.empty)=some .cell\/osc.names.lookup (N.getD j Str.empty)=some .free)
section
variable{X:Cx}
theorem HX{elt tg iter:Expr}{ifs:List Expr}{scope:Scope}{pos:Pos}{own:List Str}{sel:List Nat}{wi:TI}{g:TG}{tt:TT}{te:TE}{use:Option (Value->Sem Unit)}{Qo:Value->Shared->Prop}
 (S:CompOkC X.env.scope X.N own sel scope) (hc:X.calm=true) (hi:PI X tg iter wi)
 (hg:∀cl C s2 H2 fp,PG (Be X own sel scope cl C s2 H2 fp) tg g) (hk:GK own.length g)
 (ht:∀cl C s2 H2 fp,PIf (Be X own sel scope cl C s2 H2 fp) ifs tt) (he:∀cl C s2 H2 fp,PE (Be X own sel scope cl C s2 H2 fp) elt te)
 (hs:∀x,foldedSetIterable iter X.env x=pure x) {pins:List (Addr×Obj)} {s:Shared} {σ:St} {H:Hp} {Q:VK} {ps:Pos} (I0:Inv X pins σ H s) (h:Ec own sel wi g tt te σ H Q)
 (fin:∀ (D C:Addr) (H':Hp) (s':Shared) (m:Str->Option Value),Inv X pins σ H' s'->s'.heap.Ns C m->Far X pins H' C->Q (.ref D) H'->compPost (model X.prog X.w) X.A X.xe use Qo (.ref D) C (.ok .next) s'):
 wpAny (model X.prog X.w) X.A (comprehension (.ListComp elt [⟨tg,iter,ifs,0⟩] scope pos) scope X.env ps (newList []) false (eval iter X.env) use) Qo X.xe s:=by
 obtain⟨cl0,hclos,hcl0,hfree0⟩:=KA (scope:=scope) (env:=X.env) λy hy e=>I0.ok.has y.1 (S.free y hy e);refine wpAny_comprehension_free (use:=use) rfl hs hclos S.kind S.names (thn (hi pins s σ H _ I0 h) λv s1 h1=>thn h1 λitv s2 h2=>?_);obtain⟨it,fp,tn,J,H2,e,I,T,st2,f2,h3⟩:=h2;subst e;clear h h1 I0;refine wpAny_newObj_type (Qc ?_)
 dsimp only
 generalize hP:s2.heap.push {cls:= .type "list",dict:=none,data:= .seq ([]:List Value).toArray}=P1;generalize hD:s2.heap.objs.size=D;generalize hC:P1.objs.size=C;have hCD:C=D+1:=by rw[<-hC,<-hP,Heap.size_push,hD]
 have hlt:D<C:=by rw[hCD];exact Nat.lt_succ_self D
 have hDC:D≠C:=Nat.ne_of_lt hlt;have neC:∀b:Addr,b<D->b≠C:=λb hb=>Nat.ne_of_lt (Nat.lt_trans hb hlt);have neD:∀b:Addr,b<D->b≠D:=λb hb=>Nat.ne_of_lt hb;have hsD:s2.heap.objs.size<=D:=Nat.le_of_eq hD;have hsC:s2.heap.objs.size<=C:=Nat.le_trans hsD (Nat.le_of_lt hlt);have fresh:∀a,D<=a->H2 a=none:=λa ha=>I.hok.fresh (by rw[hD];exact ha);have hnD:H2 D=none:=fresh D (Nat.le_refl _);have hnC:H2 C=none:=fresh C (Nat.le_of_lt hlt);have below:∀b o,s2.heap.get? b=some o->b<D:=λb o e=>by rw[<-hD];exact Heap.lt_size e
 generalize hh1:pushCells (P1.push {cls:= .type "dict",data:= .dict #[]}) scope.names=h1;have keepP:∀b o,P1.get? b=some o->h1.get? b=some o:=λb o e=>by rw[<-hh1];exact pushCells_keeps _ _ b o (Heap.get?_push_of_some _ e)
 have keep1:∀b o,s2.heap.get? b=some o->h1.get? b=some o:=λb o e=>keepP b o (hP▸Heap.get?_push_of_some _ e);have hns1:h1.Ns C (λ_=>none):=by rw[<-hh1,<-hC];exact(Heap.Ns.new P1 (.type "dict")).keeps (pushCells_keeps _ _)
 have gD:h1.get? D=some {cls:= .type "list",dict:=none,data:= .seq ([]:List Value).toArray}:=by
  refine keepP _ _ ?_;rw[<-hP,<-hD];exact Heap.get?_push_size _ rfl
 have szP:(P1.push {cls:= .type "dict",data:= .dict #[]}).objs.size=C+1:=by rw[Heap.size_push,hC]
 have hcb:∀x c,cl0.lookup x=some c->c<D:=λx c e=>by
  obtain⟨u,o,z,_⟩:=I.cell x c (hcl0 _ _ e);exact below c o z
 generalize hcs:cellsFrom (C+1) scope.names cl0=cl;have hsplit:∀x c,cl.lookup x=some c->((x,NameKind.cell)∈scope.names/\C+1<=c/\h1.IsCell c none)\/X.env.cells.lookup x=some c:=λx c e=>by
  rw[<-hcs,<-szP]at e;rcases FW _ _ _ x c e with⟨a,b,d⟩|q
  ·rw[szP]at b;rw[hh1]at d;exact .inl ⟨a,b,d⟩
  ·exact .inr (hcl0 _ _ q)
 have hinj:∀x y c,cl.lookup x=some c->cl.lookup y=some c->x=y:=by
  rw[<-hcs];exact GF _ _ _ (λx y c a b=>I.ok.inj x y c (hcl0 _ _ a) (hcl0 _ _ b)) λx c e=>Nat.lt_succ_of_lt (Nat.lt_trans (hcb x c e) hlt)
 have hcell:∀x,(x,NameKind.cell)∈scope.names->∃c,cl.lookup x=some c/\C+1<=c:=λx hx=>by rw[<-hcs];exact GE _ _ _ x (.inl hx)
 have hfree:∀y∈scope.names,y.2= .free->∃c,cl.lookup y.1=some c:=λy hy e=>by
  by_cases hm:(y.1,NameKind.cell)∈scope.names
  ·obtain⟨c,q,_⟩:=hcell _ hm;exact⟨c,q⟩
  ·rw[<-hcs,Ds _ _ _ _ hm];exact hfree0 y hy e
 have hold:∀x,scope.names.lookup x=some .free->∃c,cl.lookup x=some c/\X.env.cells.lookup x=some c:=λx hx=>by
  have hm:(x,NameKind.cell)∉scope.names:=λz=>by have:=S.cell _ z rfl;rw[hx]at this;cases this
  obtain⟨c,q⟩:=hfree0 _ (PySem.mem_of_lookup hx) rfl;exact⟨c,by rw[<-hcs,Ds _ _ _ _ hm];exact q,hcl0 _ _ q⟩
 obtain⟨W,⟨m0,w0⟩,turn⟩:=h3 D hnD;have fpb:∀b∈fp,b<D:=λb hb=>by obtain⟨o,e,_⟩:=T.obj _ _ st2 b hb;exact below b o e
 generalize hY:Be X own sel scope cl C s2 H2 fp=Y;have hg:=hg cl C s2 H2 fp;have ht:=ht cl C s2 H2 fp;have he:=he cl C s2 H2 fp;rw[hY]at hg ht he;have okY:Y.Ok:=by
  subst hY;refine⟨I.ok.mod,S.kind,I.ok.glob,I.ok.blt,?_,hinj,λx hx=>?_,λx c hf e=>?_,λz=>I.ok.hd z,I.ok.frames, .inl rfl,λb hb=>⟨?_,λx c e=>?_⟩,I.bs,
   Nat.le_trans I.ok.bsz I.sz,λb o e hb=>?_,λb hb z=>?_,I.stack,I.stkFree⟩
  ·exact hsC
  ·have hx':(relabel scope X.env).names.lookup x=some .cell\/(relabel scope X.env).names.lookup x=some .free:=hx;have hf:scope.names.lookup x=some .cell\/scope.names.lookup x=some .free:=by
    rcases hx' with z|z
    ·rcases DT z with q|q
     ·exact .inl q
     ·exact .inr q
    ·rcases DT z with q|q<;>exact .inr q
   rcases hf with hf|hf
   ·obtain⟨c,q,_⟩:=hcell _ (PySem.mem_of_lookup hf);exact⟨c,q⟩
   ·exact hfree _ (PySem.mem_of_lookup hf) rfl
  ·have hf':scope.names.lookup x=some .cell:=by
    have:(scope.names.lookup x==some NameKind.cell)=true:=hf;exact eq_of_beq this
   obtain⟨c',q,l⟩:=hcell x (PySem.mem_of_lookup hf');have e':cl.lookup x=some c:=e;rw[q]at e'
   cases e'
   exact Nat.le_trans hsC (by lia)
  ·exact neC b (fpb b hb)
  ·rcases hsplit x c e with⟨_,l,_⟩|q
   ·have:=fpb b hb;intro z;subst z;exact absurd (Nat.lt_of_lt_of_le this (Nat.le_of_lt hlt)) (by lia)
   ·exact(f2 b hb).2.2.2.2.1 x c q
  ·rcases(f2 b hb).2.2.2.1 with z|z
   ·exact I.ok.noex b o e z
   ·exact absurd (Nat.lt_of_lt_of_le (Heap.lt_size e) (Nat.le_trans I.ok.bsz z)) (Nat.lt_irrefl _)
  ·rcases List.mem_cons.mp (I.stkSub b z)with q|q
   ·exact(f2 b hb).2.1 q
   ·exact(f2 b hb).2.2.1 q
 have eo:ObjOk X.prog X.w (upd H2 D (.lst [])) h1 D (.lst []):=⟨by decide,[],_, .nil,gD⟩;have I1:Inv Y [] (AT own sel σ) (upd H2 D (.lst [])) {s2 with heap:=h1}:=by
  subst hY;refine⟨okY,rfl,I.bare,Un.laid keep1 hsD hnD,⟨_,hns1,λi x v e1 e2 e3=>?_⟩,λx c e=>?_,?_,λx c e=>?_,λp hp=>absurd (show p∈([]:List (Addr×Obj))from hp) (by simp),I.hok.laid keep1 hsD eo,?_⟩
  ·obtain⟨k,j,ei,ej,es⟩:=Ip e2;subst ei;have e1':(own++sel.map λj=>X.N.getD j Str.empty)[own.length+k]? =some x:=e1;rw[List.getElem?_append_right (by lia),List.getElem?_map,show own.length+k-own.length=k by lia,ej]at e1';simp only[Option.map_some,Option.some.injEq]at e1';obtain⟨hj,hfx,hkd⟩:=S.seln j (List.mem_of_getElem? ej);have hN:X.N[j]? =some x:=by rw[<-e1',List.getD_eq_getElem?_getD,List.getElem?_eq_getElem hj];rfl
   rw[e1']at hkd hfx;obtain⟨m,_,hl⟩:=I.loc;obtain⟨u,r,lk⟩:=hl j x v hN es (.inr hkd);refine⟨u,r, .inr ⟨Ew I.ok.kind hfx,?_⟩⟩;rcases lk with⟨z1,_⟩|⟨_,c,hc1,hc2⟩
   ·have z1':X.env.scope.names.lookup x=some .local:=z1;rcases hkd with q|q<;>(rw[z1']at q;cases q)
   ·obtain⟨c',q,q2⟩:=hold _ hfx;rw[hc1]at q2
    cases q2
    exact⟨c,q,hc2.keeps keep1⟩
  ·rcases hsplit x c e with⟨_,_,z⟩|q
   ·exact⟨_,z⟩
   ·obtain⟨u,z⟩:=I.cell x c q;exact⟨u,z.keeps keep1⟩
  ·show upd H2 D (.lst []) C=none;rw[AG (Ne.symm hDC)];exact hnC
  ·show upd H2 D (.lst []) c=none;rcases hsplit x c e with⟨_,l,_⟩|q
   ·have hcD:D<c:=Nat.lt_of_lt_of_le hlt (by lia);rw[AG (Ne.symm (Nat.ne_of_lt hcD))];exact fresh c (Nat.le_of_lt hcD)
   ·obtain⟨u,o,z,_⟩:=I.cell x c q;rw[AG (neD c (below c o z))];exact I.freeC x c q
  ·show(AT own sel σ).length=(own++sel.map λj=>X.N.getD j Str.empty).length;rw[Iq];simp
 have fin:∀ (σ':St) (H':Hp) (s':Shared),Inv Y [] σ' H' s'->Q (.ref D) H'->compPost (model X.prog X.w) X.A X.xe use Qo (.ref D) C (.ok .next) s':=by
  intro σ' H' s' I' q;subst hY;obtain⟨m,hn,_⟩:=I'.loc;have J':Inv X pins σ H' s':=I.call' I'.os I'.base I'.hok I'.bare λb hb=>⟨(f2 b hb).2.2.2.1,(f2 b hb).2.1,(f2 b hb).2.2.2.2.1,(f2 b hb).2.2.2.2.2⟩;refine fin D C H' s' m J' hn ⟨I'.free,Ne.symm (neC _ (by rw[<-hD];exact I.lt)),Nat.le_trans I.sz hsC,λx c e=>?_,λp hp=>?_⟩ q
  ·obtain⟨u,o,z,_⟩:=I.cell x c e;exact neC c (below c o z)
  ·exact neC p.1 (below p.1 p.2 (I.pin p hp).1)
 have stat:∀ {H':Hp},(∀b∈fp,H' b=none)->∀b∈fp,BH Y [] H' b:=fun{H'} hn b hb=>by
  subst hY;refine⟨hn b hb,neC b (fpb b hb),λz=>?_, .inl hb,λx c e=>?_,λp hp=>absurd (show p∈([]:List (Addr×Obj))from hp) (by simp)⟩
  ·rcases List.mem_cons.mp (I.stkSub b z)with q|q
   ·exact(f2 b hb).2.1 q
   ·exact(f2 b hb).2.2.1 q
  ·rcases hsplit x c e with⟨_,l,_⟩|q
   ·have:=fpb b hb;intro z;subst z;exact absurd (Nat.lt_of_lt_of_le this (Nat.le_of_lt hlt)) (by lia)
   ·exact(f2 b hb).2.2.2.2.1 x c q
 have loop:∀s3:Shared,s3={s2 with heap:=h1}->
  codeAny (model X.prog X.w) X.A (.compLoop (.ListComp elt [⟨tg,iter,ifs,0⟩] scope pos) 0 (.ref it) (.ref D) (compEnvC scope cl C X.env)) (compPost (model X.prog X.w) X.A X.xe use Qo (.ref D) C) s3:=by
  rintro s3 rfl;have eP:Y.prog=X.prog:=by subst hY;rfl
  have eW:Y.w=X.w:=by subst hY;rfl
  have eA:Y.A=X.A:=by subst hY;rfl
  have eK:Y.K=X.K:=by subst hY;rfl
  have eE:Y.env=compEnvC scope cl C X.env:=by subst hY;rfl
  have eX:Y.xe=λ_ _=>False:=by subst hY;rfl
  have eC:Y.calm=true:=by subst hY;exact hc
  refine N4 (λn s'=>∃i H',Inv Y [] (AT own sel σ) H' s'/\tn i s'.heap/\(∀b∈fp,H' b=none)/\W i n H') ?_ m0
   ⟨0,_,I1,T.keep _ _ _ st2 λb _ o e=>keep1 b o e,λb hb=>by rw[AG (neD b (fpb b hb))];exact(f2 b hb).1,w0⟩
  rintro n s4 ⟨i,H4,I4,st4,fr4,w4⟩;rcases turn i n H4 w4 with⟨stop,q⟩|⟨go,step⟩
  ·have dn:=T.done Y eP eW eK eC i [] s4 _ H4 (λ_ _=>False) I4 (stat fr4) st4 stop;rw[eA]at dn;refine thn dn λr s5 z_=>?_;obtain⟨hr,I5⟩:=z_;subst hr;exact fin _ _ _ I5 q
  ·have im:=T.item Y eP eW eK eC i [] s4 _ H4 (λ_ _=>False) I4 (stat fr4) st4 go;rw[eA]at im;refine thn im λr s5 z_=>?_;obtain⟨u,hr,h5⟩:=z_;subst hr;refine thn h5 λ_ s6 z_=>?_;obtain⟨x,H6,I6,r6,y6,st6,fr6⟩:=z_;have I6':=I6.pinned (stat fr6) (T.obj _ _ st6);have back:∀ {σ7:St} {H7:Hp} {s7:Shared} {k:Nat},Inv Y ([]++Cu fp s6.heap) σ7 H7 s7->σ7.length=(AT own sel σ).length->(∀j,own.length<=j->σ7[j]? =(AT own sel σ)[j]?)->(∃m',m'<n/\W (i+1) m' H7)->
    ∃m',m'<n/\∃i H',Inv Y [] (AT own sel σ) H' s7/\tn i s7.heap/\(∀b∈fp,H' b=none)/\W i m' H':=fun{σ7 H7 s7 k} I7 l7 k7 w7=>by
    obtain⟨m',hm,w7⟩:=w7;refine⟨m',hm,i+1,H7,I7.unpinned.weak l7.symm λj v e=>?_,T.keep _ _ _ st6 λb hb o e=>(I7.pin (b,o) (List.mem_append_right _ (List.mem_append_right _ (CQ hb e)))).1,λb hb=>?_,w7⟩
    ·by_cases hj:j<own.length
     ·rw[EM hj]at e;cases e
     ·rw[k7 j (Nat.le_of_not_lt hj)];exact e
    ·obtain⟨o,e,d⟩:=T.obj _ _ st6 b hb;exact(I7.pin (b,o) (List.mem_append_right _ (List.mem_append_right _ (CQ hb e)))).2.1
   have ga:=hg _ s6 _ H6 x u _ I6' r6 (hk _ _ _ _ (step x H6 y6));rw[eP,eW,eA,eE,eX]at ga;refine thn ga λ_ s7 z_=>?_;obtain⟨σ7,H7,I7,q7,l7,k7⟩:=z_;have ta:=ht _ s7 σ7 H7 _ I7 q7;rw[eP,eW,eA,eE,eX]at ta;refine thn ta λb s8 z_=>?_;obtain⟨H8,I8,q8⟩:=z_
   cases b with
   |false=>
    rw[if_neg Bool.false_ne_true]at q8⊢;exact back (k:=0) I8 l7 k7 q8
   |true=>
    rw[if_pos rfl]at q8⊢;have ea:=he _ s8 σ7 H8 _ I8 q8;rw[eP,eW,eA,eE,eX]at ea;refine thn ea λv s9 z_=>?_;obtain⟨x9,H9,I9,r9,ys,hD9,hz9,q9⟩:=z_;have aa:=DB (X:=Y) _ s9 σ7 H9 (.ref D) [x9] (.ref D) [v] (λ_ H'=>∃m',m'<n/\W (i+1) m' H') I9 rfl (.cons r9 .nil) ⟨D,ys,x9,rfl,rfl,hD9,hz9,q9⟩;rw[eP,eW,eA,eX]at aa;exact thn aa λ_ s10 ⟨_,H10,I10,_,q10⟩=>back (k:=0) I10 l7 k7 q10
 exact codeAny_compStart_list (loop _ rfl) (T.self X.A 0 _ _ _ (T.keep _ _ _ st2 λb _ o e=>keep1 b o e) (loop _ rfl))
theorem BA{elt tg iter:Expr}{ifs:List Expr}{scope:Scope}{pos:Pos}{own:List Str}{sel:List Nat}{wi:TI}{g:TG}{tt:TT}{te:TE}
 (S:CompOkC X.env.scope X.N own sel scope) (hc:X.calm=true) (hi:PI X tg iter wi)
 (hg:∀cl C s2 H2 fp,PG (Be X own sel scope cl C s2 H2 fp) tg g) (hk:GK own.length g)
 (ht:∀cl C s2 H2 fp,PIf (Be X own sel scope cl C s2 H2 fp) ifs tt) (he:∀cl C s2 H2 fp,PE (Be X own sel scope cl C s2 H2 fp) elt te)
 (hs:∀x,foldedSetIterable iter X.env x=pure x:=by intro _;rfl):
 PE X (.ListComp elt [⟨tg,iter,ifs,0⟩] scope pos) (Ec own sel wi g tt te):=by
 intro pins s σ H Q I h;rw[eval_ListComp];refine HX (use:=none) S hc hi hg hk ht he hs I h λD C H' s' m I' hn f q=>?_;exact⟨m,hn,λh' k=>⟨.ref D,H',I'.far f k,rfl,q⟩⟩
theorem Ex{i:Nat}{x:Str}{pos' spos:Pos}{elt tg iter:Expr}{ifs:List Expr}{scope:Scope}{pos:Pos}{own:List Str}{sel:List Nat}{wi:TI}{g:TG}{tt:TT}{te:TE}
 (hN:X.N.Nodup) (hix:X.N[i]? =some x) (hx:Loc X.env.scope x)
 (S:CompOkC X.env.scope X.N own sel scope) (hc:X.calm=true) (hi:PI X tg iter wi)
 (hg:∀cl C s2 H2 fp,PG (Be X own sel scope cl C s2 H2 fp) tg g) (hk:GK own.length g)
 (ht:∀cl C s2 H2 fp,PIf (Be X own sel scope cl C s2 H2 fp) ifs tt) (he:∀cl C s2 H2 fp,PE (Be X own sel scope cl C s2 H2 fp) elt te)
 (hs:∀x,foldedSetIterable iter X.env x=pure x:=by intro _;rfl)
 (hsw:swapsWith (.ListComp elt [⟨tg,iter,ifs,0⟩] scope pos) (some (.Name x pos')) spos.line X.env=pure true:=by rfl)
 (hf:X.fn x=true\/X.env.scope.names.lookup x=some .local:=by first|exact .inl rfl|exact .inr rfl|assumption):
 PS X (.Assign [.Name x pos'] (.ListComp elt [⟨tg,iter,ifs,0⟩] scope pos) spos) (Bf (Ec own sel wi g tt te) (Aw i)):=by
 intro pins s σ H D0 I h;rw[exec_Assign_Name_used _ _ _ _ hsw];refine wpAny_bind (wpAny_standAt (wpAny_bind ?_));show wpAny _ X.A (do let _<-comprehension (.ListComp elt [⟨tg,iter,ifs,0⟩] scope pos) scope X.env _ (newList []) false (eval iter X.env) (some (assign (.Name x pos') X.env))) _ _ s;refine wpAny_bind (wpAny_mono (HX (use:=some (assign (.Name x pos') X.env)) (Qo:=λ_ s'=>SP X pins D0 .next s') S hc hi hg hk ht he hs I h λD C H' s' m I' hn f q=>?_) (λ_ s' hq=>wpAny_pure (wpAny_pure hq)) λ_ _ e=>e);show wpAny _ X.A (assign (.Name x pos') X.env (.ref D)) _ _ _;refine wpAny_assign_Name (E5 (v:=V.ref D) I' hN hix hx rfl (λs2 I2 ⟨a,k,ha⟩=>?_) hf);have haC:C≠a:=by
  rcases ha with rfl|ha
  ·exact f.nl
  ·exact Ne.symm (f.nc x a ha)
 exact⟨m,hn.sameBut k haC,λh' k'=>⟨_,H',I2.far f k',q⟩⟩
end
end L2
namespace BrM
open L2 PySem
theorem FC{k:Int}{a:List Nat}(h:isRow k a=true):∀c∈a,c∈sgn k:=by
 unfold isRow at h;simp only[Bool.and_eq_true,List.all_eq_true,decide_eq_true_eq]at h;exact h.2
theorem EL{k:Int}{a:List Nat}(hl:a.length<=40)(h:∀c∈a,c∈sgn k):isRow k a=true:=by
 unfold isRow;simp only[Bool.and_eq_true,List.all_eq_true,decide_eq_true_eq];exact⟨hl,h⟩
theorem QU{α:Type}(xs:List α)(i:Nat):A8 xs (some (i:Int)) none=xs.drop i:=by
 unfold A8;rw[HT.sIx_nat,HT.sIx_none];rcases Nat.le_total i xs.length with h|h
 ·rw[Nat.min_eq_left h,List.take_of_length_le (by rw[List.length_drop];lia)]
 ·rw[Nat.min_eq_right h,List.drop_of_length_le (Nat.le_refl _),List.drop_of_length_le h];simp
end BrM
namespace BrM
open L2 PySem BrR
theorem Kn{l:List Nat}{i:Int}(h0:0<=i)(h1:i<(l.length:Int)):∃c,atI l i=some c/\c∈l:=by
 have hk:i.toNat<l.length:=by lia
 have ek:i=((i.toNat:Nat):Int):=by lia
 have q:atI l ((i.toNat:Nat):Int)=some l[i.toNat]:=Av (List.getElem?_eq_getElem hk);rw[<-ek]at q;exact⟨_,q,List.getElem_mem hk⟩
end BrM
namespace L2
open PySem PySem.Spec PyProof.Rows BrR
section
variable{X:Cx}
end
section
variable{σ:St}{H:Hp}{Q:VK}{K:W.Frag}
end
end L2
namespace BrM
open L2 PySem
end BrM
namespace L2
open PySem PySem.Spec PyProof.Rows BrR
section
variable{σ:St}{H:Hp}{Q:VK}{K:W.Frag}
theorem comp_map{a:Addr}{xs:List V}{own:List Str}{sel:List Nat}{g:TG}{te:TE}(f:V->V)(hn:xs.length<=sizeLine)(ha:H a=some (.lst xs))
 (hst:∀D H',H D=none->Same H H'->H' D=some (.lst (xs.map f))->Q (.ref D) H')
 (hs:∀ (D:Addr) (i:Nat) (x:V) (H':Hp) (R:V->Hp->Prop),H D=none->xs[i]? =some x->Same H H'->(∀H6,Same H' H6->R (f x) H6)->g x (AT own sel σ) H' λσ4 H4=>te σ4 H4 R):BJ (Itl K a) own sel σ g tYes te Q H:=by
 refine CD (n:=xs.length) (λD i ys H'=>ys=(xs.take i).map f/\Same H H') (λD hD=>⟨rfl,AI hD _⟩) (λD i ys H' hD hi hy ⟨_,sH⟩=>⟨xs,xs[i],SqL.of (sH _ _ ha),List.getElem?_eq_getElem hi⟩) (λD ys H' hD hy hl ⟨e,sH⟩=>⟨⟨_,SqL.of (sH _ _ ha),Nat.le_refl _⟩,hst D H' hD sH (by rw[hy,e,List.take_length])⟩) ?_;rintro D i ys H' x H3 hD hi hy hl ⟨e,sH⟩ ⟨rfl,hx⟩;have hx':=hx _ (SqL.of (sH _ _ ha));have ef:(fun(σ4:St) (H4:Hp)=>tYes σ4 H4 λb H5=>if b=true then te σ4 H5 λv H6=>∃ys,H6 D=some (.lst ys)/\ys.length<sizeLine/\∃m',m'<xs.length-i/\CW D xs.length (λi ys H'=>ys=(xs.take i).map f/\Same H H') (i+1) m' (upd H6 D (.lst (ys++[v])))else∃m',m'<xs.length-i/\CW D xs.length (λi ys H'=>ys=(xs.take i).map f/\Same H H') (i+1) m' H5)
  =λσ4 H4=>te σ4 H4 λv H6=>∃ys,H6 D=some (.lst ys)/\ys.length<sizeLine/\∃m',m'<xs.length-i/\CW D xs.length (λi ys H'=>ys=(xs.take i).map f/\Same H H') (i+1) m' (upd H6 D (.lst (ys++[v]))):=by
  funext σ4 H4
  simp only[tYes,if_true]
 rw[ef];refine hs D i x H3 _ hD hx' sH λH6 s6=>?_;refine CA hi hn (s6 _ _ hy) hl ⟨?_,λb o z=>?_⟩
 ·rw[e,List.take_add_one,hx',List.map_append];rfl
 ·rw[AG (AQ z hD)];exact s6 _ _ (sH _ _ z)
end
end L2
namespace BrM
open L2 PySem
end BrM
namespace L2
open PySem PySem.Spec PyProof.Rows
def B0(lo c:Int)(n:Nat):It:=⟨λi _=>i<n,λi H x H'=>H'=H/\x= .int (lo+i*c),λi _=>n<=i⟩
theorem Mz{P:Program}{w:World}{K:PySem.W.Frag}{tg:Expr}(it:Addr)(lo c:Int)(n:Nat):Turn P w K tg (B0 lo c n) [it] it (λi h=>IsRangeIter h it (lo+(i:Nat)*c) ((n:Int)-(i:Nat)) c) where
 mem:=by simp
 obj:=λi h st b hb=>by
  obtain rfl:b=it:=by simpa using hb
  exact⟨_,st,λv z=>by
   have z':Data.fields _=Data.cell v:=z
   cases z'⟩
 keep:=λi h h' st k=>k it (by simp) _ st
 item:=by
  intro X hP hw hK hc i pins s σ H E I hf st hg;subst hP hw hK;obtain⟨f0,f1,f2,f3,f4,f5⟩:=hf it (by simp);have W:=Walks.range (prog:=X.prog) (w:=X.w) (I.ok.hd hc) it lo c n;refine W.item i s _ _ hg st λv h' tk hv st' kk=>?_;obtain⟨t,rfl⟩:=hv;have I1:Inv X pins σ H {s with heap:=h',toks:=tk}:=I.turned (λb o hb e=>kk b o (by simpa using hb) e) f0 f1 f3 f4 f5;exact⟨_,rfl,Eg (s:={s with heap:=h',toks:=tk}) (n:="range_iterator") st' rfl rfl (by decide) ⟨.int (lo+i*c),H,I1,⟨t,rfl⟩,⟨rfl,rfl⟩,st',λb hb=>(hf b hb).1⟩⟩
 done:=by
  intro X hP hw hK hc i pins s σ H E I hf st hg;subst hP hw hK;obtain⟨f0,f1,f2,f3,f4,f5⟩:=hf it (by simp);exact wpAny_pyNext_range_end (I.ok.hd hc) st (by have:n<=i:=hg;lia) λh' eb=>⟨rfl,I.turned (t':=s.toks) (λb o hb e=>eb b o hb e) f0 f1 f3 f4 f5⟩
 self:=λ_ _ _ _ _ st h=>wpAny_pyIter_rangeiter st h
section
variable{X:Cx}{tg:Expr}
def rN(a b c:Int):Nat:=(Builtin.Range.rangeSize a b c).toNat
theorem OK{pins:List (Addr×Obj)}{σ:St}{H:Hp}{s:Shared}{R:It->Hp->Prop}{E:Value->Shared->Prop}{lo hi c:Int}{t u v:Tok}{tk:Nat}(I:Inv X pins σ H s)(hs:Builtin.Range.small lo hi c=true)
 (q:R (B0 lo c (rN lo hi c)) H):wpAny (model X.prog X.w) X.A (pyIter (.ref s.heap.objs.size)) (PIE X pins σ tg R) E {s with heap:=s.heap.push {cls:= .type "range",data:= .fields #[.int lo t, .int hi u, .int c v]},toks:=tk}:=by
 refine wpAny_pyIter_range (IsRange.new ..) hs ?_;have I1:Inv X pins σ H {s with heap:=s.heap.push {cls:= .type "range",data:= .fields #[.int lo t, .int hi u, .int c v]},toks:=tk}:=I.kept λb o e=>Heap.get?_push_of_some _ e;refine⟨(s.heap.push {cls:= .type "range",data:= .fields #[.int lo t, .int hi u, .int c v]}).objs.size,[(s.heap.push {cls:= .type "range",data:= .fields #[.int lo t, .int hi u, .int c v]}).objs.size],_,_,H,rfl,
  I1.kept (t':=tk) λb o e=>Heap.get?_push_of_some _ e,Mz _ lo c (rN lo hi c),?_,λb hb=>?_,q⟩
 ·have e1:lo+((0:Nat):Int)*c=lo:=by simp
  have e2:((rN lo hi c:Nat):Int)-((0:Nat):Int)=Builtin.Range.rangeSize lo hi c:=by unfold rN;rw[<-rangeSize_toNat];simp
  show IsRangeIter _ _ (lo+((0:Nat):Int)*c) (((rN lo hi c:Nat):Int)-((0:Nat):Int)) c;rw[e1,e2];exact Heap.get?_push_size _ rfl
 ·obtain rfl:b=(s.heap.push {cls:= .type "range",data:= .fields #[.int lo t, .int hi u, .int c v]}).objs.size:=by simpa using hb
  exact I1.fpOk (Nat.le_refl _) (I1.hok.fresh (Nat.le_refl _))
def LB(ta:TA):TI:=λσ H R=>ta σ H λvs H1=>∃i j c:Int,vs=[.int i, .int j, .int c]/\(c≠0/\c.natAbs<1000/\Builtin.Range.small i j c=true)/\R (B0 i c (rN i j c)) H1
theorem CS{a b c:Expr}{ta:TA}{p pos:Pos}(hg:Gl X "range")(hm:X.mg "range"=none)(ha:PA X [a,b,c] ta)(hs:starEach [a,b,c] X.env=[(false,eval a X.env),(false,eval b X.env),(false,eval c X.env)]:=by rfl)(hs2:starEach [b,c] X.env=[(false,eval b X.env),(false,eval c X.env)]:=by rfl):
 PI X tg (.Call (.Name "range" p) [a,b,c] [] pos) (LB ta):=by
 intro pins s σ H R I h;refine Call_ (Bn I hg hm boot_range (PyProof.Rows.callWith_type1 (thn (ha pos pins s σ H _ I h) λus s1 ⟨vs,H1,I1,r1,q1⟩=>?_) (by rw[hs,hs2]) (by rw[hs2];rfl)));obtain⟨i,j,c,e,⟨q1,q2,q3⟩,q⟩:=q1;subst e
 cases r1 with
 |cons r rr=>
  cases rr with
  |cons r' rr=>
   cases rr with
   |cons r'' rr=>
    cases rr
    obtain⟨t,rfl⟩:=r;obtain⟨t',rfl⟩:=r';obtain⟨t'',rfl⟩:=r'';exact call_range_3 q1 (OK I1 q3 q) (Or.inl (PyProof.noPylong_small (by lia)))
end
theorem E6{a b:Int}(ha:0<=a)(ha':a<=1000)(hb: -1000<=b)(hb':b<=1000):Builtin.Range.small a b 2=true:=by
 unfold Builtin.Range.small Builtin.Range.rangeSize;simp only[Builtin.Range.rangeFitsLong,Bool.and_eq_true,Bool.or_eq_true,decide_eq_true_eq,beq_iff_eq,show(2:Int)>0 by decide,if_true]
 split<;>lia
theorem Nd{a b c:Int}(hc:c= -1\/c= -2)(ha: -1000<=a)(ha':a<=1000)(hb: -1000<=b)(hb':b<=1000):Builtin.Range.small a b c=true:=by
 unfold Builtin.Range.small Builtin.Range.rangeSize;rcases hc with rfl|rfl
 ·simp only[Builtin.Range.rangeFitsLong,Bool.and_eq_true,Bool.or_eq_true,decide_eq_true_eq,beq_iff_eq,show¬ ((-1:Int)>0) by decide,if_false,Int.neg_neg]
  split<;>lia
 ·simp only[Builtin.Range.rangeFitsLong,Bool.and_eq_true,Bool.or_eq_true,decide_eq_true_eq,beq_iff_eq,show¬ ((-2:Int)>0) by decide,if_false,Int.neg_neg]
  split<;>lia
theorem F6(a b:Int):rN a b 2=((b-a+1)/2).toNat:=by
 unfold rN Builtin.Range.rangeSize;simp only[show(2:Int)>0 by decide,if_true]
 split<;>lia
theorem RF(a b:Int):rN a b (-1)=(a-b).toNat:=by
 unfold rN Builtin.Range.rangeSize;simp only[show¬ ((-1:Int)>0) by decide,if_false,Int.neg_neg]
 split<;>lia
section
variable{X:Cx}
def Lg(K:W.Frag):List V->Hp->VK->Prop:=λxs H Q=>∃ (p:Addr) (ns:List Int),xs=[.ref p]/\SqL K H p (ns.map V.int)/\Q (.int ns.sum) H
theorem ID(K:W.Frag)(hc:X.calm=true)(hK:X.K=K:=by rfl):CallR X (.builtin "sum") (Lg K):=by
 subst hK;intro pins s σ H xs us Q I r h;obtain⟨p,ns,rfl,hq,q⟩:=h;obtain⟨u,rfl,ru⟩:=vals1 r
 cases ru
 obtain⟨its,rr,ht,hz⟩:=I.list hq;have hi:=HS rr;obtain⟨xs,e⟩:=hi.allInts.items;have hns:ns=xs.toList.map (·.1):=by rw[<-hi.numsOf,<-nums_intItems,<-e]
 have hl:=ht.isList;rw[e]at hl;refine sum_intListG (I.ok.hd hc) hl λh' tk t' hk=>?_;have e2:preSum (numAt xs) xs.size=ns.sum:=by
  rw[preSum_eq,List.take_of_length_le (by simp),hns]
 rw[e2];exact⟨.int ns.sum,H,I.kept λb o z=>hk b o z,⟨t',rfl⟩,q⟩
def K5(K:W.Frag):List V->Hp->VK->Prop:=λxs H Q=>∃p ys,xs=[.ref p]/\(SqL K H p ys\/SqT K H p ys)/\∀l,H l=none->Q (.ref l) (upd H l (.lst ys))
theorem N7(K:W.Frag)(hK:X.K=K:=by rfl):CallR X (.type "list") (K5 K):=by subst hK;exact Mv
def K6(K:W.Frag):V->V->Hp->VK->Prop:=λx y H Q=>∃p xs,∃ (j:Nat),∃v,x= .ref p/\y= .int j/\SqL K H p xs/\xs[j]? =some v/\Q v H
theorem Oz(K:W.Frag)(hK:X.K=K:=by rfl):Ly X (K6 K):=by
 subst hK;intro pins s σ H o i ov iv Q I r1 r2 h;obtain⟨p,xs,j,z,rfl,rfl,hq,he,q⟩:=h
 cases r1
 obtain⟨t,rfl⟩:=r2;obtain⟨its,r,pl,hz⟩:=I.list hq;obtain⟨w,ew,rw'⟩:=r.get he;have hl:=r.length;have hn:=Ca;have hj:=(List.getElem?_eq_some_iff.mp he).1;exact wpAny_getItem_list pl.isList (by lia) (by lia) (by simpa using ew) ⟨z,H,I,rw',q⟩
end
section
variable{σ:St}{H:Hp}{Q:VK}{D:Ends}{K:W.Frag}
theorem Q0{ta:TA}{R:It->Hp->Prop}(h:ta σ H λvs H1=>∃i j c:Int,vs=[.int i, .int j, .int c]/\(c≠0/\c.natAbs<1000/\Builtin.Range.small i j c=true)/\R (B0 i c (rN i j c)) H1):LB ta σ H R:=h
theorem Kx{p:Addr}{ns:List Int}(hq:SqL K H p (ns.map V.int))(h:Q (.int ns.sum) H):Lg K [.ref p] H Q:=⟨p,ns,rfl,hq,h⟩
theorem Qu{p:Addr}{ys:List V}(hq:SqL K H p ys)(h:∀l,H l=none->Q (.ref l) (upd H l (.lst ys))):K5 K [.ref p] H Q:=⟨p,ys,rfl, .inl hq,h⟩
theorem S5{to ti te:TE}{tget:V->V->Hp->VK->Prop}{tip:TIp}{tset:TSet}(h:to σ H λo H1=>ti σ H1 λi H2=>tget o i H2 λx H3=>te σ H3 λy H4=>tip x y H4 λz H5=>tset o i z H5 λH6=>D.nx σ H6):Kt to ti te tget tip tset D σ H:=h
theorem So{p:Addr}{xs:List V}{j:Nat}{v:V}(hq:SqL K H p xs)(he:xs[j]? =some v)(h:Q v H):K6 K (.ref p) (.int j) H Q:=⟨p,xs,j,v,rfl,rfl,hq,he,h⟩
theorem QM{g:TG}{tb:TS}{lo c:Int}{n:Nat}(Pv:Nat->St->Hp->Prop)(h0:Pv 0 σ H)
 (hs:∀i σ H,i<n->Pv i σ H->g (.int (lo+i*c)) σ H λσ2 H2=>tb {D with nx:=Pv (i+1),ct:=Pv (i+1),bk:=D.nx} σ2 H2) (hd:∀σ H,Pv n σ H->D.nx σ H):Bg (B0 lo c n) g tb D σ H:=
 EZ (n:=n) Pv h0 (λi σ H hi _=>hi) (λσ H _=>Nat.le_refl _) (λi x σ H H' hi p y=>by obtain⟨rfl,rfl⟩:=y;exact hs i σ _ hi p) hd
end
def Pk(scope osc:Scope):Scope:={scope with names:=scope.names.map fun(n,k)=>if(k== .free&&osc.kind== .function&&osc.names.lookup n==some .cell)then(n, .cell)else(n,k)}
def FV(osc:Scope)(N:List Str)(own:List Str)(sel:List Nat)(scope:Scope):Bool:=
 (scope.kind== .function)&&scope.names.all (λy=>y.2 != .cell||scope.names.lookup y.1==some .cell)&&scope.names.all (λy=>y.2 != .local||scope.names.lookup y.1==some .local)&&
 scope.names.all (λy=>y.2 != .free||osc.names.lookup y.1==some .cell||osc.names.lookup y.1==some .free)&&
 sel.all (λj=>decide (j<N.length)&&scope.names.lookup (N.getD j Str.empty)==some .free&&(osc.names.lookup (N.getD j Str.empty)==some .cell||osc.names.lookup (N.getD j Str.empty)==some .free))
theorem A2{osc:Scope}{N:List Str}{own:List Str}{sel:List Nat}{scope:Scope}(h:FV osc N own sel scope=true):CompOkC osc N own sel scope:=by
 unfold FV at h;simp only[Bool.and_eq_true,List.all_eq_true]at h;obtain⟨⟨⟨⟨h1,h2⟩,h3⟩,h4⟩,h5⟩:=h;refine⟨by simpa using h1,λy hy e=>?_,λy hy e=>?_,λy hy e=>?_,λj hj=>?_⟩
 ·have:=h2 y hy;simp only[Bool.or_eq_true,bne_iff_ne,beq_iff_eq]at this;rcases this with q|q
  ·exact absurd e q
  ·exact q
 ·have:=h3 y hy;simp only[Bool.or_eq_true,bne_iff_ne,beq_iff_eq]at this;rcases this with q|q
  ·exact absurd e q
  ·exact q
 ·have:=h4 y hy;simp only[Bool.or_eq_true,bne_iff_ne,beq_iff_eq]at this;rcases this with(q|q)|q
  ·exact absurd e q
  ·exact .inl q
  ·exact .inr q
 ·have:=h5 j hj;simp only[Bool.or_eq_true,beq_iff_eq,decide_eq_true_eq]at this;exact⟨this.1.1,this.1.2,this.2⟩
def big:Nat:=2^10000
theorem JH{i:Int}(h:i.natAbs<big):Builtin.Int.intBits i<=2^20:=by
 refine Nat.le_trans (?_ :Builtin.Int.intBits i<=10000) (by decide);exact PySem.intBits_le_iff.mpr h
section
variable{X:Cx}
def rTimesW:R2:=λx y H Q=>(∃i j,x= .int i/\y= .int j/\(i.natAbs<big/\j.natAbs<big)/\Q (.int (i*j)) H)\/rRep x y H Q\/K4 x y H Q
theorem op_mulW:OpR X (binaryOp .Mult) (rI (λi j=>i.natAbs<big/\j.natAbs<big) λi j=> .int (i*j)):=opI λ_ _ _ _ _ _ _ hc q=>mul_int q (PySem.IntMulOk.of_bits (JH hc.1) (JH hc.2))
theorem DA:OpR X (binaryOp .Mult) rTimesW:=op_mulW.or (op_rep.or Jl)
end
section
variable{σ:St}{H:Hp}{Q:VK}{K:W.Frag}
theorem Cp{i j:Int}(h1:i.natAbs<big)(h2:j.natAbs<big)(h:Q (.int (i*j)) H):rTimesW (.int i) (.int j) H Q:= .inl ⟨i,j,rfl,rfl,⟨h1,h2⟩,h⟩
theorem EN{J:It}{n:Nat}{own:List Str}{sel:List Nat}{g:TG}{te:TE}(f:Nat->V)(hn:n<=sizeLine)(Iv:Addr->Nat->List V->Hp->Prop)
 (hgo:∀i H',i<n->Same H H'->J.go i H') (hsp:∀H',Same H H'->J.stop n H') (hy:∀i H1 x H',i<n->Same H H1->J.yld i H1 x H'->H'=H1/\x=f i)
 (h0:∀D,H D=none->Iv D 0 [] (upd H D (.lst []))) (mono:∀D i ys H1 H2,H D=none->Iv D i ys H1->SameBut1 D H1 H2->Iv D i ys H2)
 (hst:∀D ys H',H D=none->H' D=some (.lst ys)->ys.length=n->Same H H'->Iv D n ys H'->Q (.ref D) H')
 (hs:∀ (D:Addr) (i:Nat) (ys:List V) (H':Hp) (R:V->Hp->Prop),H D=none->i<n->H' D=some (.lst ys)->ys.length=i->Same H H'->Iv D i ys H'->(∀v H6,Same H' H6->Iv D (i+1) (ys++[v]) H6->R v H6)->
   g (f i) (AT own sel σ) H' λσ4 H4=>te σ4 H4 R):BJ J own sel σ g tYes te Q H:=by
 refine CD (n:=n) (λD i ys H'=>ys.length=i/\Same H H'/\Iv D i ys H') (λD hD=>⟨rfl,AI hD _,h0 D hD⟩) (λD i ys H' hD hi _ ⟨_,sH,_⟩=>hgo i H' hi sH)
  (λD ys H' hD hy' hl ⟨e,sH,iv⟩=>⟨hsp H' sH,hst D ys H' hD hy' e sH iv⟩) ?_
 rintro D i ys H1 x H3 hD hi hyD hl ⟨el,sH,iv⟩ yl;obtain⟨rfl,rfl⟩:=hy i H1 x H3 hi sH yl;have key:=hs D i ys H3 (λv H6=>∃ys,H6 D=some (.lst ys)/\ys.length<sizeLine/\∃m',m'<n-i/\CW D n (λi ys H'=>ys.length=i/\Same H H'/\Iv D i ys H') (i+1) m' (upd H6 D (.lst (ys++[v])))) hD hi hyD el sH iv (λv H6 s6 iv6=>?_)
 ·have ef:(fun(σ4:St) (H4:Hp)=>tYes σ4 H4 λb H5=>if b=true then te σ4 H5 λv H6=>∃ys,H6 D=some (.lst ys)/\ys.length<sizeLine/\∃m',m'<n-i/\CW D n (λi ys H'=>ys.length=i/\Same H H'/\Iv D i ys H') (i+1) m' (upd H6 D (.lst (ys++[v])))
   else∃m',m'<n-i/\CW D n (λi ys H'=>ys.length=i/\Same H H'/\Iv D i ys H') (i+1) m' H5)=λσ4 H4=>te σ4 H4 λv H6=>∃ys,H6 D=some (.lst ys)/\ys.length<sizeLine/\∃m',m'<n-i/\CW D n (λi ys H'=>ys.length=i/\Same H H'/\Iv D i ys H') (i+1) m' (upd H6 D (.lst (ys++[v]))):=by
   funext σ4 H4
   exact propext ⟨λz=>by have z':=z;simp only[tYes]at z';simpa using z',λz=>by show tYes _ _ _;simp only[tYes];simpa using z⟩
  rw[ef];exact key
 ·refine CA hi hn (s6 _ _ hyD) hl ⟨by simp[el],λb o z=>?_,mono D _ _ _ _ hD iv6 SameBut1.upd⟩;rw[AG (AQ z hD)];exact s6 b o (sH b o z)
theorem JK{lo:Int}{n:Nat}{own:List Str}{sel:List Nat}{g:TG}{te:TE}(hn:n<=sizeLine)(Iv:Addr->Nat->List V->Hp->Prop)
 (h0:∀D,H D=none->Iv D 0 [] (upd H D (.lst []))) (mono:∀D i ys H1 H2,H D=none->Iv D i ys H1->SameBut1 D H1 H2->Iv D i ys H2)
 (hst:∀D ys H',H D=none->H' D=some (.lst ys)->ys.length=n->Same H H'->Iv D n ys H'->Q (.ref D) H')
 (hs:∀ (D:Addr) (i:Nat) (ys:List V) (H':Hp) (R:V->Hp->Prop),H D=none->i<n->H' D=some (.lst ys)->ys.length=i->Same H H'->Iv D i ys H'->(∀v H6,Same H' H6->Iv D (i+1) (ys++[v]) H6->R v H6)->
   g (.int (lo+i)) (AT own sel σ) H' λσ4 H4=>te σ4 H4 R):BJ (Itr lo n) own sel σ g tYes te Q H:=
 EN (λi=> .int (lo+i)) hn Iv (λi H' hi _=>hi) (λH' _=>Nat.le_refl _) (λi H1 x H' _ _ y=>y) h0 mono hst hs
theorem PR{lo c:Int}{n:Nat}{own:List Str}{sel:List Nat}{g:TG}{te:TE}(hn:n<=sizeLine)(Iv:Addr->Nat->List V->Hp->Prop)
 (h0:∀D,H D=none->Iv D 0 [] (upd H D (.lst []))) (mono:∀D i ys H1 H2,H D=none->Iv D i ys H1->SameBut1 D H1 H2->Iv D i ys H2)
 (hst:∀D ys H',H D=none->H' D=some (.lst ys)->ys.length=n->Same H H'->Iv D n ys H'->Q (.ref D) H')
 (hs:∀ (D:Addr) (i:Nat) (ys:List V) (H':Hp) (R:V->Hp->Prop),H D=none->i<n->H' D=some (.lst ys)->ys.length=i->Same H H'->Iv D i ys H'->(∀v H6,Same H' H6->Iv D (i+1) (ys++[v]) H6->R v H6)->
   g (.int (lo+i*c)) (AT own sel σ) H' λσ4 H4=>te σ4 H4 R):BJ (B0 lo c n) own sel σ g tYes te Q H:=
 EN (λi=> .int (lo+i*c)) hn Iv (λi H' hi _=>hi) (λH' _=>Nat.le_refl _) (λi H1 x H' _ _ y=>y) h0 mono hst hs
theorem FY{a:List Nat}{own:List Str}{sel:List Nat}{g:TG}{te:TE}(hn:a.length<=sizeLine)(Iv:Addr->Nat->List V->Hp->Prop)
 (h0:∀D,H D=none->Iv D 0 [] (upd H D (.lst []))) (mono:∀D i ys H1 H2,H D=none->Iv D i ys H1->SameBut1 D H1 H2->Iv D i ys H2)
 (hst:∀D ys H',H D=none->H' D=some (.lst ys)->ys.length=a.length->Same H H'->Iv D a.length ys H'->Q (.ref D) H')
 (hs:∀ (D:Addr) (i:Nat) (ys:List V) (H':Hp) (R:V->Hp->Prop),H D=none->i<a.length->H' D=some (.lst ys)->ys.length=i->Same H H'->Iv D i ys H'->(∀v H6,Same H' H6->Iv D (i+1) (ys++[v]) H6->R v H6)->
   g (tx [a.getD i 0]) (AT own sel σ) H' λσ4 H4=>te σ4 H4 R):BJ (Its ⟨a.toArray⟩) own sel σ g tYes te Q H:=
 EN (λi=>tx [a.getD i 0]) hn Iv (λi H' hi _=>by simpa[Its]using hi) (λH' _=>by simp[Its]) (λi H1 x H' hi _ y=>by
  obtain⟨rfl,c,e,rfl⟩:=y;have e':a[i]? =some c:=by simpa using e
  exact⟨rfl,by rw[List.getD_eq_getElem?_getD,e'];rfl⟩) h0 mono hst hs
theorem OC{lo c:Int}{n:Nat}{own:List Str}{sel:List Nat}{g:TG}{te:TE}(v:Nat->V)(hn:n<=sizeLine)(hst:∀D H',H D=none->Same H H'->H' D=some (.lst ((List.range n).map v))->Q (.ref D) H')
 (hs:∀ (i:Nat) (H':Hp) (R:V->Hp->Prop),i<n->Same H H'->(∀H6,Same H' H6->R (v i) H6)->g (.int (lo+i*c)) (AT own sel σ) H' λσ4 H4=>te σ4 H4 R):BJ (B0 lo c n) own sel σ g tYes te Q H:=
 PR hn (λD i ys _=>ys=(List.range i).map v) (λ_ _=>rfl) (λ_ _ _ _ _ _ e _=>e) (λD ys H' hD hy _ sH e=>hst D H' hD sH (by rw[hy,e]))
  (λD i ys H' R hD hi hy _ sH e r=>hs i H' R hi sH λH6 s6=>r _ H6 s6 (by rw[e,List.range_succ,List.map_append];rfl))
theorem IQ{a:List Nat}{own:List Str}{sel:List Nat}{g:TG}{te:TE}(v:Nat->V)(hn:a.length<=sizeLine)(hst:∀D H',H D=none->Same H H'->H' D=some (.lst (a.map v))->Q (.ref D) H')
 (hs:∀ (i c:Nat) (H':Hp) (R:V->Hp->Prop),a[i]? =some c->Same H H'->(∀H6,Same H' H6->R (v c) H6)->g (tx [c]) (AT own sel σ) H' λσ4 H4=>te σ4 H4 R):BJ (Its ⟨a.toArray⟩) own sel σ g tYes te Q H:=
 FY hn (λD i ys _=>ys=(a.take i).map v) (λ_ _=>rfl) (λ_ _ _ _ _ _ e _=>e) (λD ys H' hD hy _ sH e=>hst D H' hD sH (by rw[hy,e,List.take_length]))
  (λD i ys H' R hD hi hy _ sH e r=>by
    have ec:a[i]? =some a[i]:=List.getElem?_eq_getElem hi;have eg:a.getD i 0=a[i]:=by rw[List.getD_eq_getElem?_getD,ec];rfl
    rw[eg];exact hs i a[i] H' R ec sH λH6 s6=>r _ H6 s6 (by rw[e,List.take_add_one,ec,List.map_append];rfl))
end
end L2
namespace BrC
def sm:Nat->(Nat->Int)->Int
 |0,_=>0
 |n+1,f=>sm n f+f n
theorem BO{f g:Nat->Int}:∀n,(∀i,i<n->f i=g i)->sm n f=sm n g
 |0,_=>rfl
 |n+1,h=>by unfold sm;rw[BO n λi hi=>h i (Nat.lt_succ_of_lt hi),h n (Nat.lt_succ_self n)]
theorem Fz(f g:Nat->Int):∀n,sm n (λi=>f i+g i)=sm n f+sm n g
 |0=>rfl
 |n+1=>by unfold sm;rw[Fz f g n];show sm n f+sm n g+(f n+g n)=_;lia
theorem Do(c:Int)(f:Nat->Int):∀n,sm n (λi=>c*f i)=c*sm n f
 |0=>by simp[sm]
 |n+1=>by unfold sm;rw[Do c f n,Int.mul_add]
theorem Fb(c:Int)(f:Nat->Int)(n:Nat):sm n (λi=>f i*c)=sm n f*c:=by
 rw[Int.mul_comm,<-Do];exact BO n λi _=>Int.mul_comm _ _
theorem sm_zero{f:Nat->Int}:∀n,(∀i,i<n->f i=0)->sm n f=0
 |0,_=>rfl
 |n+1,h=>by unfold sm;rw[sm_zero n λi hi=>h i (Nat.lt_succ_of_lt hi),h n (Nat.lt_succ_self n)];rfl
theorem IY(f:Nat->Int):∀n,sm (n+1) f=f 0+sm n (λi=>f (i+1))
 |0=>by simp[sm]
 |n+1=>by rw[sm,IY f n,sm];lia
theorem Fd(f:Nat->Nat->Int)(m:Nat):∀n,sm n (λi=>sm m λj=>f i j)=sm m (λj=>sm n λi=>f i j)
 |0=>by rw[sm];exact(sm_zero m λ_ _=>rfl).symm
 |n+1=>by rw[sm,Fd f m n,<-Fz];rfl
theorem KN(f:Nat->Nat->Int):∀L,sm L (λa=>sm (L-a-1) λb=>f a (a+1+b))=sm L (λe=>sm e λa=>f a e)
 |0=>rfl
 |L+1=>by
  rw[sm,sm];have e:sm L (λa=>sm (L+1-a-1) λb=>f a (a+1+b))=sm L (λa=>(sm (L-a-1) λb=>f a (a+1+b))+f a L):=by
   refine BO L λa ha=>?_;have:L+1-a-1=(L-a-1)+1:=by lia
   rw[this,sm];congr 2;lia
  rw[e,Fz,KN f L,show L+1-L-1=0 by lia,sm];lia
theorem E7{f:Nat->Int}:∀n,(∀i,i<n->0<=f i)->0<=sm n f
 |0,_=>Int.le_refl _
 |n+1,h=>by unfold sm;have:=E7 n λi hi=>h i (Nat.lt_succ_of_lt hi);have:=h n (Nat.lt_succ_self n);lia
theorem Fc{f g:Nat->Int}:∀n,(∀i,i<n->f i<=g i)->sm n f<=sm n g
 |0,_=>Int.le_refl _
 |n+1,h=>by unfold sm;have:=Fc n λi hi=>h i (Nat.lt_succ_of_lt hi);have:=h n (Nat.lt_succ_self n);lia
theorem FI(c:Int):∀n,sm n (λ_=>c)=n*c
 |0=>by simp[sm]
 |n+1=>by rw[sm,FI c n];rw[Int.natCast_add,Int.add_mul];simp
theorem JX(f:Nat->Int):∀n,(∀i,i<n->i%2=1->f i=0)->sm n f=sm ((n+1)/2) λq=>f (2*q)
 |0,_=>rfl
 |n+1,h=>by
  rw[sm,JX f n λi hi=>h i (Nat.lt_succ_of_lt hi)]
  by_cases e:n%2=1
  ·rw[h n (Nat.lt_succ_self n) e,show(n+1+1)/2=(n+1)/2 by lia];lia
  ·rw[show(n+1+1)/2=(n+1)/2+1 by lia,sm,show 2*((n+1)/2)=n by lia]
theorem Hg(f:Nat->Int):∀n,((List.range n).map f).sum=sm n f
 |0=>rfl
 |n+1=>by rw[List.range_succ,List.map_append,List.sum_append,Hg f n];simp[sm]
def cv(P:Nat->Nat->Int)(k:Nat):Nat->Nat->List Nat->Int
 |0,_,[]=>1
 |0,_,_::_=>0
 |n+1,i,st=>sm k (λp=>P i (2*p)*cv P k n (i+1) (p::st))+(match st with|[]=>0|o::r=>P i (2*o+1)*cv P k n (i+1) r)
variable{P:Nat->Nat->Int}{k:Nat}
theorem Eb(n i:Nat):cv P k (n+1) i []=sm k (λp=>P i (2*p)*cv P k n (i+1) [p]):=by
 rw[cv];simp
theorem Fp(n i o:Nat)(st:List Nat):cv P k (n+1) i (o::st)=sm k (λp=>P i (2*p)*cv P k n (i+1) (p::o::st))+P i (2*o+1)*cv P k n (i+1) st:=by
 rw[cv]
theorem QT:∀ (N n i o:Nat) (st:List Nat),n<=N->cv P k n i (o::st)=sm n (λe=>cv P k e i []*P (i+e) (2*o+1)*cv P k (n-e-1) (i+e+1) st):=by
 intro N
 induction N with
 |zero=>intro n i o st h;obtain rfl:n=0:=by lia
        rfl
 |succ N ih=>
  intro n i o st h
  cases n with
  |zero=>rfl
  |succ n=>
   rw[Fp,IY,show cv P k 0 i []=1 from rfl];have e0:(1:Int)*P (i+0) (2*o+1)*cv P k (n+1-0-1) (i+0+1) st=P i (2*o+1)*cv P k n (i+1) st:=by rw[Int.one_mul];rfl
   rw[e0,Int.add_comm];congr 1;have L:∀p,cv P k n (i+1) (p::o::st)=sm n (λe=>sm e λa=>(cv P k a (i+1) []*P (i+1+a) (2*p+1))*(cv P k (e-a-1) (i+a+2) []*P (i+e+1) (2*o+1)*cv P k (n-e-1) (i+e+2) st)):=by
    intro p;rw[ih n (i+1) p (o::st) (by lia),<-KN];refine BO n λa ha=>?_;rw[ih (n-a-1) (i+1+a+1) o st (by lia),<-Do];refine BO _ λb hb=>?_;rw[show a+1+b-a-1=b by lia,show i+1+a+1=i+a+2 by lia,show i+a+2+b=i+(a+1+b)+1 by lia,show n-a-1-b-1=n-(a+1+b)-1 by lia,show i+(a+1+b)+1+1=i+(a+1+b)+2 by lia]
   have e1:sm k (λp=>P i (2*p)*cv P k n (i+1) (p::o::st))=sm k (λp=>sm n λe=>P i (2*p)*sm e λa=>(cv P k a (i+1) []*P (i+1+a) (2*p+1))*(cv P k (e-a-1) (i+a+2) []*P (i+e+1) (2*o+1)*cv P k (n-e-1) (i+e+2) st)):=by
    refine BO k λp _=>?_;rw[L p,<-Do]
   rw[e1,Fd];refine BO n λe he=>?_;rw[Eb,show i+(e+1)=i+e+1 by lia,show n+1-(e+1)-1=n-e-1 by lia,show i+e+1+1=i+e+2 by lia,Int.mul_assoc,<-Fb];refine BO k λp _=>?_;rw[ih e (i+1) p [] (by lia),Int.mul_assoc];congr 1;rw[<-Fb];refine BO e λa ha=>?_;rw[show i+1+a+1=i+a+2 by lia];simp only[Int.mul_assoc,Int.mul_comm,Int.mul_left_comm]
theorem Dr:∀ (n i:Nat) (st:List Nat),(n+st.length)%2=1->cv P k n i st=0
 |0,_,[],h=>by simp at h
 |0,_,_::_,_=>rfl
 |n+1,i,[],h=>by
  rw[Eb];refine sm_zero k λp _=>?_;rw[Dr n (i+1) [p] (by simp at h⊢;lia),Int.mul_zero]
 |n+1,i,o::st,h=>by
  rw[Fp,sm_zero k λp _=>by rw[Dr n (i+1) (p::o::st) (by simp at h⊢;lia),Int.mul_zero],Dr n (i+1) st (by simp at h⊢;lia),Int.mul_zero]
  rfl
def pr(P:Nat->Nat->Int)(k i j:Nat):Int:=sm k λp=>P i (2*p)*P j (2*p+1)
theorem Kk(m i:Nat):cv P k (m+1) i []=sm m (λe=>pr P k i (i+1+e)*cv P k e (i+1) []*cv P k (m-e-1) (i+e+2) []):=by
 rw[Eb];have e1:sm k (λp=>P i (2*p)*cv P k m (i+1) [p])=sm k (λp=>sm m λe=>P i (2*p)*P (i+1+e) (2*p+1)*(cv P k e (i+1) []*cv P k (m-e-1) (i+e+2) [])):=by
  refine BO k λp _=>?_;rw[QT m m (i+1) p [] (Nat.le_refl _),<-Do];refine BO m λe _=>?_;rw[show i+1+e+1=i+e+2 by lia];simp only[Int.mul_assoc,Int.mul_comm,Int.mul_left_comm]
 rw[e1,Fd];refine BO m λe _=>?_;rw[Fb,Int.mul_assoc]
 rfl
theorem Ru(m i:Nat):cv P k (m+1) i []=sm ((m+1)/2) (λq=>pr P k i (i+1+2*q)*cv P k (2*q) (i+1) []*cv P k (m-2*q-1) (i+2*q+2) []):=by
 rw[Kk,JX];intro e _ h;rw[Dr e (i+1) [] (by simpa using h),Int.mul_zero,Int.zero_mul]
theorem FU{c:Int}(hc:0<=c)(h0:∀i b,0<=P i b)(h1:∀i b,P i b<=c):∀ (n i:Nat) (st:List Nat),0<=cv P k n i st/\cv P k n i st<=(((k:Int)+1)*c)^n
 |0,i,[]=>⟨by simp[cv],by simp[cv]⟩
 |0,i,_::_=>⟨by simp[cv],by simp[cv]⟩
 |n+1,i,st=>by
  have ih:=FU hc h0 h1 n (i+1);have hB:0<=(((k:Int)+1)*c)^n:=Int.le_trans (ih []).1 (ih []).2;have tm:∀b s',0<=P i b*cv P k n (i+1) s'/\P i b*cv P k n (i+1) s'<=c*(((k:Int)+1)*c)^n:=λb s'=>
   ⟨Int.mul_nonneg (h0 i b) (ih s').1,Int.mul_le_mul (h1 i b) (ih s').2 (ih s').1 hc⟩
  have s1:0<=sm k (λp=>P i (2*p)*cv P k n (i+1) (p::st)):=E7 k λp _=>(tm _ _).1;have s2:sm k (λp=>P i (2*p)*cv P k n (i+1) (p::st))<=k*(c*(((k:Int)+1)*c)^n):=by
   rw[<-FI];exact Fc k λp _=>(tm _ _).2
  have e:(((k:Int)+1)*c)^(n+1)=k*(c*(((k:Int)+1)*c)^n)+c*(((k:Int)+1)*c)^n:=by
   rw[Int.pow_succ,Int.mul_comm,Int.mul_assoc,Int.add_mul,Int.one_mul]
  have s3:0<=c*(((k:Int)+1)*c)^n:=Int.mul_nonneg hc hB
  cases st with
  |nil=>rw[Eb,e];exact⟨s1,by lia⟩
  |cons o r=>
   have:=tm (2*o+1) r;rw[Fp,e];constructor<;>lia
end BrC
namespace BrC
theorem JW{f:Nat->Int}(n:Nat):∀d,(∀e,n<=e->f e=0)->sm (n+d) f=sm n f
 |0,_=>rfl
 |d+1,h=>by rw[show n+(d+1)=(n+d)+1 by lia,sm,JW n d h,h (n+d) (by lia)];lia
variable{P:Nat->Nat->Int}{k:Nat}
end BrC
namespace BrS
open L2 PySem BrM BrC
abbrev iL(l:List Int):HO:= .lst (l.map V.int)
def Pls(H:Hp)(r:Addr)(ps:List (List Int)):Prop:=∃ad:Nat->Addr,H r=some (.lst ((List.range ps.length).map λi=>V.ref (ad i)))/\∀i,i<ps.length->H (ad i)=some (iL (ps.getD i []))
theorem Pls.same{H H':Hp}{r:Addr}{ps:List (List Int)}(h:Pls H r ps)(s:Same H H'):Pls H' r ps:=by
 obtain⟨ad,h1,h2⟩:=h;exact⟨ad,s _ _ h1,λi hi=>s _ _ (h2 i hi)⟩
def rwl(n:Nat)(f:Nat->Int):List V:=(List.range (n+1)).map λj=>V.int (f j)
theorem DD(n:Nat)(f:Nat->Int):(rwl n f).length=n+1:=by simp[rwl]
theorem Ck{n j:Nat}{f:Nat->Int}(h:j<=n):(rwl n f)[j]? =some (.int (f j)):=by
 unfold rwl;rw[List.getElem?_map,List.getElem?_range (by lia)];rfl
theorem RB{n j:Nat}{f:Nat->Int}{v:Int}:(rwl n f).set j (.int v)=rwl n (λx=>if x=j then v else f x):=by
 apply List.ext_getElem?;intro i;unfold rwl;rw[List.getElem?_set,List.getElem?_map,List.getElem?_map]
 by_cases e:j=i
 ·subst e
  by_cases hj:j<n+1
  ·rw[List.getElem?_range hj];simp[hj]
  ·rw[if_pos rfl,if_neg (by simpa using hj)];rw[List.getElem?_eq_none (by simpa using hj)];rfl
 ·rw[if_neg e]
  by_cases hi:i<n+1
  ·rw[List.getElem?_range hi];simp[Ne.symm e]
  ·rw[List.getElem?_eq_none (by simpa using hi)];rfl
theorem E8{n:Nat}{f g:Nat->Int}(h:∀j,j<=n->f j=g j):rwl n f=rwl n g:=by
 unfold rwl;refine List.map_congr_left λj hj=>?_;rw[h j (by have:=List.mem_range.mp hj;lia)]
structure Tb (H0 H:Hp) (s:Addr) (ad:Nat->Addr) (n:Nat) (T:Nat->Nat->Int):Prop where
 fs:H0 s=none
 fa:∀i,i<=n->H0 (ad i)=none
 ns:∀i,i<=n->ad i≠s
 inj:∀i j,i<=n->j<=n->ad i=ad j->i=j
 top:H s=some (.lst ((List.range (n+1)).map λi=>V.ref (ad i)))
 row:∀i,i<=n->H (ad i)=some (.lst (rwl n (T i)))
 sm:Same H0 H
section
variable{H0 H H':Hp}{s:Addr}{ad:Nat->Addr}{n:Nat}{T T':Nat->Nat->Int}
theorem Tb.same(t:Tb H0 H s ad n T)(h:Same H H'):Tb H0 H' s ad n T:=⟨t.fs,t.fa,t.ns,t.inj,h _ _ t.top,λi hi=>h _ _ (t.row i hi),t.sm.trans h⟩
theorem Tb.congr(t:Tb H0 H s ad n T)(h:∀i j,i<=n->j<=n->T i j=T' i j):Tb H0 H s ad n T':=⟨t.fs,t.fa,t.ns,t.inj,t.top,λi hi=>by rw[t.row i hi,E8 λj hj=>h i j hi hj],t.sm⟩
theorem Tb.at(t:Tb H0 H s ad n T){i:Nat}(hi:i<=n):((List.range (n+1)).map λi=>V.ref (ad i))[i]? =some (.ref (ad i)):=by
 rw[List.getElem?_map,List.getElem?_range (by lia)];rfl
theorem Tb.set(t:Tb H0 H s ad n T){i j:Nat}{v:Int}(hi:i<=n):Tb H0 (upd H (ad i) (.lst ((rwl n (T i)).set j (.int v)))) s ad n (λa b=>if a=i/\b=j then v else T a b):=by
 refine⟨t.fs,t.fa,t.ns,t.inj,by rw[AG (Ne.symm (t.ns i hi))];exact t.top,λa ha=>?_,λb o z=>?_⟩
 ·by_cases e:a=i
  ·subst e;rw[AF,RB];congr 2;refine E8 λx _=>?_
   by_cases q:x=j<;>simp[q]
  ·rw[AG (λz=>e (t.inj a i ha hi z)),t.row a ha];congr 2;refine E8 λx _=>?_;simp[e]
 ·rw[AG (AQ z (t.fa i hi))];exact t.sm b o z
end
def brs:List Nat:=[40,41,91,93,123,125,60,62]
def plw(w:List Int)(c:Nat):List Int:=if c=63 then w else(brs.take w.length).map λb=>if c=b then 1 else 0
theorem RL{w:List Int}{c:Nat}(h:w.length<=8):(plw w c).length=w.length:=by
 unfold plw
 split
 ·rfl
 ·rw[List.length_map,List.length_take];exact Nat.min_eq_left h
abbrev PP(ps:List (List Int)):Nat->Nat->Int:=λi b=>(ps.getD i []).getD b 0
abbrev ones(k:Nat):List Int:=List.replicate (2*k) 1
def cnt(k:Nat)(a:List Nat):Int:=cv (PP (a.map (plw (ones k)))) k a.length 0 []
inductive spWeighed (K:W.Frag) (vs:List V) (H:Hp) (Q:VK) (E:XK):Prop
 |mk (a:List Nat) (p:Addr) (w:List Int) (_:vs=[tx a, .ref p]) (_:a.length<=40) (_:SqL K H p (w.map V.int)) (_:w.length<=8) (_:∀r H',H r=none->Same H H'->Pls H' r (a.map (plw w))->Q (.ref r) H')
theorem My{K:W.Frag}{H:Hp}{a:List Nat}{p:Addr}{w:List Int}{Q:VK}{E:XK}(h1:a.length<=40)(h2:SqL K H p (w.map V.int))(h3:w.length<=8)(q:∀r H',H r=none->Same H H'->Pls H' r (a.map (plw w))->Q (.ref r) H'):spWeighed K ([tx a, .ref p]++[]) H Q E:=⟨a,p,w,rfl,h1,h2,h3,q⟩
inductive spCounted (vs:List V) (H:Hp) (Q:VK) (E:XK):Prop
 |mk (k:Int) (a:List Nat) (_:vs=[.int k,tx a]) (_:1<=k) (_:k<=4) (_:a.length<=40) (_:∀r H',H r=none->Same H H'->Pls H' r (a.map (plw (ones k.toNat)))->Q (.ref r) H')
theorem DW{H:Hp}{k:Int}{a:List Nat}{Q:VK}{E:XK}(h1:1<=k)(h2:k<=4)(h3:a.length<=40)(q:∀r H',H r=none->Same H H'->Pls H' r (a.map (plw (ones k.toNat)))->Q (.ref r) H'):spCounted ([.int k,tx a]++[]) H Q E:=⟨k,a,rfl,h1,h2,h3,q⟩
def top30:Int:=10^31
def Sm(l:List Int):Prop:=∀v∈l,0<=v/\v<=top30
theorem Sm.at{l:List Int}(h:Sm l)(b:Nat):0<=l.getD b 0/\l.getD b 0<=top30:=by
 rw[List.getD_eq_getElem?_getD]
 cases e:l[b]? with
 |none=>exact⟨by simp,by simp[top30]⟩
 |some v=>exact h v (List.mem_of_getElem? e)
inductive spPair (vs:List V) (H:Hp) (Q:VK) (E:XK):Prop
 |mk (p q:Addr) (x y:List Int) (k:Nat) (_:vs=[.ref p, .ref q]) (_:H p=some (iL x)) (_:H q=some (iL y)) (_:x.length=2*k) (_:y.length=2*k) (_:k<=4) (_:Sm x) (_:Sm y) (_:∀H',Same H H'->Q (.int (sm k λo=>x.getD (2*o) 0*y.getD (2*o+1) 0)) H')
theorem P5{H:Hp}{p q:Addr}{x y:List Int}{k:Nat}{Q:VK}{E:XK}(h1:H p=some (iL x))(h2:H q=some (iL y))(l1:x.length=2*k)(l2:y.length=2*k)(hk:k<=4)(s1:Sm x)(s2:Sm y)(r:∀H',Same H H'->Q (.int (sm k λo=>x.getD (2*o) 0*y.getD (2*o+1) 0)) H'):spPair ([.ref p, .ref q]++[]) H Q E:=⟨p,q,x,y,k,rfl,h1,h2,l1,l2,hk,s1,s2,r⟩
inductive spNoSums (vs:List V) (H:Hp) (Q:VK) (E:XK):Prop
 |mk (n:Nat) (_:vs=[.int n]) (_:n<=40) (_:∀s ad H',Tb H H' s ad n (λ_ _=>0)->Q (.ref s) H')
theorem HQ{H:Hp}{n:Nat}{Q:VK}{E:XK}(h1:n<=40)(r:∀s ad H',Tb H H' s ad n (λ_ _=>0)->Q (.ref s) H'):spNoSums ([.int n]++[]) H Q E:=⟨n,rfl,h1,r⟩
def tbl(P:Nat->Nat->Int)(k:Nat)(i j:Nat):Int:=if i<=j then cv P k (j-i) i []else 0
def JR:Sp:=λvs H Q _=>∃ (p:Addr) (ps:List (List Int)) (k:Nat),vs=[.ref p]/\Pls H p ps/\ps.length<=40/\k<=4/\(∀l∈ps,l.length=2*k/\Sm l)/\∀s ad H',Tb H H' s ad ps.length (tbl (PP ps) k)->Q (.ref s) H'
theorem DX{H:Hp}{p:Addr}{ps:List (List Int)}{k:Nat}{Q:VK}{E:XK}(h1:Pls H p ps)(h2:ps.length<=40)(h3:k<=4)(h4:∀l∈ps,l.length=2*k/\Sm l)(r:∀s ad H',Tb H H' s ad ps.length (tbl (PP ps) k)->Q (.ref s) H'):JR ([.ref p]++[]) H Q E:=⟨p,ps,k,rfl,h1,h2,h3,h4,r⟩
inductive spWholeSum (vs:List V) (H:Hp) (Q:VK) (E:XK):Prop
 |mk (H0 s ad n T:_) (_:vs=[.ref s]) (_:Tb H0 H s ad n T) (_:Q (.int (T 0 n)) H)
theorem DU{H0 H:Hp}{s:Addr}{ad:Nat->Addr}{n:Nat}{T:Nat->Nat->Int}{Q:VK}{E:XK}(h:Tb H0 H s ad n T)(q:Q (.int (T 0 n)) H):spWholeSum ([.ref s]++[]) H Q E:=⟨H0,s,ad,n,T,rfl,h,q⟩
theorem RZ(k:Nat):Sm (ones k):=λv hv=>by
 obtain rfl:=List.eq_of_mem_replicate hv;exact⟨by decide,by decide⟩
theorem TN{w:List Int}(h:Sm w)(c:Nat):Sm (plw w c):=by
 unfold plw
 split
 ·exact h
 ·intro v hv;obtain⟨b,_,rfl⟩:=List.mem_map.mp hv
  split<;>exact⟨by decide,by decide⟩
theorem Ci{ps:List (List Int)}(h:∀l∈ps,Sm l)(i b:Nat):0<=PP ps i b/\PP ps i b<=top30:=by
 show 0<=(ps.getD i []).getD b 0/\(ps.getD i []).getD b 0<=top30
 cases e:ps[i]? with
 |none=>
  have q:ps.getD i []=[]:=by rw[List.getD_eq_getElem?_getD,e];rfl
  rw[q];exact⟨by simp,by simp[top30]⟩
 |some l=>
  have q:ps.getD i []=l:=by rw[List.getD_eq_getElem?_getD,e];rfl
  rw[q];exact(h l (List.mem_of_getElem? e)).at b
theorem EH{x y:Int}(h0:0<=x)(h:x<=y):∀n:Nat,0<=x^n/\x^n<=y^n
 |0=>by simp
 |n+1=>by
  obtain⟨a,b⟩:=EH h0 h n;rw[Int.pow_succ,Int.pow_succ];exact⟨Int.mul_nonneg a h0,Int.mul_le_mul b h h0 (Int.le_trans a b)⟩
theorem KS{x:Int}(h1:1<=x){m n:Nat}(h:m<=n):x^m<=x^n:=by
 induction n with
 |zero=>obtain rfl:m=0:=by lia
        exact Int.le_refl _
 |succ n ih=>
  by_cases e:m=n+1
  ·subst e;exact Int.le_refl _
  ·have h2:=ih (by lia);have h3:=(EH (x:=x) (y:=x) (by lia) (Int.le_refl _) n).1;rw[Int.pow_succ];have:=Int.mul_le_mul (Int.le_refl (x^n)) h1 (by decide) h3;lia
def cap:Int:=(5*top30)^40
theorem Kl{ps:List (List Int)}{k:Nat}(hk:k<=4)(h:∀l∈ps,Sm l){n:Nat}(hn:n<=40)(i:Nat)(st:List Nat):0<=cv (PP ps) k n i st/\cv (PP ps) k n i st<=cap:=by
 obtain⟨a,b⟩:=FU (P:=PP ps) (k:=k) (c:=top30) (by decide) (λi b=>(Ci h i b).1) (λi b=>(Ci h i b).2) n i st;refine⟨a,Int.le_trans b ?_⟩;have h1:(0:Int)<=((k:Int)+1)*top30:=Int.mul_nonneg (by lia) (by decide);have h2:((k:Int)+1)*top30<=5*top30:=Int.mul_le_mul_of_nonneg_right (by lia) (by decide);refine Int.le_trans (EH h1 h2 n).2 (KS (by decide) hn)
theorem TK{ps:List (List Int)}{k:Nat}(hk:k<=4)(h:∀l∈ps,Sm l)(i j:Nat):0<=pr (PP ps) k i j/\pr (PP ps) k i j<=4*(top30*top30):=by
 unfold pr;have tm:∀p,0<=PP ps i (2*p)*PP ps j (2*p+1)/\PP ps i (2*p)*PP ps j (2*p+1)<=top30*top30:=λp=>
  ⟨Int.mul_nonneg (Ci h _ _).1 (Ci h _ _).1,Int.mul_le_mul (Ci h _ _).2 (Ci h _ _).2 (Ci h _ _).1 (by decide)⟩
 refine⟨E7 k λp _=>(tm p).1,Int.le_trans (Fc (g:=λ_=>top30*top30) k λp _=>(tm p).2) ?_⟩;rw[FI];exact Int.mul_le_mul_of_nonneg_right (by lia) (by decide)
theorem DH{i c:Int}(h0:0<=i)(h:i<=c)(hc:c.natAbs<big):i.natAbs<big:=by
 refine Nat.lt_of_le_of_lt ?_ hc;lia
theorem KB:cap.natAbs<big:=by unfold cap big top30;decide +kernel
theorem QX:(4*(top30*top30)*cap).natAbs<big:=by unfold cap big top30;decide +kernel
theorem JL:top30.natAbs<big:=by unfold big top30;decide +kernel
theorem TF:(4*(top30*top30)).natAbs<big:=by unfold big top30;decide +kernel
theorem Pi(n:Nat):(List.replicate (n+1) [V.int 0]).flatten=rwl n λ_=>0:=by
 unfold rwl;have:∀m,(List.replicate m [V.int 0]).flatten=(List.range m).map λ_=>V.int 0:=by
  intro m
  induction m with
  |zero=>rfl
  |succ m ih=>rw[List.replicate_succ',List.flatten_append,ih,List.range_succ,List.map_append];rfl
 exact this (n+1)
theorem Dj{α:Type}{xs:List α}{v:α}(h:0<xs.length)(e:xs[xs.length-1]? =some v):atI xs (-1)=some v:=by
 unfold atI ixN;rw[if_neg (by lia),if_pos (by lia)];have:((-1:Int)+xs.length).toNat=xs.length-1:=by lia
 simp only[this,Option.bind];exact e
theorem Pj(m:Nat):(List.replicate (2*m) [V.int 1]).flatten=(ones m).map V.int:=by
 unfold ones;generalize 2*m=j
 induction j with
 |zero=>rfl
 |succ j ih=>rw[List.replicate_succ,List.flatten_cons,ih,List.replicate_succ];rfl
theorem int_at{l:List Int}{j:Nat}(h:j<l.length):(l.map V.int)[j]? =some (.int (l.getD j 0)):=by
 rw[List.getElem?_map,List.getD_eq_getElem?_getD,List.getElem?_eq_getElem h];rfl
def part(P:Nat->Nat->Int)(k i q j:Nat):Int:=
 if j<=i then(if j=i then 1 else 0)else if(j-i)%2=1 then 0 else
  sm q λe=>if i+2+2*e<=j then pr P k i (i+1+2*e)*cv P k (2*e) (i+1) []*cv P k (j-(i+2+2*e)) (i+2+2*e) []else 0
section
variable{P:Nat->Nat->Int}{k i q j n:Nat}
theorem OQ:part P k i 0 j=if j=i then 1 else 0:=by
 unfold part
 by_cases h:j<=i
 ·rw[if_pos h]
 ·rw[if_neg h,if_neg (show¬ (j=i) by lia)]
  split<;>rfl
theorem Ij(h:i<j/\(j-i)%2=1):part P k i q j=0:=by
 unfold part;rw[if_neg (by lia),if_pos h.2]
theorem OS(h:j<i+2+2*q):part P k i (q+1) j=part P k i q j:=by
 unfold part
 by_cases h1:j<=i
 ·rw[if_pos h1,if_pos h1]
 ·rw[if_neg h1,if_neg h1,sm,if_neg (show¬ (i+2+2*q<=j) by lia),Int.add_zero]
theorem OT{en:Nat}(he:en=i+1+2*q)(h:en+1<=j)(h2:(j-i)%2=0):part P k i q j+pr P k i en*cv P k (2*q) (i+1) []*cv P k (j-(en+1)) (en+1) []=part P k i (q+1) j:=by
 subst he;unfold part;rw[if_neg (by lia),if_neg (by lia),if_neg (by lia),if_neg (by lia),sm,if_pos (show i+2+2*q<=j by lia),show i+1+2*q+1=i+2+2*q by lia]
theorem P4(hj:j<=n):part P k i ((n-i)/2) j=tbl P k i j:=by
 unfold part tbl
 by_cases h1:j<=i
 ·rw[if_pos h1]
  by_cases h2:j=i
  ·subst h2;rw[if_pos rfl,if_pos (Nat.le_refl _),Nat.sub_self];rfl
  ·rw[if_neg h2,if_neg (by lia)]
 ·rw[if_neg h1,if_pos (show i<=j by lia)]
  by_cases h2:(j-i)%2=1
  ·rw[if_pos h2,Dr _ _ _ (by simpa using h2)]
  ·rw[if_neg h2];obtain⟨m,hm⟩:∃m,j-i=m+1:=⟨j-i-1,by lia⟩;rw[hm,Ru];obtain⟨d,hd⟩:∃d,(n-i)/2=(m+1)/2+d:=⟨(n-i)/2-(m+1)/2,by lia⟩;rw[hd,JW _ d λe h3=>by rw[if_neg (by lia)]];refine BO _ λe h3=>?_;rw[if_pos (by lia),show j-(i+2+2*e)=m-2*e-1 by lia,show i+2+2*e=i+2*e+2 by lia]
end
theorem DV{k:Nat}{a:List Nat}(hk:k<=4):∀l∈a.map (plw (ones k)),l.length=2*k/\Sm l:=λl hl=>by
 obtain⟨c,_,rfl⟩:=List.mem_map.mp hl;exact⟨by rw[RL (by rw[List.length_replicate];lia),List.length_replicate],TN (RZ k) c⟩
theorem S9(n c:Nat):(List.replicate n [c]).flatten=List.replicate n c:=by
 induction n with
 |zero=>rfl
 |succ n ih=>rw[List.replicate_succ,List.flatten_cons,ih];rfl
theorem Os{k:Int}{n:Nat}(h:n<=40):isRow k (List.replicate n 63)=true:=by
 unfold isRow;rw[Bool.and_eq_true];refine⟨decide_eq_true (by rw[List.length_replicate];exact h),List.all_eq_true.mpr λc hc=>?_⟩;rw[List.eq_of_mem_replicate hc];refine decide_eq_true ?_;unfold sgn;exact List.mem_append_right _ (List.mem_singleton.mpr rfl)
section
variable{σ:St}{H:Hp}{Q:VK}{K:W.Frag}
end
theorem Hj{w:List Nat}(h:w≠[]):∃i d,w=i++[d]:=⟨w.dropLast,w.getLast h,(List.dropLast_concat_getLast h).symm⟩
theorem JI(i:List Nat)(d:Nat):atI (i++[d]) (-1)=some d:=Dj (by simp) (by simp)
theorem JC(i:List Nat)(d:Nat):A8 (i++[d]) none (some (-1))=i:=by
 unfold A8;have e1:HT.sIx (i++[d]).length (i++[d]).length (some (-1))=i.length:=by
  unfold HT.sIx;simp;lia
 rw[HT.sIx_none,e1];simp
end BrS
namespace L2
open PySem PySem.Spec PyProof.Rows
section
variable{X:Cx}{pins:List (Addr×Obj)}{σ:St}{H:Hp}{s:Shared}
end
def Low(a:List Nat):Prop:=∀c∈a,c<16^8
theorem Hl{α β:Type}{F:α->β->Prop}:∀ {l:List α} {m:List β},l.length=m.length->(∀ (i:Nat) x u,l[i]? =some x->m[i]? =some u->F x u)->Paired F l m
 |[],[],_,_=> .nil
 |[],_::_,h,_=>by simp at h
 |_::_,[],h,_=>by simp at h
 |a::l,b::m,h,hf=> .cons (hf 0 a b rfl rfl) (Hl (by simpa using h) λi x u h1 h2=>hf (i+1) x u (by simpa using h1) (by simpa using h2))
section
variable{X:Cx}
def rListS:List V->Hp->VK->Prop:=λxs H Q=>∃a,xs=[tx a]/\a.length<=1000/\∀l,H l=none->Q (.ref l) (upd H l (.lst ((a.map λc=>[c]).map tx)))
theorem N6(K:W.Frag)(hc:X.calm=true):CallR X (.type "list") rListS:=by
 intro pins s σ H xs us Q I r h;obtain⟨a,rfl,ha,q⟩:=h;obtain⟨u,rfl,rx⟩:=vals1 r;obtain⟨t,rfl⟩:=rx;refine PySem.call_list_str (I.ok.hd hc) _ t (λh' tk acc' c' hk e it=>?_) (by rw[sizeLine_eq];show a.toArray.size<=_;rw[List.size_toArray];lia);obtain⟨hsz,hit⟩:=it;have hsz':acc'.size=a.length:=by rw[hsz];simp
 have hv:Vals ((a.map λc=>[c]).map tx) acc'.toList:=by
  refine Hl ?_ λi x u hx hu=>?_
  ·simp[hsz']
  ·have hu':acc'[i]? =some u:=by simpa using hu
   obtain⟨c,t',e1,rfl⟩:=hit i u hu';have e2:a[i]? =some c:=by simpa using e1
   rw[List.map_map,List.getElem?_map,e2]at hx
   cases hx
   exact⟨t',rfl⟩
 refine⟨.ref s.heap.objs.size,_,I.laid (t':=tk) (o:= .lst ((a.map λc=>[c]).map tx)) hk (Nat.le_refl _) ⟨?_,acc'.toList,c',hv,by simpa using e⟩,rfl,q _ (I.hok.fresh (Nat.le_refl _))⟩;rw[List.length_map,List.length_map,sizeLine_eq];lia
end
theorem R6{es p x l env}:swapsWith (.List es p) x l env=pure false:=rfl
theorem SE{c z pos es env}:starEach (.Constant c z pos::es) env=(false,eval (.Constant c z pos) env)::starEach es env:=rfl
theorem SC{c pos es env}:starEach (.List c pos::es) env=(false,eval (.List c pos) env)::starEach es env:=rfl
theorem R8{c z pos es env}:starEach (.Tuple c z pos::es) env=(false,eval (.Tuple c z pos) env)::starEach es env:=rfl
theorem SD{c z pos es env}:starEach (.Dict c z pos::es) env=(false,eval (.Dict c z pos) env)::starEach es env:=rfl
theorem SG{c o d pos es env}:starEach (.BinOp c o d pos::es) env=(false,eval (.BinOp c o d pos) env)::starEach es env:=rfl
theorem R7{o c pos es env}:starEach (.UnaryOp o c pos::es) env=(false,eval (.UnaryOp o c pos) env)::starEach es env:=rfl
theorem SF{f a k pos es env}:starEach (.Call f a k pos::es) env=(false,eval (.Call f a k pos) env)::starEach es env:=rfl
theorem SA{x pos es env}:starEach (.Name x pos::es) env=(false,eval (.Name x pos) env)::starEach es env:=rfl
theorem R9{a b pos es env}:starEach (.Subscript a b pos::es) env=(false,eval (.Subscript a b pos) env)::starEach es env:=rfl
inductive Pl (X:Cx):List Expr->List TE->Prop
 |nil:Pl X [] []
 |con {c z p t es ts} (h:PE X (.Constant c z p) t) (r:Pl X es ts):Pl X (.Constant c z p::es) (t::ts)
 |lst {c p t es ts} (h:PE X (.List c p) t) (r:Pl X es ts):Pl X (.List c p::es) (t::ts)
 |tup {c z p t es ts} (h:PE X (.Tuple c z p) t) (r:Pl X es ts):Pl X (.Tuple c z p::es) (t::ts)
 |dct {c z p t es ts} (h:PE X (.Dict c z p) t) (r:Pl X es ts):Pl X (.Dict c z p::es) (t::ts)
 |bin {c o d p t es ts} (h:PE X (.BinOp c o d p) t) (r:Pl X es ts):Pl X (.BinOp c o d p::es) (t::ts)
 |una {o c p t es ts} (h:PE X (.UnaryOp o c p) t) (r:Pl X es ts):Pl X (.UnaryOp o c p::es) (t::ts)
 |cal {f a k p t es ts} (h:PE X (.Call f a k p) t) (r:Pl X es ts):Pl X (.Call f a k p::es) (t::ts)
 |nam {x p t es ts} (h:PE X (.Name x p) t) (r:Pl X es ts):Pl X (.Name x p::es) (t::ts)
 |sub {a b p t es ts} (h:PE X (.Subscript a b p) t) (r:Pl X es ts):Pl X (.Subscript a b p::es) (t::ts)
def Bz:List TE->TA
 |[]=>tNil
 |t::ts=>Bd t (Bz ts)
theorem Pl.pa{X:Cx}{es:List Expr}{ts:List TE}(h:Pl X es ts):PA X es (Bz ts):=by
 induction h with
 |nil=>exact AB
 |con h _ ih=>exact AA h ih SE
 |lst h _ ih=>exact AA h ih SC
 |tup h _ ih=>exact AA h ih R8
 |dct h _ ih=>exact AA h ih SD
 |bin h _ ih=>exact AA h ih SG
 |una h _ ih=>exact AA h ih R7
 |cal h _ ih=>exact AA h ih SF
 |nam h _ ih=>exact AA h ih SA
 |sub h _ ih=>exact AA h ih R9
theorem RI{X:Cx}{st:Stmt}{i:Nat}{x:Str}{es:List Expr}{ts:List TE}{pos pos' p:Pos}(est:st= .Assign [.Name x pos'] (.List es p) pos)(hN:X.N.Nodup)(hi:X.N[i]? =some x)(hx:Loc X.env.scope x)(hf:X.fn x=true\/X.env.scope.names.lookup x=some .local)(hes:Pl X es ts):PS X st (Bf (C4 (Bz ts)) (Aw i)):=by
 subst est;exact CH hN hi hx (AW hes.pa) R6 hf
inductive PSb (X:Cx) (st:Stmt) (t:TS):Prop
 |mk (h:PS X st t):PSb X st t
theorem PSb.ps{X:Cx}{st:Stmt}{t:TS}(h:PSb X st t):PS X st t:=h.casesOn λh=>h
inductive PEb (X:Cx) (e:Expr) (t:TE):Prop
 |mk (h:PE X e t):PEb X e t
theorem PEb.pe{X:Cx}{e:Expr}{t:TE}(h:PEb X e t):PE X e t:=h.casesOn λh=>h
theorem Fi{X:Cx}{es:List Expr}{ts:List TE}{p:Pos}(h:Pl X es ts):PEb X (.List es p) (C4 (Bz ts)):=⟨AW h.pa⟩
theorem Jf{X:Cx}{st:Stmt}{i:Nat}{x:Str}{es:List Expr}{ts:List TE}{pos pos' p:Pos}(est:st= .Assign [.Name x pos'] (.List es p) pos)(hN:X.N.Nodup)(hi:X.N[i]? =some x)(hx:Loc X.env.scope x)(hf:X.fn x=true\/X.env.scope.names.lookup x=some .local)(hes:Pl X es ts):PSb X st (Bf (C4 (Bz ts)) (Aw i)):=⟨RI est hN hi hx hf hes⟩
end L2
namespace BrM
open L2 PySem
theorem Qt{H:Hp}{Q:VK}{a:List Nat}(ha:a.length<=1000)(q:∀l,H l=none->Q (.ref l) (upd H l (.lst ((a.map λc=>[c]).map tx)))):rListS [tx a] H Q:=⟨a,rfl,ha,q⟩
def Et(a:List Nat):Prop:=Low a/\a.length<=1000
inductive Th (p:Addr) (H:Hp):V->Prop
 |txt (a:List Nat) (h:Et a):Th p H (tx a)
 |non:Th p H .non
 |int (i:Int) (h:i=0\/i=7):Th p H (.int i)
 |bl (b:Bool):Th p H (.bl b)
 |lst {q:Addr} {l:List (List Nat)} (h:H q=some (.lst (l.map tx))) (n:q≠p) (f:∀a∈l,Et a) (z:l.length<=1100):Th p H (.ref q)
 |tup {q:Addr} {l:List (List Nat)} (h:H q=some (.tup (l.map tx))) (n:q≠p) (f:∀a∈l,Et a) (z:l.length<=1):Th p H (.ref q)
 |dc0 {q:Addr} (h:H q=some (.dK [])) (n:q≠p):Th p H (.ref q)
 |dc1 {q:Addr} {a:List Nat} (h:H q=some (.dK [(.inr ⟨a.toArray⟩, .int 1)])) (n:q≠p) (f:Et a):Th p H (.ref q)
theorem all_cons{p:Addr}{H:Hp}{x:V}{l:List V}(h1:Th p H x)(h2:∀v∈l,Th p H v):∀v∈x::l,Th p H v:=λv hv=>(List.mem_cons.mp hv).elim (λe=>e▸h1) (h2 v)
theorem RE(n:Nat)(b:List Nat):(List.replicate n b).flatten.length=n*b.length:=by
 induction n with
 |zero=>simp
 |succ n ih=>rw[List.replicate_succ,List.flatten_cons,List.length_append,ih,Nat.add_mul];lia
end BrM
namespace L2
open PySem PySem.Spec PyProof.Rows
structure MeU (P:Program) (w:World) (K:W.Frag) (mg:Str->Option Value) (base:Heap) (k:Nat) (C:Addr) (m:Str) (ps:List Str) (sp:Sp):Prop where
 ex:∃f fd,FnOk P w K mg base CX0 k f fd ps sp/\Meth K C m f/\Binds K fd ps []
structure MkU (P:Program) (w:World) (K:W.Frag) (mg:Str->Option Value) (base:Heap) (k:Nat) (C:Addr) (ps:List Str) (sp:Sp):Prop where
 ex:∃j f fd,j+1<=k/\FnOk P w K mg base CX0 j f fd ps sp/\Mk K C f/\Binds K fd ps []
section
variable{X:Cx}{k:Nat}{C:Addr}{m x:Str}{ps:List Str}{sp:Sp}{e o value:Expr}{es:List Expr}{ta tv:TE}{t:TA}{p pos apos pos' tpos:Pos}{f:Str}
theorem Fh{pl:Sem Bool}(c:Cls X.K C)(U:MeU X.prog X.w X.K X.mg X.base k C m ps sp)(hr:Room k X.A)(he:PE X o ta)
 (ht:eval (.Call (.Attribute o m apos) [] [] pos) X.env=(do
   let ov<-eval o X.env
   standAt apos.atName
   let(f,first)<-holding [ov] (getMethod ov m pl)
   callWith pos f first (backTo pos (starEach [] X.env)) (backToKw pos (keywordEach [] X.env))):=by rfl):
 PE X (.Call (.Attribute o m apos) [] [] pos) (GI C m sp [] E0 ta tNil):=
 let⟨_,_,F,hm,hb⟩:=U.ex;Pw he c hm F hr hb .nil Ef ht
theorem TV(U:MkU X.prog X.w X.K X.mg X.base k C ps sp)(hr:Room k X.A)(hm:X.mg x=some (.ref C))(ha:PA X (e::es) t)(hg:Gl X x:=by rfl)(hdb:(x==("__debug__":Str))=false:=by decide)
 (he:starEach (e::es) X.env=(false,eval e X.env)::starEach es X.env:=by rfl) (hpl:(backTo pos (starEach es X.env)).any (·.1)=false:=by rfl):PE X (.Call (.Name x p) (e::es) [] pos) (Dt C sp [] E0 t):=
 let⟨_,_,_,hi,F,M,hb⟩:=U.ex;RP M F (hr.mono hi) hg hm hb .nil Ef ha hdb he hpl
theorem Ac(K:W.Frag)(he:PE X e ta)(hK:X.K=K:=by rfl)(hb:attributeBase e f X.env (eval e X.env)=eval e X.env:=by rfl):PE X (.Attribute e f pos) (GW K ta f):=by subst hK;exact TX he hb
theorem CC(K:W.Frag)(ha:PE X o ta)(hv:PE X value tv)(hK:X.K=K:=by rfl)(hs:swapsWith value (some (.Attribute o f pos')) pos.line X.env=pure false:=by rfl):PS X (.Assign [.Attribute o f pos'] value pos) (GY K ta tv f):=by subst hK;exact TJ ha hv hs
end
section
variable{σ:St}{H:Hp}{Q:VK}{K:W.Frag}{D:Ends}{C:Addr}{m f:Str}{sp:Sp}{E:XK}{ta tv:TE}{t:TA}{rd:V->V->Hp->VK->Prop}
theorem SZ(h:ta σ H λx H1=>∃a dx fs,x= .ref a/\H1 a=some (.ins C dx fs)/\fs.lookup m=none/\t σ H1 λvs H2=>sp (x::(vs++[])) H2 Q E):GI C m sp [] E ta t σ H Q:=h
theorem Sa(h:t σ H λvs H1=>∀x dx,H1 x=none->H1 dx=none->dx≠x->sp (.ref x::(vs++[])) (upd (upd H1 dx (.own x)) x (.ins C dx [])) (λv H2=>v= .non/\Q (.ref x) H2) E):Dt C sp [] E t σ H Q:=h
theorem Sq(h:ta σ H λx H1=>∃a C dx fs v,x= .ref a/\H1 a=some (.ins C dx fs)/\Cls K C/\NoAttr K C f/\fs.lookup f=some v/\Q v H1):GW K ta f σ H Q:=h
theorem Sr(h:tv σ H λy H1=>ta σ H1 λx H2=>∃a C dx fs,x= .ref a/\H2 a=some (.ins C dx fs)/\Cls K C/\NoAttr K C f/\fs.length<1000/\D.nx σ (upd H2 a (.ins C dx (An f y fs)))):GY K ta tv f D σ H:=h
end
section
variable{X:Cx}
end
section
variable{X:Cx}{pins:List (Addr×Obj)}{σ:St}{H:Hp}{s:Shared}
end
end L2
namespace L2
open PySem PySem.Spec PyProof.Rows BrM BrR BrS BrC
structure Cs where
 RowError:Addr
 NoKinds:Addr
 NoLine:Addr
 NotRight:Addr
 NoTree:Addr
 NoNumber:Addr
 NoWeights:Addr
 NoPlace:Addr
 NoFilling:Addr
 TooMany:Addr
 NoName:Addr
 NoRow:Addr
def Ei(K:W.Frag)(C:Addr):Bool:=W.excIn K C EV "ValueError.__new__"&&(W.typeIn K (.ref C)==some (.type "type"))&&(W.clsIn K C).isSome&&(W.mroIn K C (.type "BaseException")==some true)&&
 (W.mroIn K C (.type "object")==some true)&&(W.findIn K (.ref C) "__getattribute__"==some (some (.builtin "BaseException.__getattribute__")))&&(W.findIn K (.ref C) "__getattr__"==some none)&&
 (W.findIn K (.ref C) "__class__"==some (some (.builtin "object.__class__")))&&(W.specialIn K (.builtin "object.__class__") "__get__"==some (some (.builtin "getset_descriptor.__get__")))&&(W.takesIn K (.builtin "object.__class__")==some true)
theorem Rq{K:W.Frag}{C:Addr}(h:Ei K C=true):ECls K C:=by
 unfold Ei at h;simp only[Bool.and_eq_true,beq_iff_eq]at h;obtain⟨⟨⟨⟨⟨⟨⟨⟨⟨h1,h2⟩,h3⟩,h4⟩,h5⟩,h6⟩,h7⟩,h8⟩,h9⟩,h10⟩:=h;exact⟨h1,h2,Option.isSome_iff_exists.mp h3,h4,h5,h6,h7,h8,h9,h10⟩
theorem By{X:Cx}{x:Str}{C:Addr}{pos:Pos}(h:X.mg x=some (.ref C))(hg:Gl X x:=by rfl)(hd:(x==("__debug__":Str))=false:=by decide):PE X (.Name x pos) (tC (.ref C)):=AY (v:= .ref C) ⟨_,h,rfl⟩ hg hd
theorem MQ:bootBuiltins "ValueError"=some (.type "ValueError"):=by decide +kernel
def rNo:XR:=λ_ _ _ _=>False
theorem Bv{X:Cx}(e:Value)(s':Shared)(h:XF X rNo e s'):X.xe e s':=by
 obtain⟨_,_,_,_,_,_,_,_,_,_,_,_,_,_,_,_,_,_,r⟩:=h;exact r.elim
theorem Bc{X:Cx}{b:List Stmt}{R:TS->Prop}(h:∃t,PSs X.nox b t/\R t):∃t,PSs X b t/\R t:=let⟨t,p,r⟩:=h;⟨t,p.nox,r⟩
theorem PS.nox{X:Cx}{st:Stmt}{t:TS}(h:PS X.nox st t):PS X st t:=λpins s σ H D I hw=>
 wpAny_mono (h pins s σ H D (I.wish _) hw) (λ_ _ q=>q.unwish) λ_ _ z=>False.elim z
section
variable{σ:St}{H:Hp}{Q:VK}{D:Ends}
theorem Q9{sp:Sp}{R:XR}{t:TA}(h:t σ H λvs H1=>sp vs H1 Q (xk R σ)):KM sp R t σ H Q:=h
theorem Qp{C:Addr}{R:XR}{t:TA}(h:t σ H λvs H1=>vs.length<=sizeLine/\∀y,H1 y=none->R C y σ H1):KH C R t D σ H:=h
theorem UX{K:W.Frag}{i:Nat}{CR:Addr}{tb:XR->TS}{ts:TS}
 (h:tb (λC x σ' H'=>W.mroIn K C (.ref CR)=some true/\∀ob,ts (ET i D) (σ'.set i (some (.ref x))) (upd H' x (BG ob x C))) D σ H):LT K i CR tb ts D σ H:=h
end
def Ref(E:XK)(C:Addr)(H:Hp):Prop:=∀y H',Same H H'->H y=none->E (.ref C) (some y) H'
theorem Ref.pass{E:XK}{C:Addr}{H H1:Hp}{σ:St}(r:Ref E C H)(s:Same H H1):Ref (xk (rOf E) σ) C H1:=λy H' s' h=>⟨C,y,rfl,rfl,r y H' (s.trans s') (s.free h)⟩
theorem Pc{H H':Hp}{y:Addr}{o:HO}(s:Same H H')(n:H y=none):Same H (upd H' y o):=λb u z=>by rw[AG (AQ z n)];exact s b u z
theorem TB{R:XR}{σ:St}{C:Addr}{H:Hp}(h:∀y H',Same H H'->H y=none->R C y σ H'):Ref (xk R σ) C H:=λy H' s n=>⟨C,y,rfl,rfl,h y H' s n⟩
def NoN(K:W.Frag)(lo hi:Int)(H:Hp)(v:V):Prop:=∃ty,TyOf K H v (.type ty)/\ty∈B7/\∀i,v= .int i->i<lo\/hi<i
abbrev NoK(K:W.Frag):Hp->V->Prop:=NoN K 1 4
def NoL(K:W.Frag)(k:Int)(H:Hp)(v:V):Prop:=(∃a,v=tx a/\a.length<=1000/\isRow k a=false)\/∃ty,TyOf K H v (.type ty)/\ty∈B7/\ty≠"str"
theorem TyOf.same{K:W.Frag}{H H':Hp}{v:V}{t:Value}(h:TyOf K H v t)(s:Same H H'):TyOf K H' v t:=by
 cases h with
 |non=>exact .non
 |bl x=>exact .bl x
 |int i=>exact .int i
 |str x=>exact .str x
 |flt x=>exact .flt x
 |lst e=>exact .lst (s _ _ e)
 |frz e=>exact .frz (s _ _ e)
 |tup e=>exact .tup (s _ _ e)
 |dK e=>exact .dK (s _ _ e)
 |dT e=>exact .dT (s _ _ e)
 |ins e cl ha hn htk hm=>exact .ins (s _ _ e) cl ha hn htk hm
theorem TyOf.int_of{K:W.Frag}{H:Hp}{v:V}{t:Value}(h:TyOf K H v t)(e:t= .type "int"):∃i,v= .int i:=by
 cases h<;>first|exact⟨_,rfl⟩|(injection e with e;exact absurd e (by decide))|cases e
theorem NoN.same{K:W.Frag}{lo hi:Int}{H H':Hp}{v:V}(h:NoN K lo hi H v)(s:Same H H'):NoN K lo hi H' v:=let⟨ty,a,b⟩:=h;⟨ty,a.same s,b⟩
theorem NoL.same{K:W.Frag}{k:Int}{H H':Hp}{v:V}(h:NoL K k H v)(s:Same H H'):NoL K k H' v:=h.elim .inl λ⟨ty,a,b⟩=> .inr ⟨ty,a.same s,b⟩
def Gate(K:W.Frag)(cs:Cs)(H:Hp)(E:XK)(kv v:V):Prop:=(NoK K H kv/\Ref E cs.NoKinds H)\/∃k:Int,kv= .int k/\1<=k/\k<=4/\NoL K k H v/\Ref E cs.NoLine H
theorem Gate.pass{K:W.Frag}{cs:Cs}{H H1:Hp}{E:XK}{kv v:V}{σ:St}(g:Gate K cs H E kv v)(s:Same H H1):Gate K cs H1 (xk (rOf E) σ) kv v:=
 g.elim (λ⟨a,r⟩=> .inl ⟨a.same s,r.pass s⟩) λ⟨k,e,h1,h2,a,r⟩=> .inr ⟨k,e,h1,h2,a.same s,r.pass s⟩
def Pb(K:W.Frag)(cs:Cs):Sp:=λvs H Q E=>spKinds vs H Q E\/∃v,vs=[v]/\NoK K H v/\Ref E cs.NoKinds H
def JT(K:W.Frag)(cs:Cs):Sp:=λvs H Q E=>spLine K vs H Q E\/∃kv v,vs=[kv,v]/\NoK K H kv/\Ref E cs.NoKinds H
def JU(K:W.Frag)(cs:Cs)(sp:Sp):Sp:=λvs H Q E=>sp vs H Q E\/∃kv v,vs=[kv,v]/\Gate K cs H E kv v
theorem Nv{K:W.Frag}{cs:Cs}{H:Hp}{Q:VK}{E:XK}{k:Int}{v:V}(h1:1<=k)(h2:k<=4)(n:NoL K k H v)(q:∀H',Same H H'->Q (.bl false) H'):JT K cs [.int k,v] H Q E:=by
 refine .inl ⟨k,v,rfl,h1,h2,?_⟩;rcases n with⟨a,rfl,ha,hr⟩|⟨ty,a,b,c⟩
 ·exact .inl ⟨a,rfl,ha,λH' s=>by rw[hr];exact q H' s⟩
 ·exact .inr ⟨ty,a,b,c,q H (Same.refl H)⟩
end L2
namespace L2
open PySem PySem.Spec PyProof.Rows
structure MeUE (P:Program) (w:World) (K:W.Frag) (mg:Str->Option Value) (base:Heap) (k:Nat) (C:Addr) (m:Str) (ps:List Str) (sp:Sp):Prop where
 ex:∃f fd,FnOk P w K mg base (CXE P w) k f fd ps sp/\Meth K C m f/\Binds K fd ps []
def KI(C:Addr)(m:Str)(sp:Sp)(R:XR)(ta:TE)(t:TA):TE:=λσ H Q=>ta σ H λx H1=>∃a dx fs,x= .ref a/\H1 a=some (.ins C dx fs)/\fs.lookup m=none/\t σ H1 λvs H2=>sp (x::vs) H2 Q (xk R σ)
section
variable{X:Cx}{R:XR}{k:Nat}{f C:Addr}{fd:FuncData}{ps:List Str}{sp:Sp}{x m:Str}{p pos apos:Pos}{e o:Expr}{es:List Expr}{ta:TE}{t:TA}
theorem RD{pins:List (Addr×Obj)}{σ:St}{H:Hp}{s:Shared}{Q:VK}{us:List Value}{vs:List V}(F:FnOk X.prog X.w X.K X.mg X.base (CXE X.prog X.w) k f fd ps sp)(hr:Room k X.A)(hb:Binds X.K fd ps [])(hx:∀e s',XF X R e s'->X.xe e s')
 (I:Inv X pins σ H s) (r:Vals vs us) (h:sp vs H Q (xk R σ)):wpAny (model X.prog X.w) X.A (call (.ref f) us) (EP X pins σ Q) X.xe s:=by
 have hl:us.length=ps.length:=by rw[<-r.length];exact F.len _ _ _ _ h
 refine wpAny_call (codeAny_mono (F.run X.A X.stack s H ⟨us,[]⟩ us vs Q (xk R σ) hr I.env0 ?_ r h) λres s' hq=>?_)
 ·have z:=hb s us I.kIn (by rw[List.append_nil];exact hl);rw[List.append_nil]at z;exact z
 ·cases res with
  |error ev=>exact hx _ _ ⟨pins,σ,H,s,I,hq⟩
  |ok fl=>
   cases fl with
   |ret u=>exact I.after hq
   |next=>exact False.elim hq
   |brk=>exact False.elim hq
   |cont=>exact False.elim hq
theorem RO{pl:Sem Bool}(c:Cls X.K C)(U:MeUE X.prog X.w X.K X.mg X.base k C m ps sp)(hr:Room k X.A)(hx:∀e s',XF X R e s'->X.xe e s')(he:PE X o ta)(ha:PA X (e::es) t)
 (hst:starEach (e::es) X.env=(false,eval e X.env)::starEach es X.env:=by rfl) (hpl:(backTo pos (starEach es X.env)).any (·.1)=false:=by rfl)
 (ht:eval (.Call (.Attribute o m apos) (e::es) [] pos) X.env=(do
   let ov<-eval o X.env
   standAt apos.atName
   let(f,first)<-holding [ov] (getMethod ov m pl)
   callWith pos f first (backTo pos (starEach (e::es) X.env)) (backToKw pos (keywordEach [] X.env))):=by rfl):
 PE X (.Call (.Attribute o m apos) (e::es) [] pos) (KI C m sp R ta t):=by
 obtain⟨f,fd,F,hm,hb⟩:=U.ex;intro pins s σ H Q I h;refine W.methodCall_KW (pl:=pl) (thn (he pins s σ H _ I h) λu s1 ⟨x,H1,I1,rx,a,dx,fs,ex,ea,l,q⟩=>?_) ht;subst ex;obtain rfl:u=Value.ref a:=rx;refine HV I1 ea c hm l ?_;refine W.callWith_K (first:=[.ref a]) (h₀:=X.base) I.ok.mod.kin hm.kp (thn (ha pos pins s1 σ H1 _ I1 q) λus s2 ⟨vs,H2,I2,r,q2⟩=>⟨I2.kIn,?_⟩) hst hpl;exact RD (us:= .ref a::us) (vs:= .ref a::vs) F hr hb hx I2 (.cons rfl r) q2
end
section
variable{σ:St}{H:Hp}{Q:VK}{C:Addr}{m:Str}{sp:Sp}{R:XR}{ta:TE}{t:TA}
theorem Qs(h:ta σ H λx H1=>∃a dx fs,x= .ref a/\H1 a=some (.ins C dx fs)/\fs.lookup m=none/\t σ H1 λvs H2=>sp (x::vs) H2 Q (xk R σ)):KI C m sp R ta t σ H Q:=h
end
end L2
namespace PySem
open Sem (wp)
structure ZAp (z TI TO i1 i2:Addr) (fp1 fp2:List Addr):Prop where
 TIz:TI≠z
 TOz:TO≠z
 TITO:TI≠TO
 TIi1:TI≠i1
 TIi2:TI≠i2
 z1:z∉fp1
 z2:z∉fp2
 o1:TO∉fp1
 o2:TO∉fp2
 a12:i1∉fp2
 a21:i2∉fp1
 m1:i1∈fp1
 m2:i2∈fp2
section
variable{prog:Program}{w:World}{A:Around}{E:Value->Shared->Prop}{s:Shared}
variable{z TI TO i1 i2:Addr}{fp1 fp2:List Addr}{n1 n2 i:Nat}{P1 P2:Nat->Value->Prop}{S1 S2:Nat->Heap->Prop}{a b:Value}
theorem ZAp.i1z(D:ZAp z TI TO i1 i2 fp1 fp2):i1≠z:=λe=>D.z1 (e▸D.m1)
theorem ZAp.i2z(D:ZAp z TI TO i1 i2 fp1 fp2):i2≠z:=λe=>D.z2 (e▸D.m2)
theorem ZAp.i1o(D:ZAp z TI TO i1 i2 fp1 fp2):i1≠TO:=λe=>D.o1 (e▸D.m1)
theorem ZAp.i2o(D:ZAp z TI TO i1 i2 fp1 fp2):i2≠TO:=λe=>D.o2 (e▸D.m2)
theorem Draws.but{it c:Addr}{fp:List Addr}{n:Nat}{P:Nat->Value->Prop}{S:Nat->Heap->Prop}{h h':Heap}(D:Draws prog w A it fp n P S)(st:S i h)(k:Heap.ExtBut c h h')(hc:c∉fp):S i h':=D.frame _ _ _ st λx hx o e=>k x o (λq=>hc (q▸hx)) e
theorem MR{Q:Value->Shared->Prop}(D:ZAp z TI TO i1 i2 fp1 fp2)(D1:Draws prog w A i1 fp1 n1 P1 S1)(D2:Draws prog w A i2 fp2 n2 P2 S2)
 (hz:IsZip s.heap z TI TO .none) (hTI:IsPair s.heap TI (.ref i1) (.ref i2)) (hTO:IsPair s.heap TO a b) (h1:S1 i s.heap) (h2:S2 i s.heap) (l1:i<n1) (l2:i<n2)
 (hQ:∀x y h' tk,P1 i x->P2 i y->IsZip h' z TI TO (rawInt s.heap.objs.size)->IsPair h' TO x y->S1 (i+1) h'->S2 (i+1) h'->IsPair h' s.heap.objs.size x y->h'.objs.size=s.heap.objs.size+1->
   (∀c o,c≠z->c≠TO->c≠i1->c≠i2->s.heap.get? c=some o->h'.get? c=some o)->Q (.ref s.heap.objs.size) {s with heap:=h',toks:=tk}):
 wpAny (model prog w) A (Builtin.«zip.__next__» ⟨[.ref z],[]⟩) (λfin s'=>∃v,fin= .done (.ret v)/\Q v s') E s:=by
 obtain⟨hp,g,d,tk₀,os⟩:=s;show wpAny _ _ (field (.ref z) 2>>=_) _ _ _;refine wpAny_bind (wpAny_field hz rfl (x:= .bool false) rfl ?_);show wpAny _ _ (field (.ref z) 3>>=_) _ _ _;refine wpAny_bind (wpAny_field hz rfl (x:= .ref TI) rfl ?_);refine wpAny_bind (wpAny_seqItems hTI rfl ?_);show wpAny _ _ (Builtin.SmallTypes.ownedTupleIsFree (.ref z)>>=_) _ _ _;refine wpAny_bind ?_;unfold Builtin.SmallTypes.ownedTupleIsFree;refine wpAny_bind (wpAny_field hz rfl (x:= .none) rfl (wpAny_pure ?_));simp only[if_true];refine wpAny_bind (wpAny_rule ?_);refine wpAny_bind (wpAny_field hz rfl (x:= .ref TO) rfl ?_);refine wpAny_bind (wpAny_setField_rec hz (by simp) λh₁ hz₁ hs₁=>?_)
 replace hz₁:IsZip h₁ z TI TO .ellipsis:=hz₁
 replace hs₁:Heap.SameBut z hp h₁:=hs₁
 refine wpAny_bind ?_;simp only[List.zipIdx_cons,List.zipIdx_nil,List.forIn_cons,List.forIn_nil];refine wpAny_bind (wpAny_bind (wpAny_onRaise ?_));show wpAny _ _ (Builtin.SmallTypes.nextOf (.ref i1)>>=_) _ _ _;refine wpAny_bind (D1.item i _ _ _ l1 (D1.but h1 hs₁.extBut D.z1) λx h₂ tk₂ hx h1₂ hs₂=>wpAny_pure ?_)
 replace hs₂:Heap.SameBut i1 h₁ h₂:=hs₂
 have hTO₂:IsPair h₂ TO a b:=hs₂.extBut _ _ D.i1o.symm (hs₁.extBut _ _ D.TOz hTO);refine wpAny_bind (wpAny_seqItems hTO₂ rfl ?_);refine wpAny_bind (wpAny_updateSeq_pair hTO₂ λh₃ hTO₃ hs₃=>?_)
 replace hTO₃:IsPair h₃ TO x b:=hTO₃
 replace hs₃:Heap.SameBut TO h₂ h₃:=hs₃
 refine wpAny_bind (wpAny_letGo (wpAny_pure ?_));refine wpAny_bind (wpAny_bind (wpAny_onRaise ?_));show wpAny _ _ (Builtin.SmallTypes.nextOf (.ref i2)>>=_) _ _ _;refine wpAny_bind (D2.item i _ _ _ l2 (D2.but (D2.but (D2.but h2 hs₁.extBut D.z2) hs₂.extBut D.a12) hs₃.extBut D.o2) λy h₄ tk₄ hy h2₄ hs₄=>wpAny_pure ?_)
 replace hs₄:Heap.SameBut i2 h₃ h₄:=hs₄
 have hTO₄:IsPair h₄ TO x b:=hs₄.extBut _ _ D.i2o.symm hTO₃;refine wpAny_bind (wpAny_seqItems hTO₄ rfl ?_);refine wpAny_bind (wpAny_updateSeq_pair hTO₄ λh₅ hTO₅ hs₅=>?_)
 replace hTO₅:IsPair h₅ TO x y:=hTO₅
 replace hs₅:Heap.SameBut TO h₄ h₅:=hs₅
 refine wpAny_bind (wpAny_letGo (wpAny_pure (wpAny_pure ?_)));refine wpAny_bind (wpAny_seqItems hTO₅ rfl ?_);refine wpAny_bind (wpAny_newTuple ?_);have hsz:h₅.objs.size=hp.objs.size:=by rw[hs₅.1,hs₄.1,hs₃.1,hs₂.1,hs₁.1]
 have hz₅:IsZip h₅ z TI TO .ellipsis:=hs₅.extBut _ _ D.TOz.symm (hs₄.extBut _ _ D.i2z.symm (hs₃.extBut _ _ D.TOz.symm (hs₂.extBut _ _ D.i1z.symm hz₁)));have hk₅:∀c o,c≠z->c≠TO->c≠i1->c≠i2->hp.get? c=some o->h₅.get? c=some o:=λc o c1 c2 c3 c4 e=>
  hs₅.extBut _ _ c2 (hs₄.extBut _ _ c4 (hs₃.extBut _ _ c2 (hs₂.extBut _ _ c3 (hs₁.extBut _ _ c1 e))))
 have h1₅:S1 (i+1) h₅:=D1.but (D1.but (D1.but h1₂ hs₃.extBut D.o1) hs₄.extBut D.a21) hs₅.extBut D.o1;have h2₅:S2 (i+1) h₅:=D2.but h2₄ hs₅.extBut D.o2;have hzlt:z<h₅.objs.size:=Heap.lt_size hz₅;show wpAny _ _ (Builtin.SmallTypes.ownedTupleHandOut (.ref z) (.ref h₅.objs.size)>>=_) _ _ _;refine wpAny_bind ?_;unfold Builtin.SmallTypes.ownedTupleHandOut;have hz₆:IsZip (h₅.push {cls:= .type "tuple",data:= .seq #[x,y]}) z TI TO .ellipsis:=Heap.get?_push_of_some _ hz₅;refine wpAny_bind (wpAny_setField_rec hz₆ (by simp) λh₇ hz₇ hs₇=>?_)
 replace hz₇:IsZip h₇ z TI TO (rawInt h₅.objs.size):=hz₇
 replace hs₇:Heap.SameBut z (h₅.push {cls:= .type "tuple",data:= .seq #[x,y]}) h₇:=hs₇
 refine wpAny_setField_rec hz₇ (by simp) λh₈ hz₈ hs₈=>?_
 replace hz₈:IsZip h₈ z TI TO (rawInt h₅.objs.size):=hz₈
 replace hs₈:Heap.SameBut z h₇ h₈:=hs₈
 have up:∀c o,c≠z->h₅.get? c=some o->h₈.get? c=some o:=λc o c1 e=>hs₈.extBut _ _ c1 (hs₇.extBut _ _ c1 (Heap.get?_push_of_some _ e));have hT₈:IsPair h₈ h₅.objs.size x y:=hs₈.extBut _ _ (Nat.ne_of_gt hzlt) (hs₇.extBut _ _ (Nat.ne_of_gt hzlt) (Heap.get?_push_size _ rfl));have hz8:h₈.objs.size=h₅.objs.size+1:=by rw[hs₈.1,hs₇.1,Heap.size_push]
 rw[hsz]at hz₈ hT₈ hz8;refine wpAny_pure ⟨_,rfl,?_⟩;show Q (.ref h₅.objs.size) _;rw[hsz];exact hQ x y h₈ _ hx hy hz₈ (up _ _ D.TOz hTO₅) (D1.frame _ _ _ h1₅ λc hc o e=>up c o (λq=>D.z1 (q▸hc)) e) (D2.frame _ _ _ h2₅ λc hc o e=>up c o (λq=>D.z2 (q▸hc)) e) hT₈ hz8 λc o c1 c2 c3 c4 e=>up c o c1 (hk₅ c o c1 c2 c3 c4 e)
theorem Mc{Q:Fin->Shared->Prop}(D:ZAp z TI TO i1 i2 fp1 fp2)(D1:Draws prog w A i1 fp1 n1 P1 S1)(D2:Draws prog w A i2 fp2 n2 P2 S2)
 (hz:IsZip s.heap z TI TO .none) (hTI:IsPair s.heap TI (.ref i1) (.ref i2)) (hTO:IsPair s.heap TO a b) (h1:S1 i s.heap) (h2:S2 i s.heap) (hend:i=n1\/(i<n1/\i=n2))
 (hE:∀h' tk e,(∀c o,c≠z->c≠TO->c≠i1->c≠i2->s.heap.get? c=some o->h'.get? c=some o)->(∃o,h'.get? e=some o/\o.cls= .type "StopIteration")->E (.ref e) {s with heap:=h',toks:=tk}):
 wpAny (model prog w) A (Builtin.«zip.__next__» ⟨[.ref z],[]⟩) Q E s:=by
 obtain⟨hp,g,d,tk₀,os⟩:=s;show wpAny _ _ (field (.ref z) 2>>=_) _ _ _;refine wpAny_bind (wpAny_field hz rfl (x:= .bool false) rfl ?_);show wpAny _ _ (field (.ref z) 3>>=_) _ _ _;refine wpAny_bind (wpAny_field hz rfl (x:= .ref TI) rfl ?_);refine wpAny_bind (wpAny_seqItems hTI rfl ?_);show wpAny _ _ (Builtin.SmallTypes.ownedTupleIsFree (.ref z)>>=_) _ _ _;refine wpAny_bind ?_;unfold Builtin.SmallTypes.ownedTupleIsFree;refine wpAny_bind (wpAny_field hz rfl (x:= .none) rfl (wpAny_pure ?_));simp only[if_true];refine wpAny_bind (wpAny_rule ?_);refine wpAny_bind (wpAny_field hz rfl (x:= .ref TO) rfl ?_);refine wpAny_bind (wpAny_setField_rec hz (by simp) λh₁ hz₁ hs₁=>?_)
 replace hz₁:IsZip h₁ z TI TO .ellipsis:=hz₁
 replace hs₁:Heap.SameBut z hp h₁:=hs₁
 refine wpAny_bind ?_;simp only[List.zipIdx_cons,List.zipIdx_nil,List.forIn_cons,List.forIn_nil];refine wpAny_bind (wpAny_bind (wpAny_onRaise ?_));show wpAny _ _ (Builtin.SmallTypes.nextOf (.ref i1)>>=_) _ _ _;rcases hend with rfl|⟨l1,rfl⟩
 ·refine wpAny_bind (D1.done _ _ _ (D1.but h1 hs₁.extBut D.z1) λh₂ e hs₂ he=>?_)
  replace hs₂:Heap.ExtBut i1 h₁ h₂:=hs₂
  obtain⟨oe,hoe,hce⟩:=he;have hz₂:IsZip h₂ z TI TO .ellipsis:=hs₂ _ _ D.i1z.symm hz₁;have hez:e≠z:=λx=>by subst x;rw[hz₂]at hoe;cases hoe;simp at hce
  refine wpAny_setField_rec hz₂ (by simp) λh₃ _ hs₃=>?_
  replace hs₃:Heap.SameBut z h₂ h₃:=hs₃
  exact hE h₃ _ e (λc o c1 _ c3 _ x=>hs₃.extBut _ _ c1 (hs₂ _ _ c3 (hs₁.extBut _ _ c1 x))) ⟨oe,hs₃.extBut _ _ hez hoe,hce⟩
 ·refine wpAny_bind (D1.item i _ _ _ l1 (D1.but h1 hs₁.extBut D.z1) λx h₂ tk₂ hx h1₂ hs₂=>wpAny_pure ?_)
  replace hs₂:Heap.SameBut i1 h₁ h₂:=hs₂
  have hTO₂:IsPair h₂ TO a b:=hs₂.extBut _ _ D.i1o.symm (hs₁.extBut _ _ D.TOz hTO);refine wpAny_bind (wpAny_seqItems hTO₂ rfl ?_);refine wpAny_bind (wpAny_updateSeq_pair hTO₂ λh₃ hTO₃ hs₃=>?_)
  replace hs₃:Heap.SameBut TO h₂ h₃:=hs₃
  refine wpAny_bind (wpAny_letGo (wpAny_pure ?_));refine wpAny_bind (wpAny_bind (wpAny_onRaise ?_));show wpAny _ _ (Builtin.SmallTypes.nextOf (.ref i2)>>=_) _ _ _;refine wpAny_bind (D2.done _ _ _ (D2.but (D2.but (D2.but h2 hs₁.extBut D.z2) hs₂.extBut D.a12) hs₃.extBut D.o2) λh₄ e hs₄ he=>?_)
  replace hs₄:Heap.ExtBut i2 h₃ h₄:=hs₄
  obtain⟨oe,hoe,hce⟩:=he;have hz₄:IsZip h₄ z TI TO .ellipsis:=hs₄ _ _ D.i2z.symm (hs₃.extBut _ _ D.TOz.symm (hs₂.extBut _ _ D.i1z.symm hz₁));have hez:e≠z:=λx=>by subst x;rw[hz₄]at hoe;cases hoe;simp at hce
  refine wpAny_setField_rec hz₄ (by simp) λh₅ _ hs₅=>?_
  replace hs₅:Heap.SameBut z h₄ h₅:=hs₅
  exact hE h₅ _ e (λc o c1 c2 c3 c4 x=>hs₅.extBut _ _ c1 (hs₄ _ _ c4 (hs₃.extBut _ _ c2 (hs₂.extBut _ _ c3 (hs₁.extBut _ _ c1 x))))) ⟨oe,hs₅.extBut _ _ hez hoe,hce⟩
theorem M3{Q:Option Value->Shared->Prop}(D:ZAp z TI TO i1 i2 fp1 fp2)(D1:Draws prog w A.in1 i1 fp1 n1 P1 S1)(D2:Draws prog w A.in1 i2 fp2 n2 P2 S2)
 (hz:IsZip s.heap z TI TO .none) (hTI:IsPair s.heap TI (.ref i1) (.ref i2)) (hTO:IsPair s.heap TO a b) (h1:S1 i s.heap) (h2:S2 i s.heap) (l1:i<n1) (l2:i<n2)
 (hQ:∀x y h' tk,P1 i x->P2 i y->IsZip h' z TI TO (rawInt s.heap.objs.size)->IsPair h' TO x y->S1 (i+1) h'->S2 (i+1) h'->IsPair h' s.heap.objs.size x y->h'.objs.size=s.heap.objs.size+1->
   (∀c o,c≠z->c≠TO->c≠i1->c≠i2->s.heap.get? c=some o->h'.get? c=some o)->Q (some (.ref s.heap.objs.size)) {s with heap:=h',toks:=tk}):
 wpAny (model prog w) A (pyNext (.ref z)) Q E s:=by
 have hT:s.TypeIs (.ref z) "zip":=⟨_,hz,rfl⟩;unfold pyNext;exact wpAny_bind (wpAny_attempt (wpAny_callSpecial?_slot (name:=Str.ofString "__next__") hT F.slot_zip_next
  (wpAny_call_entry F.slot_zip_next hT F.entry_zip_next
    (MR D D1 D2 hz hTI hTO h1 h2 l1 l2 λx y h' tk p1 p2 a1 a2 a3 a4 a5 a6 a7=>wpAny_pure (hQ x y h' tk p1 p2 a1 a2 a3 a4 a5 a6 a7)) (F.args_zip_next_1 _))))
theorem Gp{Q:Option Value->Shared->Prop}(D:ZAp z TI TO i1 i2 fp1 fp2)(D1:Draws prog w A.in1 i1 fp1 n1 P1 S1)(D2:Draws prog w A.in1 i2 fp2 n2 P2 S2)
 (hz:IsZip s.heap z TI TO .none) (hTI:IsPair s.heap TI (.ref i1) (.ref i2)) (hTO:IsPair s.heap TO a b) (h1:S1 i s.heap) (h2:S2 i s.heap) (hend:i=n1\/(i<n1/\i=n2))
 (hQ:∀h' tk,(∀c o,c≠z->c≠TO->c≠i1->c≠i2->s.heap.get? c=some o->h'.get? c=some o)->Q none {s with heap:=h',toks:=tk}):wpAny (model prog w) A (pyNext (.ref z)) Q E s:=by
 have hT:s.TypeIs (.ref z) "zip":=⟨_,hz,rfl⟩;unfold pyNext;refine wpAny_bind (wpAny_attempt (wpAny_callSpecial?_slot (name:=Str.ofString "__next__") hT F.slot_zip_next
  (wpAny_call_entry F.slot_zip_next hT F.entry_zip_next (Mc D D1 D2 hz hTI hTO h1 h2 hend λh' tk e hk he=>?_) (F.args_zip_next_1 _))))
 obtain⟨o,ho,hc⟩:=he;refine wpAny_bind (wpAny_isInstance (T:="StopIteration") (b:=true) ⟨o,ho,hc⟩ isSubtype_stop ?_);exact wpAny_pure (hQ _ _ hk)
end
abbrev sit(x:Str)(t:Tok):Obj:={cls:= .type (strIterType x),data:= .fields #[.str x t, .int 0 0]}
abbrev zs2(h:Heap)(x y:Str)(t u:Tok):Heap:=(h.push (sit x t)).push (sit y u)
abbrev zs3(h:Heap)(x y:Str)(t u:Tok):Heap:=(zs2 h x y t u).push {cls:= .type "tuple",data:= .seq #[.ref h.objs.size, .ref (h.push (sit x t)).objs.size]}
abbrev zs4(h:Heap)(x y:Str)(t u:Tok):Heap:=(zs3 h x y t u).push {cls:= .type "tuple",data:= .seq #[.none, .none]}
abbrev zs5(h:Heap)(x y:Str)(t u:Tok):Heap:=(zs4 h x y t u).push {cls:= .type "zip",data:= .fields #[.none, .bool false, .bool false, .ref (zs2 h x y t u).objs.size, .ref (zs3 h x y t u).objs.size]}
theorem Mb(x y:Str)(t u:Tok):
 Meets (Builtin.«zip.__new__» ⟨[.type "zip", .str x t, .str y u],[]⟩) (λ_ R s=>R (.ok (.ret (.ref (zs4 s.heap x y t u).objs.size))) {s with heap:=zs5 s.heap x y t u}):=
 .of_wp λprog w A R s h=>by
   obtain⟨hp,g,d,tk,os⟩:=s;have hsub:=sub_zip
   wp_walk using wpAny_pyIter_strU (x:=x) (t:=t),wpAny_pyIter_strU (x:=y) (t:=u)
   exact⟨_,rfl,h⟩
theorem PB{prog:Program}{w:World}{A:Around}{E:Value->Shared->Prop}{s:Shared}{x y:Str}{t u:Tok}{Q:Value->Shared->Prop}
 (h:∀h',IsZip h' (s.heap.objs.size+4) (s.heap.objs.size+2) (s.heap.objs.size+3) .none->IsPair h' (s.heap.objs.size+2) (.ref s.heap.objs.size) (.ref (s.heap.objs.size+1))->
   IsPair h' (s.heap.objs.size+3) .none .none->h'.IsStrIter s.heap.objs.size (strIterType x) x t 0->h'.IsStrIter (s.heap.objs.size+1) (strIterType y) y u 0->h'.objs.size=s.heap.objs.size+5->
   (∀c o,s.heap.get? c=some o->h'.get? c=some o)->Q (.ref (s.heap.objs.size+4)) {s with heap:=h'}):
 wpAny (model prog w) A (call (.type "zip") [.str x t, .str y u]) Q E s:=by
 refine callType_new F.called_zip (by decide) (F.typeCall_zip_2 _ _) (F.newCall_zip_2 _ _) (λobj=>F.args_object_init_3 obj _ _) F.entry_zip_new
  (Mb x y t u) ?_
 have z1:(s.heap.push (sit x t)).objs.size=s.heap.objs.size+1:=Heap.size_push ..;have z2:(zs2 s.heap x y t u).objs.size=s.heap.objs.size+2:=by rw[Heap.size_push,z1]
 have z3:(zs3 s.heap x y t u).objs.size=s.heap.objs.size+3:=by rw[Heap.size_push,z2]
 have z4:(zs4 s.heap x y t u).objs.size=s.heap.objs.size+4:=by rw[Heap.size_push,z3]
 have z5:(zs5 s.heap x y t u).objs.size=s.heap.objs.size+5:=by rw[Heap.size_push,z4]
 have g5:(zs5 s.heap x y t u).get? (zs4 s.heap x y t u).objs.size=some _:=Heap.get?_push_size _ rfl;have g4:(zs5 s.heap x y t u).get? (zs3 s.heap x y t u).objs.size=some _:=Heap.get?_push_of_some _ (Heap.get?_push_size _ rfl);have g3:(zs5 s.heap x y t u).get? (zs2 s.heap x y t u).objs.size=some _:=Heap.get?_push_of_some _ (Heap.get?_push_of_some _ (Heap.get?_push_size _ rfl));have g2:(zs5 s.heap x y t u).get? (s.heap.push (sit x t)).objs.size=some _:=Heap.get?_push_of_some _ (Heap.get?_push_of_some _ (Heap.get?_push_of_some _ (Heap.get?_push_size _ rfl)));have g1:(zs5 s.heap x y t u).get? s.heap.objs.size=some _:=Heap.get?_push_of_some _ (Heap.get?_push_of_some _ (Heap.get?_push_of_some _ (Heap.get?_push_of_some _ (Heap.get?_push_size _ rfl))));show _/\_;rw[z2,z3,z4]at g5;rw[z1,z2]at g3;rw[z3]at g4;rw[z1]at g2;rw[z4];exact⟨⟨_,g5,rfl⟩,h _ g5 g3 g4 ⟨_,g1,rfl,rfl⟩ ⟨_,g2,rfl,rfl⟩ z5 λc o x=>
  Heap.get?_push_of_some _ (Heap.get?_push_of_some _ (Heap.get?_push_of_some _ (Heap.get?_push_of_some _ (Heap.get?_push_of_some _ x))))⟩
end PySem
namespace L2
open PySem PySem.Spec PyProof.Rows
def IzS(x y:Str):It:=⟨λi _=>i<x.cps.size/\i<y.cps.size,λi H v H'=>∃T c d,H T=none/\x.cps[i]? =some c/\y.cps[i]? =some d/\v= .ref T/\H'=upd H T (.tup [.str ⟨#[c]⟩, .str ⟨#[d]⟩]),λi _=>i=x.cps.size\/(i<x.cps.size/\i=y.cps.size)⟩
section
variable{P:Program}{w:World}{K:W.Frag}{elts:List Expr}{k:Nat}{tpos:Pos}
theorem IK{X:Cx}{pins:List (Addr×Obj)}{σ:St}{H:Hp}{s:Shared}{E:Value->Shared->Prop}{z TI TO i1 i2:Addr}{fp1 fp2:List Addr}{n1 n2 i:Nat}{P1 P2:Nat->Value->Prop}{S1 S2:Nat->Heap->Prop}{a b:Value}{Qx Qy:Value->V->Prop}{tn:Heap->Prop}
 (D:ZAp z TI TO i1 i2 fp1 fp2) (D1:Draws X.prog X.w X.A.in1 i1 fp1 n1 P1 S1) (D2:Draws X.prog X.w X.A.in1 i2 fp2 n2 P2 S2) (I:Inv X pins σ H s) (hf:∀b∈[z,TI,TO,i1,i2],BH X pins H b)
 (hz:IsZip s.heap z TI TO .none) (hTI:IsPair s.heap TI (.ref i1) (.ref i2)) (hTO:IsPair s.heap TO a b) (h1:S1 i s.heap) (h2:S2 i s.heap) (l1:i<n1) (l2:i<n2)
 (tnk:∀h' x y,IsZip h' z TI TO .none->IsPair h' TI (.ref i1) (.ref i2)->IsPair h' TO x y->S1 (i+1) h'->S2 (i+1) h'->tn h') (y1:∀v,P1 i v->∃q,RelV q v/\Qx v q) (y2:∀v,P2 i v->∃q,RelV q v/\Qy v q):
 wpAny (model X.prog X.w) X.A (pyNext (.ref z)) (λr s1=>∃u,r=some u/\wpAny (model X.prog X.w) X.A (letOwnedTupleGo (.Tuple elts k tpos) (.ref z) u) (λ_ s2=>∃x H',Inv X pins σ H' s2/\RelV x u/\
  (∃T q1 q2 v1 v2,H T=none/\Qx v1 q1/\Qy v2 q2/\x= .ref T/\H'=upd H T (.tup [q1,q2]))/\tn s2.heap/\∀b∈[z,TI,TO,i1,i2],H' b=none) E s1) E s:=by
 refine M3 D D1 D2 hz hTI hTO h1 h2 l1 l2 λx y h1' tk p1 p2 a1 a2 a3 a4 a5 a6 a7=>⟨_,rfl,wpAny_letOwnedTupleGo_zip a1 λh2' hz2 hs2=>?_⟩
 replace hs2:Heap.SameBut z h1' h2':=hs2
 obtain⟨q1,r1,e1⟩:=y1 x p1;obtain⟨q2,r2,e2⟩:=y2 y p2;have hzl:z<s.heap.objs.size:=Heap.lt_size hz;have hT2:h2'.get? s.heap.objs.size=some {cls:= .type "tuple",data:= .seq #[x,y]}:=(hs2.2 _ (Nat.ne_of_gt hzl)).trans a5;have ob:ObjOk X.prog X.w (upd H s.heap.objs.size (.tup [q1,q2])) h2' s.heap.objs.size (.tup [q1,q2]):=⟨(by show 2<=sizeLine;decide),[x,y], .cons r1 (.cons r2 .nil),⟨_,hT2,rfl,_,rfl⟩⟩;have I2:Inv X pins σ (upd H s.heap.objs.size (.tup [q1,q2])) {s with heap:=h2',toks:=tk}:=I.turnedLaid hf (λb u hb q=>(hs2.2 b (λz=>hb (by simp[z]))).trans (a7 b u (λz=>hb (by simp[z])) (λz=>hb (by simp[z])) (λz=>hb (by simp[z])) (λz=>hb (by simp[z])) q)) (Nat.le_refl _) ob;have up:∀c o,c≠z->h1'.get? c=some o->h2'.get? c=some o:=λc o hc e=>(hs2.2 c hc).trans e;refine⟨.ref s.heap.objs.size,_,I2,rfl,⟨s.heap.objs.size,q1,q2,x,y,I.hok.fresh (Nat.le_refl _),e1,e2,rfl,rfl⟩,tnk h2' x y hz2 (up _ _ D.TIz (a7 _ _ D.TIz D.TITO D.TIi1 D.TIi2 hTI)) (up _ _ D.TOz a2) (D1.frame _ _ _ a3 λc hc o e=>up c o (λq=>D.z1 (q▸hc)) e) (D2.frame _ _ _ a4 λc hc o e=>up c o (λq=>D.z2 (q▸hc)) e),λb hb=>?_⟩;have hlt:b<s.heap.objs.size:=by
  simp only[List.mem_cons,List.not_mem_nil,or_false]at hb;rcases hb with e|e|e|e|e
  ·rw[e];exact hzl
  ·rw[e];exact Heap.lt_size hTI
  ·rw[e];exact Heap.lt_size hTO
  ·rw[e];obtain⟨_,q⟩:=D1.live _ _ h1;exact Heap.lt_size q
  ·rw[e];obtain⟨_,q⟩:=D2.live _ _ h2;exact Heap.lt_size q
 rw[AG (Nat.ne_of_lt hlt)];exact(hf b hb).1
theorem OE{x y:Str}{t u:Tok}{T1 T2:String}{z TI TO i1 i2:Addr}(D:ZAp z TI TO i1 i2 [i1] [i2])
 (W1:∀A:Around,A.handled=none->Draws P w A i1 [i1] x.cps.size (λi v=>∃c u,x.cps[i]? =some c/\v= .str ⟨#[c]⟩ u) (λi h=>h.IsStrIter i1 T1 x t i))
 (W2:∀A:Around,A.handled=none->Draws P w A i2 [i2] y.cps.size (λi v=>∃c u,y.cps[i]? =some c/\v= .str ⟨#[c]⟩ u) (λi h=>h.IsStrIter i2 T2 y u i)):
 Turn P w K (.Tuple elts k tpos) (IzS x y) [z,TI,TO,i1,i2] z (λi h=>IsZip h z TI TO .none/\IsPair h TI (.ref i1) (.ref i2)/\(∃a b,IsPair h TO a b)/\h.IsStrIter i1 T1 x t i/\h.IsStrIter i2 T2 y u i) where
 mem:=by simp
 obj:=λi h st b hb=>by
  obtain⟨hz,hTI,⟨a,b',hTO⟩,⟨o1,ho1,_,hd1⟩,⟨o2,ho2,_,hd2⟩⟩:=st;simp only[List.mem_cons,List.not_mem_nil,or_false]at hb;rcases hb with e|e|e|e|e
  ·rw[e];exact⟨_,hz,λv z=>by cases z⟩
  ·rw[e];exact⟨_,hTI,λv z=>by cases z⟩
  ·rw[e];exact⟨_,hTO,λv z=>by cases z⟩
  ·rw[e];exact⟨_,ho1,λv z=>by rw[hd1]at z;cases z⟩
  ·rw[e];exact⟨_,ho2,λv z=>by rw[hd2]at z;cases z⟩
 keep:=λi h h' st k=>by
  obtain⟨hz,hTI,⟨a,b',hTO⟩,⟨o1,ho1,r1⟩,⟨o2,ho2,r2⟩⟩:=st;exact⟨k z (by simp) _ hz,k TI (by simp) _ hTI,⟨a,b',k TO (by simp) _ hTO⟩,⟨o1,k i1 (by simp) _ ho1,r1⟩,⟨o2,k i2 (by simp) _ ho2,r2⟩⟩
 item:=by
  intro X hP hw hK hc i pins s σ H E I hf st hg;subst hP hw hK;obtain⟨hz,hTI,⟨a,b',hTO⟩,h1,h2⟩:=st;refine thn (IK (elts:=elts) (k:=k) (tpos:=tpos) (Qx:=λv q=>∃c,x.cps[i]? =some c/\q= .str ⟨#[c]⟩) (Qy:=λv q=>∃c,y.cps[i]? =some c/\q= .str ⟨#[c]⟩)
   (tn:=λh=>IsZip h z TI TO .none/\IsPair h TI (.ref i1) (.ref i2)/\(∃a b,IsPair h TO a b)/\h.IsStrIter i1 T1 x t (i+1)/\h.IsStrIter i2 T2 y u (i+1)) D (W1 X.A.in1 (I.ok.hd hc)) (W2 X.A.in1 (I.ok.hd hc)) I hf hz hTI hTO h1 h2 hg.1 hg.2
   (λh' _ _ a1 a2 a3 a4 a5=>⟨a1,a2,⟨_,_,a3⟩,a4,a5⟩) ?_ ?_) ?_
  ·rintro v ⟨c,u,hx,rfl⟩;exact⟨.str ⟨#[c]⟩,⟨u,rfl⟩,c,hx,rfl⟩
  ·rintro v ⟨c,u,hx,rfl⟩;exact⟨.str ⟨#[c]⟩,⟨u,rfl⟩,c,hx,rfl⟩
  ·rintro r s1 ⟨u,hr,h1⟩;refine⟨u,hr,thn h1 ?_⟩;rintro _ s2 ⟨xv,H',I2,rx,⟨Ta,q1,q2,v1,v2,hT,⟨c,hx,rfl⟩,⟨d,hy,rfl⟩,ex,eH⟩,tn2,fr⟩;exact⟨xv,H',I2,rx,⟨Ta,c,d,hT,hx,hy,ex,eH⟩,tn2,fr⟩
 done:=by
  intro X hP hw hK hc i pins s σ H E I hf st hg;subst hP hw hK;obtain⟨hz,hTI,⟨a,b',hTO⟩,h1,h2⟩:=st;exact Gp D (W1 X.A.in1 (I.ok.hd hc)) (W2 X.A.in1 (I.ok.hd hc)) hz hTI hTO h1 h2 hg λh' tk hx=>⟨rfl,I.turnedAll (t':=tk) hf λb o hb q=>hx b o (λz=>hb (by simp[z])) (λz=>hb (by simp[z])) (λz=>hb (by simp[z])) (λz=>hb (by simp[z])) q⟩
 self:=λA i s Q E st h=>wpAny_pyIter_zip st.1 h
end
theorem Kg{P:Program}{w:World}(it:Addr)(x:Str)(t:Tok):∀A:Around,A.handled=none->Draws P w A it [it] x.cps.size (λi v=>∃c u,x.cps[i]? =some c/\v= .str ⟨#[c]⟩ u) (λi h=>h.IsStrIter it (strIterType x) x t i):=λA hh=>by
 cases ha:x.cps.all (· <128)
 ·have e:strIterType x="str_iterator":=by simp[strIterType,ha]
  rw[e];exact Draws.strWide hh _ x t
 ·have e:strIterType x="str_ascii_iterator":=by simp[strIterType,ha]
  rw[e];exact Draws.strAscii hh _ x t
def Lp(ta:TA):TI:=λσ H R=>ta σ H λvs H1=>∃x y,vs=[.str x, .str y]/\R (IzS x y) H1
section
variable{X:Cx}{a b:Expr}{ta:TA}{p pos:Pos}{elts:List Expr}{k:Nat}{tpos:Pos}
theorem Kd{pins:List (Addr×Obj)}{σ:St}{H:Hp}{s:Shared}(I:Inv X pins σ H s):∀b∈[s.heap.objs.size+4,s.heap.objs.size+2,s.heap.objs.size+3,s.heap.objs.size,s.heap.objs.size+1],BH X pins H b:=λb hb=>by
 have:s.heap.objs.size<=b:=by
  simp only[List.mem_cons,List.not_mem_nil,or_false]at hb;rcases hb with e|e|e|e|e<;>lia
 exact I.fpOk this (I.hok.fresh this)
theorem LR(n:Nat):ZAp (n+4) (n+2) (n+3) n (n+1) [n] [n+1]:=by
 constructor<;>simp<;>lia
theorem Ji(hg:Gl X "zip")(hm:X.mg "zip"=none)(ha:PA X [a,b] ta)(hs:starEach [a,b] X.env=[(false,eval a X.env),(false,eval b X.env)]:=by rfl)(hs2:starEach [b] X.env=[(false,eval b X.env)]:=by rfl):PI X (.Tuple elts k tpos) (.Call (.Name "zip" p) [a,b] [] pos) (Lp ta):=by
 intro pins s σ H R I h;refine Call_ (Bn I hg hm boot_zip (PyProof.Rows.callWith_type1 (thn (ha pos pins s σ H _ I h) λus s1 ⟨vs,H1,I1,r1,q1⟩=>?_) (by rw[hs,hs2]) (by rw[hs2];rfl)));obtain⟨x,y,e,q⟩:=q1;subst e
 cases r1 with
 |cons r rr=>
  cases rr with
  |cons r2 rr=>
   cases rr
   obtain⟨t,rfl⟩:=r;obtain⟨u,rfl⟩:=r2;refine PB λh' hz hTI hTO h1 h2 hsz hk=>wpAny_pyIter_zip hz ?_;exact⟨s1.heap.objs.size+4,[s1.heap.objs.size+4,s1.heap.objs.size+2,s1.heap.objs.size+3,s1.heap.objs.size,s1.heap.objs.size+1],_,_,H1,rfl,I1.kept (t':=s1.toks) hk,OE (LR _) (Kg _ x t) (Kg _ y u),⟨hz,hTI,⟨_,_,hTO⟩,h1,h2⟩,Kd I1,q⟩
end
end L2
namespace PySem
open Sem (wp)
abbrev lit(l:Addr):Obj:={cls:= .type "list_iterator",data:= .fields #[.ref l, .int 0 0]}
end PySem
namespace L2
open PySem PySem.Spec PyProof.Rows
section
variable{P:Program}{w:World}{K:W.Frag}{elts:List Expr}{k:Nat}{tpos:Pos}
end
section
variable{X:Cx}{a b:Expr}{ta:TA}{p pos:Pos}{elts:List Expr}{k:Nat}{tpos:Pos}
end
end L2
namespace PySem
open Sem (wp)
end PySem
namespace L2
open PySem PySem.Spec PyProof.Rows
section
variable{P:Program}{w:World}{K:W.Frag}{elts:List Expr}{k:Nat}{tpos:Pos}
theorem Kp{z TI TO i1 i2 x l:Addr}(D:ZAp z TI TO i1 i2 [i1] [i2])(h1:l≠z)(h2:l≠TO)(h3:l≠i1)(g1:x≠z)(g2:x≠TO)(g3:x≠i2):ZAp z TI TO i1 i2 [i1,x] [i2,l]:=
 ⟨D.TIz,D.TOz,D.TITO,D.TIi1,D.TIi2,by have:=D.z1;simp at this⊢;exact⟨this,g1.symm⟩,by have:=D.z2;simp at this⊢;exact⟨this,h1.symm⟩,by have:=D.o1;simp at this⊢;exact⟨this,g2.symm⟩,by have:=D.o2;simp at this⊢;exact⟨this,h2.symm⟩,by have:=D.a12;simp at this⊢;exact⟨this,h3.symm⟩,by have:=D.a21;simp at this⊢;exact⟨this,g3.symm⟩,by simp,by simp⟩
end
section
variable{X:Cx}{a b:Expr}{ta:TA}{p pos:Pos}{elts:List Expr}{k:Nat}{tpos:Pos}
end
end L2
namespace PySem
open Sem (wp)
section
variable{prog:Program}{w:World}{A:Around}{E:Value->Shared->Prop}{s:Shared}
theorem To{j u:Addr}{n:Nat}{zs}{y:Value}{Q:Value->Shared->Prop}(hj:s.heap.IsTupleIter j u n)(hu:s.heap.IsTuple u zs)(hy:zs[n]? =some y)
 (hQ:∀h',h'.IsTupleIter j u (n+1)->Heap.SameBut j s.heap h'->Q y {s with heap:=h'}):wpAny (model prog w) A (Builtin.SmallTypes.nextOf (.ref j)) Q E s:=by
 obtain⟨o,ho,hc,hd⟩:=id hj;obtain⟨q,hq,_,m,hm⟩:=hu;unfold Builtin.SmallTypes.nextOf;refine wpAny_bind (wpAny_callSpecial?_slot (name:=Str.ofString "__next__") hj.typeIs F.slot_tuple_iterator_next (wpAny_call_entry F.slot_tuple_iterator_next hj.typeIs F.entry_tuple_iterator_next ?_ (F.args_tuple_iterator_next_1 _)));show wpAny _ _ (field (.ref j) 0>>=_) _ _ s;refine wpAny_bind (wpAny_field ho hd (x:= .ref u) rfl ?_);show wpAny _ _ (if(Value.ref u==Value.none)=true then _ else _) _ _ s;rw[if_neg (show¬ ((Value.ref u==Value.none)=true)from Bool.false_ne_true)];show wpAny _ _ (field (.ref j) 1>>=_) _ _ s;refine wpAny_bind (wpAny_field ho hd (x:= .int n 0) rfl ?_);show wpAny _ _ (seqItems? (.ref u)>>=_) _ _ s;refine wpAny_bind (wpAny_seqItems hq hm ?_);simp only[Int.toNat_natCast,hy];refine wpAny_bind (wpAny_setField ho hd (by simp) (wpAny_pure ⟨y,rfl,wpAny_pure (hQ _ ⟨_,Heap.get?_update_self _ ho (Obj.isFreed_of_fields (Obj.data_mapFields hd _)),(Obj.cls_mapFields ..).trans hc,?_⟩ (Heap.SameBut.update ..))⟩));rw[Obj.data_mapFields hd];simp[rawInt]
theorem Nu{j u:Addr}{n:Nat}{zs}{Q:Value->Shared->Prop}(hh:A.handled=none)(hj:s.heap.IsTupleIter j u n)(hu:s.heap.IsTuple u zs)(hy:zs[n]? =none)
 (hE:∀h' e,Heap.ExtBut j s.heap h'->(∃o,h'.get? e=some o/\o.cls= .type "StopIteration")->E (.ref e) {s with heap:=h'}):wpAny (model prog w) A (Builtin.SmallTypes.nextOf (.ref j)) Q E s:=by
 obtain⟨o,ho,hc,hd⟩:=id hj;obtain⟨q,hq,_,m,hm⟩:=hu;unfold Builtin.SmallTypes.nextOf;refine wpAny_bind (wpAny_callSpecial?_slot (name:=Str.ofString "__next__") hj.typeIs F.slot_tuple_iterator_next (wpAny_call_entry F.slot_tuple_iterator_next hj.typeIs F.entry_tuple_iterator_next ?_ (F.args_tuple_iterator_next_1 _)));show wpAny _ _ (field (.ref j) 0>>=_) _ _ s;refine wpAny_bind (wpAny_field ho hd (x:= .ref u) rfl ?_);show wpAny _ _ (if(Value.ref u==Value.none)=true then _ else _) _ _ s;rw[if_neg (show¬ ((Value.ref u==Value.none)=true)from Bool.false_ne_true)];show wpAny _ _ (field (.ref j) 1>>=_) _ _ s;refine wpAny_bind (wpAny_field ho hd (x:= .int n 0) rfl ?_);show wpAny _ _ (seqItems? (.ref u)>>=_) _ _ s;refine wpAny_bind (wpAny_seqItems hq hm ?_);simp only[Int.toNat_natCast,hy];refine wpAny_bind (wpAny_rule (wpAny_bind (wpAny_setField ho hd (by simp) ?_)));show wpAny _ _ (newExc (.type "StopIteration") []>>=_) _ _ _;refine wpAny_bind ?_;simp only[newExc,newTuple];refine wpAny_bind (wpAny_newObj_type ?_ (by size_fits));refine wpAny_bind (m:=firstArgMember _ _) (wpAny_of_eq (a:=Value.none) (by first|rfl|(simp only[firstArgMember];rfl)) ?_);refine wpAny_newObj_type ?_ (by size_fits);simp only[raiseNew];refine wpAny_bind (wpAny_handled ?_)
 first|rw[show A.in1.handled=none from hh]|rw[hh]
 refine wpAny_bind (wpAny_pure (wpAny_throw ?_));exact hE _ _ (((Heap.SameBut.update ..).extBut.push _).push _) ⟨_,Heap.get?_push_size _ rfl,rfl⟩
end
theorem Iz{prog:Program}{w:World}{A:Around}(hh:A.handled=none)(j u:Addr)(hne:u≠j)(zs:Array Value):Draws prog w A j [j,u] zs.size (λi v=>zs[i]? =some v) (λi h=>h.IsTupleIter j u i/\h.IsTuple u zs) where
 live:=λ_ _ st=>let⟨o,ho,_⟩:=st.1;⟨o,ho⟩
 frame:=λ_ _ _ st hk=>⟨st.1.at λo e=>hk j (by simp) o e,let⟨o,ho,r⟩:=st.2;⟨o,hk u (by simp) o ho,r⟩⟩
 item:=λi s Q E hi st hQ=>To st.1 st.2 (y:=zs[i]) (by simp[hi]) λh' a b=>hQ _ h' s.toks (by simp[hi]) ⟨a,st.2.extBut b.extBut hne⟩ b
 done:=λs Q E st hE=>Nu hh st.1 st.2 (by simp) hE
abbrev uit(l:Addr):Obj:={cls:= .type "tuple_iterator",data:= .fields #[.ref l, .int 0 0]}
abbrev zu2(h:Heap)(x l:Addr):Heap:=(h.push (lit x)).push (uit l)
abbrev zu3(h:Heap)(x l:Addr):Heap:=(zu2 h x l).push {cls:= .type "tuple",data:= .seq #[.ref h.objs.size, .ref (h.push (lit x)).objs.size]}
abbrev zu4(h:Heap)(x l:Addr):Heap:=(zu3 h x l).push {cls:= .type "tuple",data:= .seq #[.none, .none]}
abbrev zu5(h:Heap)(x l:Addr):Heap:=(zu4 h x l).push {cls:= .type "zip",data:= .fields #[.none, .bool false, .bool false, .ref (zu2 h x l).objs.size, .ref (zu3 h x l).objs.size]}
theorem Ma(x l:Addr){items items2:Array Value}{n:Nat}(lo lo2:Obj)(hlo:lo={cls:= .type "list",data:= .seq items n})(hc2:lo2.cls= .type "tuple")(hd2:∃n,lo2.data= .seq items2 n):
 Meets (Builtin.«zip.__new__» ⟨[.type "zip", .ref x, .ref l],[]⟩) (λ_ R s=>s.heap.get? x=some lo/\s.heap.get? l=some lo2/\R (.ok (.ret (.ref (zu4 s.heap x l).objs.size))) {s with heap:=zu5 s.heap x l}):=
 .of_wp λprog w A R s h=>by
   obtain⟨hp,g,d,tk,os⟩:=s;obtain⟨hx,hl,h⟩:=h;subst hlo;have hsub:=sub_zip;have hl1:hp.IsList x items:=⟨_,hx,rfl,_,rfl⟩;have hl2:(hp.push (lit x)).IsTuple l items2:=⟨_,Heap.get?_push_of_some _ hl,hc2,hd2⟩
   wp_walk using wpAny_pyIter_list hl1,wpAny_pyIter_tuple hl2
   exact⟨_,rfl,h⟩
theorem O9{prog:Program}{w:World}{A:Around}{E:Value->Shared->Prop}{s:Shared}{x l:Addr}{items items2:Array Value}{n:Nat}{Q:Value->Shared->Prop}
 (hx:s.heap.get? x=some {cls:= .type "list",data:= .seq items n}) (hl:s.heap.IsTuple l items2) (h:∀h',IsZip h' (s.heap.objs.size+4) (s.heap.objs.size+2) (s.heap.objs.size+3) .none->IsPair h' (s.heap.objs.size+2) (.ref s.heap.objs.size) (.ref (s.heap.objs.size+1))->
   IsPair h' (s.heap.objs.size+3) .none .none->h'.IsListIter s.heap.objs.size x 0->h'.IsTupleIter (s.heap.objs.size+1) l 0->h'.objs.size=s.heap.objs.size+5->
   (∀c o,s.heap.get? c=some o->h'.get? c=some o)->Q (.ref (s.heap.objs.size+4)) {s with heap:=h'}):
 wpAny (model prog w) A (call (.type "zip") [.ref x, .ref l]) Q E s:=by
 obtain⟨lo,hl,hc2,hd2⟩:=hl;refine callType_new F.called_zip (by decide) (F.typeCall_zip_2 _ _) (F.newCall_zip_2 _ _) (λobj=>F.args_object_init_3 obj _ _) F.entry_zip_new
  (Ma x l (items:=items) (n:=n) (items2:=items2) _ lo rfl hc2 hd2) ?_
 have z1:(s.heap.push (lit x)).objs.size=s.heap.objs.size+1:=Heap.size_push ..;have z2:(zu2 s.heap x l).objs.size=s.heap.objs.size+2:=by rw[Heap.size_push,z1]
 have z3:(zu3 s.heap x l).objs.size=s.heap.objs.size+3:=by rw[Heap.size_push,z2]
 have z4:(zu4 s.heap x l).objs.size=s.heap.objs.size+4:=by rw[Heap.size_push,z3]
 have z5:(zu5 s.heap x l).objs.size=s.heap.objs.size+5:=by rw[Heap.size_push,z4]
 have g5:(zu5 s.heap x l).get? (zu4 s.heap x l).objs.size=some _:=Heap.get?_push_size _ rfl;have g4:(zu5 s.heap x l).get? (zu3 s.heap x l).objs.size=some _:=Heap.get?_push_of_some _ (Heap.get?_push_size _ rfl);have g3:(zu5 s.heap x l).get? (zu2 s.heap x l).objs.size=some _:=Heap.get?_push_of_some _ (Heap.get?_push_of_some _ (Heap.get?_push_size _ rfl));have g2:(zu5 s.heap x l).get? (s.heap.push (lit x)).objs.size=some _:=Heap.get?_push_of_some _ (Heap.get?_push_of_some _ (Heap.get?_push_of_some _ (Heap.get?_push_size _ rfl)));have g1:(zu5 s.heap x l).get? s.heap.objs.size=some _:=Heap.get?_push_of_some _ (Heap.get?_push_of_some _ (Heap.get?_push_of_some _ (Heap.get?_push_of_some _ (Heap.get?_push_size _ rfl))));refine⟨hx,hl,?_⟩;show _/\_;rw[z2,z3,z4]at g5;rw[z1,z2]at g3;rw[z3]at g4;rw[z1]at g2;rw[z4];exact⟨⟨_,g5,rfl⟩,h _ g5 g3 g4 ⟨_,g1,rfl,rfl⟩ ⟨_,g2,rfl,rfl⟩ z5 λc o x=>
  Heap.get?_push_of_some _ (Heap.get?_push_of_some _ (Heap.get?_push_of_some _ (Heap.get?_push_of_some _ (Heap.get?_push_of_some _ x))))⟩
end PySem
namespace L2
open PySem PySem.Spec PyProof.Rows
def FTu(K:W.Frag)(a:Addr)(xs:List V):Prop:=∃ (o:Obj) (its:Array Value) (n:Nat),K.lookup a=some o/\o.cls= .type "tuple"/\o.data= .seq its n/\its.size<=sizeLine/\Vals xs its.toList
theorem FTu.sq{K:W.Frag}{H:Hp}{a:Addr}{xs:List V}(h:FTu K a xs):SqT K H a xs:= .inr h
def IzU(x:Addr)(xs:List V):It:=⟨λi H=>(∃zs,H x=some (.lst zs)/\i<zs.length)/\i<xs.length,λi H v H'=>∃T zs c d,H T=none/\H x=some (.lst zs)/\zs[i]? =some c/\xs[i]? =some d/\v= .ref T/\H'=upd H T (.tup [c,d]),λi H=>∃zs,H x=some (.lst zs)/\(i=zs.length\/(i<zs.length/\i=xs.length))⟩
section
variable{P:Program}{w:World}{K:W.Frag}{elts:List Expr}{k:Nat}{tpos:Pos}
theorem OD{x l:Addr}{xs:List V}{z TI TO i1 i2:Addr}(hF:FTu K l xs)(D:ZAp z TI TO i1 i2 [i1] [i2])(nel:∀b∈[z,TI,TO,i1,i2],l≠b):
 Turn P w K (.Tuple elts k tpos) (IzU x xs) [z,TI,TO,i1,i2] z (λi h=>IsZip h z TI TO .none/\IsPair h TI (.ref i1) (.ref i2)/\(∃a b,IsPair h TO a b)/\h.IsListIter i1 x i/\h.IsTupleIter i2 l i) where
 mem:=by simp
 obj:=λi h st b hb=>by
  obtain⟨hz,hTI,⟨a,b',hTO⟩,⟨o1,ho1,_,hd1⟩,⟨o2,ho2,_,hd2⟩⟩:=st;simp only[List.mem_cons,List.not_mem_nil,or_false]at hb;rcases hb with e|e|e|e|e
  ·rw[e];exact⟨_,hz,λv z=>by cases z⟩
  ·rw[e];exact⟨_,hTI,λv z=>by cases z⟩
  ·rw[e];exact⟨_,hTO,λv z=>by cases z⟩
  ·rw[e];exact⟨_,ho1,λv z=>by rw[hd1]at z;cases z⟩
  ·rw[e];exact⟨_,ho2,λv z=>by rw[hd2]at z;cases z⟩
 keep:=λi h h' st k=>by
  obtain⟨hz,hTI,⟨a,b',hTO⟩,⟨o1,ho1,r1⟩,⟨o2,ho2,r2⟩⟩:=st;exact⟨k z (by simp) _ hz,k TI (by simp) _ hTI,⟨a,b',k TO (by simp) _ hTO⟩,⟨o1,k i1 (by simp) _ ho1,r1⟩,⟨o2,k i2 (by simp) _ ho2,r2⟩⟩
 item:=by
  intro X hP hw hK hc i pins s σ H E I hf st hg;subst hP hw hK;obtain⟨hz,hTI,⟨a,b',hTO⟩,h1,h2⟩:=st;obtain⟨⟨zs,hzs,hg1⟩,hg2⟩:=hg;have nx:∀b∈[z,TI,TO,i1,i2],x≠b:=λb hb e=>by have:=(hf b hb).1;rw[<-e,hzs]at this;cases this
  obtain⟨its,rv,hL,hln⟩:=I.tuple (hF.sq (H:=H));obtain⟨zz',its',n',rv',hln',hlo'⟩:=I.lstM hzs;have hX:s.heap.IsList x its'.toArray:=⟨_,hlo',rfl,_,rfl⟩;have hlen:=rv.length;have D':=Kp (x:=x) (l:=l) D (nel z (by simp)) (nel TO (by simp)) (nel i1 (by simp)) (nx z (by simp)) (nx TO (by simp)) (nx i2 (by simp));refine thn (IK (elts:=elts) (k:=k) (tpos:=tpos) (Qx:=λv q=>∃d,zs[i]? =some d/\q=d) (Qy:=λv q=>∃d,xs[i]? =some d/\q=d)
   (tn:=λh=>IsZip h z TI TO .none/\IsPair h TI (.ref i1) (.ref i2)/\(∃a b,IsPair h TO a b)/\h.IsListIter i1 x (i+1)/\h.IsTupleIter i2 l (i+1)) D' (Draws.list (A:=X.A.in1) (I.ok.hd hc) i1 x (nx i1 (by simp)) its'.toArray) (Iz (A:=X.A.in1) (I.ok.hd hc) i2 l (nel i2 (by simp)) its.toArray) I hf hz hTI hTO ⟨h1,hX⟩ ⟨h2,hL⟩ (by rw[List.size_toArray];lia) (by rw[List.size_toArray];lia)
   (λh' _ _ a1 a2 a3 a4 a5=>⟨a1,a2,⟨_,_,a3⟩,a4.1,a5.1⟩) ?_ ?_) ?_
  ·intro v hv;obtain⟨u1,g1,ru⟩:=rv'.get (i:=i) (x:=zs[i]) (List.getElem?_eq_getElem hg1);have:u1=v:=by
    have hv:its'.toArray[i]? =some v:=hv;rw[List.getElem?_toArray,g1]at hv;exact Option.some.inj hv
   subst this;exact⟨zs[i],ru,zs[i],List.getElem?_eq_getElem hg1,rfl⟩
  ·intro v hv;obtain⟨u1,g1,ru⟩:=rv.get (i:=i) (x:=xs[i]) (List.getElem?_eq_getElem hg2);have:u1=v:=by
    have hv:its.toArray[i]? =some v:=hv;rw[List.getElem?_toArray,g1]at hv;exact Option.some.inj hv
   subst this;exact⟨xs[i],ru,xs[i],List.getElem?_eq_getElem hg2,rfl⟩
  ·rintro r s1 ⟨u,hr,h1⟩;refine⟨u,hr,thn h1 ?_⟩;rintro _ s2 ⟨xv,H',I2,rx,⟨Ta,q1,q2,v1,v2,hT,⟨c,hx,rfl⟩,⟨d,hy,rfl⟩,ex,eH⟩,tn2,fr⟩;exact⟨xv,H',I2,rx,⟨Ta,zs,q1,q2,hT,hzs,hx,hy,ex,eH⟩,tn2,fr⟩
 done:=by
  intro X hP hw hK hc i pins s σ H E I hf st hg;subst hP hw hK;obtain⟨hz,hTI,⟨a,b',hTO⟩,h1,h2⟩:=st;obtain⟨zs,hzs,hg⟩:=hg;have nx:∀b∈[z,TI,TO,i1,i2],x≠b:=λb hb e=>by have:=(hf b hb).1;rw[<-e,hzs]at this;cases this
  obtain⟨its,rv,hL,hln⟩:=I.tuple (hF.sq (H:=H));obtain⟨zz',its',n',rv',hln',hlo'⟩:=I.lstM hzs;have hX:s.heap.IsList x its'.toArray:=⟨_,hlo',rfl,_,rfl⟩;have hlen:=rv.length;have D':=Kp (x:=x) (l:=l) D (nel z (by simp)) (nel TO (by simp)) (nel i1 (by simp)) (nx z (by simp)) (nx TO (by simp)) (nx i2 (by simp));exact Gp D' (Draws.list (A:=X.A.in1) (I.ok.hd hc) i1 x (nx i1 (by simp)) its'.toArray) (Iz (A:=X.A.in1) (I.ok.hd hc) i2 l (nel i2 (by simp)) its.toArray) hz hTI hTO ⟨h1,hX⟩ ⟨h2,hL⟩ (hg.imp (λa=>by rw[List.size_toArray];lia) λ⟨a,b⟩=>⟨by rw[List.size_toArray];lia,by rw[List.size_toArray];lia⟩) λh' tk hx=>⟨rfl,I.turnedAll (t':=tk) hf λb o hb q=>hx b o (λz=>hb (by simp[z])) (λz=>hb (by simp[z])) (λz=>hb (by simp[z])) (λz=>hb (by simp[z])) q⟩
 self:=λA i s Q E st h=>wpAny_pyIter_zip st.1 h
end
def Lo(K:W.Frag)(ta:TA):TI:=λσ H R=>ta σ H λvs H1=>∃x l zs xs,vs=[.ref x, .ref l]/\H1 x=some (.lst zs)/\FTu K l xs/\R (IzU x xs) H1
section
variable{X:Cx}{a b:Expr}{ta:TA}{p pos:Pos}{elts:List Expr}{k:Nat}{tpos:Pos}
theorem Jh(K:W.Frag)(hg:Gl X "zip")(hm:X.mg "zip"=none)(ha:PA X [a,b] ta)(hs:starEach [a,b] X.env=[(false,eval a X.env),(false,eval b X.env)]:=by rfl)(hs2:starEach [b] X.env=[(false,eval b X.env)]:=by rfl)(hK:X.K=K:=by rfl):PI X (.Tuple elts k tpos) (.Call (.Name "zip" p) [a,b] [] pos) (Lo K ta):=by
 subst hK;intro pins s σ H R I h;refine Call_ (Bn I hg hm boot_zip (PyProof.Rows.callWith_type1 (thn (ha pos pins s σ H _ I h) λus s1 ⟨vs,H1,I1,r1,q1⟩=>?_) (by rw[hs,hs2]) (by rw[hs2];rfl)));obtain⟨x,l,zs,xs,e,hx,hF,q⟩:=q1;subst e
 cases r1 with
 |cons r rr=>
  cases rr with
  |cons r2 rr=>
   cases rr
   cases r
   cases r2
   obtain⟨its,rv,hL,hln⟩:=I1.tuple (hF.sq (H:=H1));obtain⟨zz',its',n',rv',hln',hlo'⟩:=I1.lstM hx;have nel:∀b∈[s1.heap.objs.size+4,s1.heap.objs.size+2,s1.heap.objs.size+3,s1.heap.objs.size,s1.heap.objs.size+1],l≠b:=λb hb e=>by
    obtain⟨o,ho,_⟩:=hL;have hlt:l<s1.heap.objs.size:=Heap.lt_size ho;simp only[List.mem_cons,List.not_mem_nil,or_false]at hb;rw[e]at hlt;rcases hb with rfl|rfl|rfl|rfl|rfl
    ·exact Nat.not_lt.mpr (Nat.le_add_right _ 4) hlt
    ·exact Nat.not_lt.mpr (Nat.le_add_right _ 2) hlt
    ·exact Nat.not_lt.mpr (Nat.le_add_right _ 3) hlt
    ·exact Nat.lt_irrefl _ hlt
    ·exact Nat.not_lt.mpr (Nat.le_add_right _ 1) hlt
   refine O9 hlo' hL λh' hz hTI hTO h1 h2 hsz hk=>wpAny_pyIter_zip hz ?_;exact⟨s1.heap.objs.size+4,[s1.heap.objs.size+4,s1.heap.objs.size+2,s1.heap.objs.size+3,s1.heap.objs.size,s1.heap.objs.size+1],_,_,H1,rfl,I1.kept (t':=s1.toks) hk,OD hF (LR _) nel,⟨hz,hTI,⟨_,_,hTO⟩,h1,h2⟩,Kd I1,q⟩
end
theorem Sb{K:W.Frag}{σ:St}{H:Hp}{ta:TA}{R:It->Hp->Prop}(h:ta σ H λvs H1=>∃x l zs xs,vs=[.ref x, .ref l]/\H1 x=some (.lst zs)/\FTu K l xs/\R (IzU x xs) H1):Lo K ta σ H R:=h
end L2
namespace BrS
open L2 PySem BrM BrC
def pw(k c b:Nat):Int:=(plw (ones k) c).getD b 0
def ws(k:Nat):List Nat->List Nat->Int
 |[],[]=>1
 |[],_::_=>0
 |c::r,st=>sm k (λp=>pw k c (2*p)*ws k r (p::st))+(match st with|[]=>0|o::s'=>pw k c (2*o+1)*ws k r s')
variable{k:Nat}
end BrS
namespace BrS
open L2 PySem BrM BrC
section
variable{k:Int}
end
abbrev En:=List Nat×List Nat
def wt(k:Nat)(r:List Nat)(L:List En):Int:=(L.map λe=>ws k r e.2).sum
end BrS
namespace L2
open PySem PySem.Spec PyProof.Rows
def VM(i j:Int):Prop:=0<j/\j<2^200
theorem P7{X:Cx}:OpR X (binaryOp .FloorDiv) (rI VM λi j=> .int (i/j)):=opI λi j _ _ _ _ _ hc q=>by
 have h1:(0:Int)<j:=hc.1;have h2:j<2^200:=hc.2;refine floordiv_int (by lia) (by rw[Int.fdiv_eq_ediv_of_nonneg i (by lia)];exact q) (.inl (PyProof.noPylong_of_log2 ?_));have h3:j.natAbs≠0:=by lia
 have h4:j.natAbs<2^200:=by lia
 exact Nat.lt_trans ((Nat.log2_lt h3).mpr h4) (by decide)
theorem SqL.ty{K:W.Frag}{H:Hp}{p:Addr}{xs:List V}(h:SqL K H p xs):tyV K "list" (.ref p) H:= .inl ⟨rfl,_,h⟩
end L2
namespace BrS
open L2 PySem BrM BrC BrR
def Po(H:Hp)(p:Addr):Prop:=∃a b c:Int,H p=some (.lst [.int a, .int b, .int c])
theorem Po.same{H H':Hp}{p:Addr}(h:Po H p)(s:Same H H'):Po H' p:=let⟨a,b,c,e⟩:=h;⟨a,b,c,s _ _ e⟩
theorem Po.ne{H:Hp}{p q:Addr}(h:Po H p)(hq:H q=none):q≠p:=let⟨_,_,_,e⟩:=h;(AQ e hq).symm
theorem Po.new{H:Hp}{p:Addr}{a b c:Int}:Po (upd H p (.lst [.int a, .int b, .int c])) p:=⟨a,b,c,AF⟩
inductive spPoolD (K:W.Frag) (vs:List V) (H:Hp) (Q:VK) (E:XK):Prop
 |mk (a:Addr) (ns:List Int) (k:Int) (_:vs=[.ref a, .int k]) (_:SqL K H a (ns.map V.int)) (_:0<=k) (_:k<=63) (_:∀p H',H p=none->Same H H'->Po H' p->Q (.ref p) H')
theorem Hk{K:W.Frag}{H:Hp}{a:Addr}{ns:List Int}{k:Int}{Q:VK}{E:XK}(hS:SqL K H a (ns.map V.int))(h0:0<=k)(h1:k<=63)(q:∀p H',H p=none->Same H H'->Po H' p->Q (.ref p) H'):spPoolD K ([.ref a, .int k]++[]) H Q E:=
 ⟨a,ns,k,rfl,hS,h0,h1,q⟩
inductive spDraw (vs:List V) (H:Hp) (Q:VK) (E:XK):Prop
 |mk (p m:_) (_:vs=[.ref p, .int m]) (_:Po H p) (_:0<m) (_:m<2^200) (_:∀r H',0<=r->r<m->Po H' p->SameBut1 p H H'->Q (.int r) H')
theorem Ap{H:Hp}{p:Addr}{m:Int}{Q:VK}{E:XK}(hp:Po H p)(h0:0<m)(h1:m<2^200)(q:∀r H',0<=r->r<m->Po H' p->SameBut1 p H H'->Q (.int r) H'):spDraw ([.ref p, .int m]++[]) H Q E:=⟨p,m,rfl,hp,h0,h1,q⟩
theorem Vg{p a:Addr}{H H':Hp}{o:HO}(s:SameBut1 p H H')(h:H a=none):SameBut1 p H (upd H' a o):=λb u z n=>by rw[AG (AQ z h)];exact s b u z n
theorem FS(a:List Nat):(a.map λc=>[c]).flatten=a:=by
 induction a with
 |nil=>rfl
 |cons c r ih=>rw[List.map_cons,List.flatten_cons,ih];rfl
theorem Fm{n j:Nat}(h:j<n):ixN n (j:Int)=some j:=by
 unfold ixN;simp[h]
def IX:Sp:=λvs H Q _=>∃ (p:Addr) (k h:Int),vs=[.ref p, .int k, .int h]/\Po H p/\1<=k/\k<=4/\0<=h/\h<=20/\
 ∀row H',Rt row->(row.length:Int)=2*h->(∀c∈row,kin k c)->Po H' p->SameBut1 p H H'->Q (tx row) H'
theorem Nj{H:Hp}{p:Addr}{k h:Int}{Q:VK}{E:XK}(hd:Po H p)(h1:1<=k)(h2:k<=4)(h3:0<=h)(h4:h<=20)
 (q:∀row H',Rt row->(row.length:Int)=2*h->(∀c∈row,kin k c)->Po H' p->SameBut1 p H H'->Q (tx row) H'):IX ([.ref p, .int k, .int h]++[]) H Q E:=⟨p,k,h,rfl,hd,h1,h2,h3,h4,q⟩
inductive spCheckFillE (cs:Cs) (vs:List V) (H:Hp) (Q:VK) (E:XK):Prop
 |mk (H0 s ad n T:_) (_:vs=[.ref s]) (_:Tb H0 H s ad n T) (_:((T 0 n≠0/\Q .non H)\/(T 0 n=0/\Ref E cs.NoFilling H)))
inductive PSsb (X:Cx) (sts:List Stmt) (t:TS):Prop
 |mk (h:PSs X sts t):PSsb X sts t
theorem PSsb.pss{X:Cx}{sts:List Stmt}{t:TS}(h:PSsb X sts t):PSs X sts t:=h.casesOn λh=>h
theorem Ab{X:Cx}{st:Stmt}{rest:List Stmt}{t u:TS}(h:PSb X st t)(r:PSsb X rest u):PSsb X (st::rest) (Dy t u):=⟨AD h.ps r.pss⟩
theorem FN{X:Cx}{st:Stmt}{t:TS}(h:PSb X st t):PSsb X [st] t:=⟨AE h.ps⟩
def Ej:Sp:=λ_ _ _ _=>False
end BrS
namespace L2
open PySem PySem.Spec PyProof.Rows
section
variable{prog:Program}{w:World}{A:Around}{E:Value->Shared->Prop}{s:Shared}{K:W.Frag}{x C t0:Addr}{m:Str}{tk:Tok}
end
section
variable{X:Cx}{C:Addr}{x:Str}{e:Expr}{te:TE}{np cpos sp pos:Pos}
end
section
variable{X:Cx}
end
end L2
namespace L2
open PySem PySem.Spec PyProof.Rows BrR
section
variable{σ:St}{H:Hp}{Q:VK}{K:W.Frag}
end
end L2
namespace BrS
open L2 PySem BrM BrC BrR
def sgb(k:Int):List Nat:=opn.take k.toNat++cls.take k.toNat
theorem JZ{k:Int}{c:Nat}(h:c∈sgb k):c∈sgn k:=List.mem_append_left _ h
theorem Ja{k:Int}(h1:1<=k)(h4:k<=4):(sgb k).length=(2*k).toNat:=by
 unfold sgb;rw[List.length_append,List.length_take,List.length_take];simp[opn,cls];lia
def IW:Sp:=λvs H Q _=>∃k,vs=[.int k]/\1<=k/\k<=4/\Q (tx (sgb k)) H
theorem HL{H:Hp}{k:Int}{Q:VK}{E:XK}(h1:1<=k)(h2:k<=4)(q:Q (tx (sgb k)) H):IW ([.int k]++[]) H Q E:=⟨k,rfl,h1,h2,q⟩
def JV:Sp:=λvs H Q _=>∃ (p:Addr) (k:Int) (row:List Nat) (o:Int),vs=[.ref p, .int k,tx row, .int o]/\Po H p/\1<=k/\k<=4/\isRow k row=true/\0<=o/\o<=1000/\
 ∀row' H',row'.length<=row.length->isRow k row'=true->Po H' p->SameBut1 p H H'->Q (tx row') H'
theorem PN{H:Hp}{p:Addr}{k o:Int}{row:List Nat}{Q:VK}{E:XK}(hp:Po H p)(h1:1<=k)(h2:k<=4)(hr:isRow k row=true)(h3:0<=o)(h4:o<=1000)
 (q:∀row' H',row'.length<=row.length->isRow k row'=true->Po H' p->SameBut1 p H H'->Q (tx row') H'):JV ([.ref p, .int k,tx row, .int o]++[]) H Q E:=⟨p,k,row,o,rfl,hp,h1,h2,hr,h3,h4,q⟩
def JS:Sp:=λvs H Q _=>∃ (p:Addr) (k m:Int),vs=[.ref p, .int k, .int m]/\Po H p/\1<=k/\k<=4/\1<=m/\m<=40/\
 ∀row H',(row.length:Int)<=m->isRow k row=true->Po H' p->SameBut1 p H H'->Q (tx row) H'
theorem Ol{H:Hp}{p:Addr}{k m:Int}{Q:VK}{E:XK}(hp:Po H p)(h1:1<=k)(h2:k<=4)(h3:1<=m)(h4:m<=40)
 (q:∀row H',(row.length:Int)<=m->isRow k row=true->Po H' p->SameBut1 p H H'->Q (tx row) H'):JS ([.ref p, .int k, .int m]++[]) H Q E:=⟨p,k,m,rfl,hp,h1,h2,h3,h4,q⟩
end BrS
namespace L2
open PySem PySem.Spec PyProof.Rows
section
variable{X:Cx}{pins:List (Addr×Obj)}{σ:St}{H:Hp}{s:Shared}{a:Addr}
end
theorem UB{P:Program}{w:World}{k:Key}{v:Value}(h:(Au P w).is k v=true):RelV (kV k) v:=by
 rcases B3 h with⟨i,t,rfl,rfl⟩|⟨x,t,rfl,rfl⟩
 ·exact⟨t,rfl⟩
 ·exact⟨t,rfl⟩
section
variable{K:W.Frag}{g:TG}{tb:TS}{D:Ends}{σ:St}{H:Hp}{Q:VK}
end
section
variable{K:W.Frag}{σ:St}{H:Hp}{Q:VK}{D:Ends}
theorem Sx{td ty:TE}(h:td σ H λx H1=>ty σ H1 λy H2=>∃a v,x= .ref a/\DGet H2 a y (some v)/\Q v H2):GJ td ty σ H Q:=h
theorem Su{td ty tv:TE}(h:tv σ H λv H1=>td σ H1 λx H2=>ty σ H2 λy H3=>∃a H4,x= .ref a/\DPut H3 a y v H4/\D.nx σ H4):K1 td ty tv D σ H:=h
end
end L2
namespace BrS
open L2 PySem BrM BrC BrR
theorem A4{k:Nat}{A:Around}(r:Room k A):A.units+1<cLine:=by have:=r.un;lia
end BrS
namespace BrT
open PySem
def Rise(a:Array Nat):Prop:=a.toList.Pairwise (· < ·)
theorem Rise.lt{a:Array Nat}(r:Rise a){i j x y:Nat}(hij:i<j)(hx:a[i]? =some x)(hy:a[j]? =some y):x<y:=by
 have hx':a.toList[i]? =some x:=by simpa using hx
 have hy':a.toList[j]? =some y:=by simpa using hy
 obtain⟨hi,rfl⟩:=List.getElem?_eq_some_iff.mp hx';obtain⟨hj,rfl⟩:=List.getElem?_eq_some_iff.mp hy';exact(List.pairwise_iff_getElem.mp r) i j hi hj hij
theorem FX(xs:Array Nat)(r:Rise xs)(j:Nat):∀ (f lo hi:Nat),hi-lo<=f->lo<=hi->hi<=xs.size->(∀i x,i<lo->xs[i]? =some x->x<j)->(∀i x,hi<=i->xs[i]? =some x->j<=x)->
 SetTable.below.go xs j f lo hi<=xs.size/\(∀i x,i<SetTable.below.go xs j f lo hi->xs[i]? =some x->x<j)/\(∀i x,SetTable.below.go xs j f lo hi<=i->xs[i]? =some x->j<=x)
 |0,lo,hi,hf,h1,h2,ha,hb=>by
  have:lo=hi:=by lia
  subst this;unfold SetTable.below.go;exact⟨h2,ha,hb⟩
 |f+1,lo,hi,hf,h1,h2,ha,hb=>by
  unfold SetTable.below.go
  by_cases hlt:lo<hi
  ·rw[if_pos hlt]
   dsimp only
   have hm1:(lo+hi)/2<hi:=by lia
   have hm2:lo<=(lo+hi)/2:=by lia
   have hm:(lo+hi)/2<xs.size:=by lia
   have hget:xs[(lo+hi)/2]? =some xs[(lo+hi)/2]:=Array.getElem?_eq_getElem hm;have hD:xs.getD ((lo+hi)/2) j=xs[(lo+hi)/2]:=by simp[Array.getD,hm]
   rw[hD]
   by_cases hc:xs[(lo+hi)/2]<j
   ·rw[if_pos hc];refine FX xs r j f _ _ (by lia) (by lia) h2 (λi x hi' hx=>?_) hb
    by_cases he:i=(lo+hi)/2
    ·subst he;rw[hget]at hx;cases hx;exact hc
    ·exact Nat.lt_trans (r.lt (by lia) hx hget) hc
   ·rw[if_neg hc];refine FX xs r j f _ _ (by lia) (by lia) (by lia) ha (λi x hi' hx=>?_)
    by_cases he:i=(lo+hi)/2
    ·subst he;rw[hget]at hx;cases hx;lia
    ·have:=r.lt (show(lo+hi)/2<i by lia) hget hx;lia
  ·rw[if_neg hlt];have:lo=hi:=by lia
   subst this;exact⟨h2,ha,hb⟩
theorem EO{xs:Array Nat}(r:Rise xs)(j:Nat):SetTable.below xs j<=xs.size/\(∀i x,i<SetTable.below xs j->xs[i]? =some x->x<j)/\(∀i x,SetTable.below xs j<=i->xs[i]? =some x->j<=x):=
 FX xs r j xs.size 0 xs.size (by lia) (Nat.zero_le _) (Nat.le_refl _) (λi x h=>absurd h (Nat.not_lt_zero _)) λi x h hx=>by
  have:=Array.getElem?_eq_none (xs:=xs) h;rw[this]at hx;cases hx
theorem N9{xs:Array Nat}(r:Rise xs){i x:Nat}(hx:xs[i]? =some x):SetTable.below xs (x+1)=i+1:=by
 obtain⟨h1,h2,h3⟩:=EO r (x+1);have hi:i<xs.size:=(Array.getElem?_eq_some_iff.mp hx).1;rcases Nat.lt_trichotomy (SetTable.below xs (x+1)) (i+1)with h|h|h
 ·have:=h3 i x (by lia) hx;lia
 ·exact h
 ·have hi1:i+1<xs.size:=by lia
  have hg:xs[i+1]? =some xs[i+1]:=Array.getElem?_eq_getElem hi1;have a:=h2 (i+1) _ h hg;have b:=r.lt (Nat.lt_succ_self i) hx hg;lia
theorem N8{xs:Array Nat}(r:Rise xs):SetTable.below xs 0=0:=by
 obtain⟨h1,h2,h3⟩:=EO r 0;rcases Nat.eq_zero_or_pos (SetTable.below xs 0)with h|h
 ·exact h
 ·have hg:xs[0]? =some (xs[0]'(by lia)):=Array.getElem?_eq_getElem _;have:=h2 0 _ h hg;lia
theorem Mi{α:Type}(xs:Array α)(p:Nat)(x:α):(SetTable.insertAt xs p x).toList=xs.toList.take p++x::xs.toList.drop p:=by
 unfold SetTable.insertAt;simp;rw[List.take_of_length_le (by simp)]
theorem Rise.insert{xs:Array Nat}(r:Rise xs){j:Nat}(hj:∀i:Nat,xs[i]? ≠some j):Rise (SetTable.insertAt xs (SetTable.below xs j) j):=by
 obtain⟨h1,h2,h3⟩:=EO r j;generalize SetTable.below xs j=p at*
 unfold Rise;rw[Mi];refine List.pairwise_append.mpr ⟨List.Pairwise.sublist (List.take_sublist _ _) r,List.pairwise_cons.mpr ⟨λy hy=>?_,List.Pairwise.sublist (List.drop_sublist _ _) r⟩,λy hy z hz=>?_⟩
 ·obtain⟨i,hi,e⟩:=List.mem_iff_getElem.mp hy;rw[List.getElem_drop]at e;have hg:xs[p+i]? =some y:=by rw[<-Array.getElem?_toList,<-e];exact List.getElem?_eq_getElem _
  have a:=h3 (p+i) y (by lia) hg;have b:=hj (p+i);have c:y≠j:=λe2=>b (e2▸hg);lia
 ·obtain⟨i,hi,e⟩:=List.mem_iff_getElem.mp hy;have hip:i<p:=by have:=hi;rw[List.length_take]at this;lia
  rw[List.getElem_take]at e;have hg:xs[i]? =some y:=by rw[<-Array.getElem?_toList,<-e];exact List.getElem?_eq_getElem _
  have hyj:=h2 i y hip hg;rcases List.mem_cons.mp hz with rfl|hz
  ·exact hyj
  ·obtain⟨k,hk,e2⟩:=List.mem_iff_getElem.mp hz;rw[List.getElem_drop]at e2;have hg2:xs[p+k]? =some z:=by rw[<-Array.getElem?_toList,<-e2];exact List.getElem?_eq_getElem _
   have:=h3 (p+k) z (by lia) hg2;lia
theorem Ho{t:SetTable}(r:Rise t.place){d:Nat}(h:t.place[SetTable.below t.place d]? ≠some d):∀i:Nat,t.place[i]? ≠some d:=by
 obtain⟨h1,h2,h3⟩:=EO r d;intro i hi;rcases Nat.lt_or_ge i (SetTable.below t.place d)with hl|hl
 ·have:=h2 i d hl hi;lia
 ·have hlt:SetTable.below t.place d<t.place.size:=Nat.lt_of_le_of_lt hl (Array.getElem?_eq_some_iff.mp hi).1;have hg:t.place[SetTable.below t.place d]? =some _:=Array.getElem?_eq_getElem hlt;have a:=h3 _ _ (Nat.le_refl _) hg;rcases Nat.eq_or_lt_of_le hl with e|e
  ·rw[<-e]at hi;exact h hi
  ·have:=r.lt e hg hi;lia
theorem IZ{t:SetTable}{d:Nat}(h:t.slot d= .empty\/t.slot d= .dummy):t.place[SetTable.below t.place d]? ≠some d:=by
 intro e;unfold SetTable.slot at h;simp[e]at h
theorem FO(t:SetTable)(f:Nat->Int)(h:Int):∀ (n:Nat) (p:SetTable.Probe) (j:Nat) (d:Option Nat),(∀x,p.dummy=some x->t.slot x= .dummy)->SetTable.probe.go t f h n p=some (.empty j d)->(t.slot j= .empty)/\∀x,d=some x->t.slot x= .dummy
 |0,p,j,d,hp,e=>by unfold SetTable.probe.go at e;cases e
 |n+1,p,j,d,hp,e=>by
  unfold SetTable.probe.go at e
  cases hs:t.slot p.j with
  |empty=>rw[hs]at e;simp at e;obtain⟨rfl,rfl⟩:=e;exact⟨hs,hp⟩
  |dummy=>
   rw[hs]at e;refine FO t f h n _ j d (λx hx=>?_) e;have:(t.advance {p with dummy:=some p.j}).dummy=some p.j:=by unfold SetTable.advance;dsimp only;split<;>rfl
   rw[this]at hx;cases hx;exact hs
  |live i=>
   rw[hs]at e
   dsimp only at e
   split at e
   ·cases e
   ·refine FO t f h n _ j d (λx hx=>?_) e;have:(t.advance p).dummy=p.dummy:=by unfold SetTable.advance;dsimp only;split<;>rfl
    rw[this]at hx;exact hp x hx
theorem QK{t:SetTable}(r:Rise t.place){h:Int}{j:Nat}{b:Bool}(e:t.freeSlot h=some (j,b)):∀i:Nat,t.place[i]? ≠some j:=by
 unfold SetTable.freeSlot at e
 split at e
 ·rename_i j0 d hq
  obtain⟨h1,h2⟩:=FO t _ _ _ _ j0 d (λx hx=>by unfold SetTable.probeStart at hx;cases hx) hq;simp at e;obtain⟨e1,e2⟩:=e
  cases d with
  |none=>simp at e1;subst e1;exact Ho r (IZ (.inl h1))
  |some x=>simp at e1;subst e1;exact Ho r (IZ (.inr (h2 x rfl)))
 ·cases e
theorem Nh(n:Nat):Rise (Array.range n):=by
 unfold Rise;rw[Array.toList_range];exact List.pairwise_lt_range
def Tb(l:Bool)(t:SetTable):Prop:=Rise t.place/\t.led=l
theorem Tb.standIn{l:Bool}{t:SetTable}(h:Tb l t)(n:Nat):Tb l (t.standIn n):=⟨Nh n,h.2⟩
theorem Om{l:Bool}{t:SetTable}(h:Tb l t)(es:Array (Int×Value))(hs:Int)(x:Value):Tb l (layNew t es hs x).2.1:=by
 unfold layNew
 cases e:t.freeSlot hs with
 |none=>exact h.standIn _
 |some sb=>
  obtain⟨sl,b⟩:=sb;have r:=h.1.insert (QK h.1 e);have h':Tb l (t.put sl).1:=⟨r,h.2⟩;show Tb l (SetTable.orStandIn (t.put sl).1 _);unfold SetTable.orStandIn
  split
  ·exact h'
  ·exact h'.standIn _
theorem Rh{m f mv:Nat}{l p:Bool}{hs:Array Int}{t:SetTable}{o:Array Nat}(e:SetTable.laid m f mv l p hs=some (t,o)):Tb l t:=by
 unfold SetTable.laid at e
 cases hl:SetTable.layClean m hs with
 |none=>rw[hl]at e;cases e
 |some ow=>
  rw[hl]at e;simp at e;obtain⟨e1,e2⟩:=e;subst e1;refine⟨?_,rfl⟩;unfold Rise;simp only[];refine List.Pairwise.map _ (λa b h=>h) (R:=fun(a b:Nat×Nat)=>a.1<b.1) ?_;refine List.Pairwise.filterMap _ (R:=fun(a b:Nat)=>a<b) (λa b hab c hc d hd=>?_) List.pairwise_lt_range;simp at hc hd;obtain⟨_,_,rfl⟩:=hc;obtain⟨_,_,rfl⟩:=hd;exact hab
theorem M2{l:Bool}{t:SetTable}(h:Tb l t)(es:Array (Int×Value))(wn:Nat):Tb l (relayAll t es wn).2.1:=by
 unfold relayAll
 cases e:t.relaid (es.map (·.1)) wn with
 |none=>exact h.standIn _
 |some p=>
  obtain⟨t',o⟩:=p
  dsimp only
  unfold SetTable.relaid at e;have:=Rh e
  split
  ·exact⟨this.1,this.2.trans h.2⟩
  ·exact h.standIn _
end BrT
namespace BrT
open PySem PySem.Spec PyProof.Rows
def keyOf(e:Int×Value):Int:=match e.2 with| .int k _=>k|_=>0
section
variable{prog:Program}{w:World}{A:Around}{E:Value->Shared->Prop}{s:Shared}
theorem int_of{k:Int}{v:Value}(h:(intKind prog w).is k v=true):∃t,v= .int k t:=Value.isInt_shape h
theorem key_of{k:Int}{e:Int×Value}(h:(intKind prog w).is k e.2=true):keyOf e=k:=by
 obtain⟨t,ht⟩:=int_of h;unfold keyOf;rw[ht]
theorem Iy{es:List (Int×Value)}(h:ElemsOf (intKind prog w) es){e:Int×Value}(he:e∈es):(intKind prog w).is (keyOf e) e.2=true:=by
 obtain⟨⟨k,hk,_⟩,_⟩:=h e he;rw[key_of hk];exact hk
theorem Js:∀ {es:List (Int×Value)},ElemsOf (intKind prog w) es->IntsAre (es.map (·.2)) (es.map keyOf)
 |[],_=> .nil
 |e::r,h=>by
  obtain⟨t,ht⟩:=int_of (Iy h (.head _));rw[List.map_cons,List.map_cons,ht];exact .cons _ _ (Js h.tail)
def SO(prog:Program)(w:World)(l:Bool)(es:Array (Int×Value))(t:SetTable)(ms:List Int):Prop:=
 ElemsOf (intKind prog w) es.toList/\(es.toList.map keyOf).Nodup/\(∀k,k∈es.toList.map keyOf↔k∈ms)/\es.size<=ms.length/\t.fits es.size=true/\Tb l t
def SI(prog:Program)(w:World)(l:Bool)(h:Heap)(a:Addr)(ms:List Int):Prop:=
 ∃o es ep t,h.get? a=some o/\o.ExactSet/\o.data= .set es ep t/\SO prog w l es t ms
theorem SI.at{l:Bool}{h h':Heap}{a:Addr}{ms:List Int}(i:SI prog w l h a ms)(k:∀o,h.get? a=some o->h'.get? a=some o):SI prog w l h' a ms:=
 let⟨o,es,ep,t,ho,r⟩:=i;⟨o,es,ep,t,k o ho,r⟩
theorem SO.perm{l:Bool}{es es':Array (Int×Value)}{t t':SetTable}{ms:List Int}(i:SO prog w l es t ms)(p:List.Perm es'.toList es.toList)(f:t'.fits es'.size=true)(b:Tb l t'):SO prog w l es' t' ms:=by
 obtain⟨a1,a2,a3,a4,a5,a6⟩:=i;have hs:es'.size=es.size:=by rw[<-Array.length_toList,p.length_eq,Array.length_toList]
 exact⟨a1.perm p,(p.map keyOf).nodup_iff.mpr a2,λk=>((p.map keyOf).mem_iff).trans (a3 k),by lia,f,b⟩
theorem stored{l:Bool}{h:Heap}{a:Addr}{o:Obj}{es es':Array (Int×Value)}{ep:Nat}{t t':SetTable}{ms:List Int}(ho:h.get? a=some o)(hex:o.ExactSet)(hd:o.data= .set es ep t)(i:SO prog w l es' t' ms):
 (h.update a (Obj.putSet es' t')).get? a=some {o with data:= .set es' (ep+1) t'}/\SI prog w l (h.update a (Obj.putSet es' t')) a ms:=by
 have g:=Heap.get?_update_self (Obj.putSet es' t') ho (by rw[putSet_of es' t' hd];rfl);rw[putSet_of es' t' hd]at g;exact⟨g,_,es',ep+1,t',g,hex,rfl,i⟩
theorem JJ{gw:Bool->Sem Unit}(hg:∀ (b:Bool) (s₁:Shared) (Q':Unit->Shared->Prop),Q' () s₁->wpAny (model prog w) A (gw b) Q' E s₁){l:Bool}{a:Addr}{o:Obj}{es es1:Array (Int×Value)}{ep:Nat}{t t2:SetTable}{ms:List Int}(ho:s.heap.get? a=some o)(hex:o.ExactSet)(hd:o.data= .set es ep t)
 (i:SO prog w l es1 t2 ms) (hb:ms.length<scanBound) {dm:Bool} {R:Option Bool->Shared->Prop} (q:∀h',Heap.SameBut a s.heap h'->SI prog w l h' a ms->R (some true) {s with heap:=h'}):
 wpAny (model prog w) A (do
  storeSet a es1 t2
  if(!dm&&t2.tooFull)=true then do
   gw (relayAll t2 es1 (SetTable.grown es1.size)).2.2
   storeSet a (relayAll t2 es1 (SetTable.grown es1.size)).1 (relayAll t2 es1 (SetTable.grown es1.size)).2.1
   pure (some true)
  else pure (some true)) R E s:=by
 have hz1:es1.size<=sizeLine:=fits_of_scanBound (Nat.lt_of_le_of_lt i.2.2.2.1 hb);refine wpAny_bind (wpAny_storeSet_of ho hd ?_ hz1);obtain⟨g1,i1⟩:=stored ho hex hd i;have sb:=Heap.SameBut.update s.heap a (Obj.putSet es1 t2)
 split
 ·have p:=relayAll_perm t2 es1 (SetTable.grown es1.size);have f:=relayAll_fits t2 es1 (SetTable.grown es1.size);have b:=M2 i.2.2.2.2.2 es1 (SetTable.grown es1.size);generalize relayAll t2 es1 (SetTable.grown es1.size)=Rl at p f b⊢;obtain⟨es2,t3,gv⟩:=Rl
  dsimp only at p f b⊢
  have i2:=i.perm p f b;refine wpAny_bind (hg _ _ _ (wpAny_bind (wpAny_storeSet_of g1 rfl ?_ (fits_of_scanBound (Nat.lt_of_le_of_lt i2.2.2.2.1 hb)))));exact wpAny_pure (q _ (sb.trans (Heap.SameBut.update _ a _)) (stored g1 hex rfl i2).2)
 ·exact wpAny_pure (q _ sb i1)
theorem Ng{l:Bool}{a:Addr}{ms:List Int}{k:Int}{tk:Tok}{Q:Bool->Shared->Prop}(i:SI prog w l s.heap a ms)(hb:ms.length+1<scanBound)
 (q:∀b h',Heap.SameBut a s.heap h'->SI prog w l h' a (ms++[k])->Q b {s with heap:=h'}):wpAny (model prog w) A (setAddHashed a (.int k tk) (hashInt k)) Q E s:=by
 obtain⟨o,es,ep,t,ho,hex,hd,hel,hnd,hmem,hsz,hf,htb⟩:=i;have hkey:(intKind prog w).is k (.int k tk)=true:=intKind_is _ _ _ _;have hes:es.size<scanBound:=by lia
 unfold setAddHashed setAddHashedIn;refine wpAny_holding (wpAny_bind (wpAny_setState_of ho hd hf ?_))
 dsimp only
 rw[byScan_of (knd:=intKind prog w) rfl hes hel];simp only[↓reduceIte];unfold setAddByScan;refine wpAny_bind (wpAny_bind (wpAny_rule (wpAny_bind (wpAny_setScan_of (knd:=intKind prog w) hkey ho hd hf hel ?_))))
 cases hr:List.findIdx? (λe=>(intKind prog w).is k e.2) es.toList with
 |some j=>
  dsimp only
  obtain⟨hj,hpj,_⟩:=List.findIdx?_eq_some_iff_getElem.mp hr;have hk:k∈ms:=(hmem k).mp (by rw[<-key_of hpj];exact List.mem_map_of_mem (List.getElem_mem hj));refine wpAny_pure (wpAny_pure ?_);have es0:s={s with heap:=s.heap}:=by cases s;rfl
  rw[es0];refine q _ s.heap (Heap.SameBut.refl a s.heap) ⟨o,es,ep,t,ho,hex,hd,hel,hnd,λk'=>(hmem k').trans ⟨λz=>List.mem_append_left _ z,λz=>?_⟩,by rw[List.length_append];lia,hf,htb⟩;rcases List.mem_append.mp z with z|z
  ·exact z
  ·rw[List.mem_singleton.mp z];exact hk
 |none=>
  dsimp only
  have hk:k∉es.toList.map keyOf:=λz=>by
   obtain⟨e,he,hek⟩:=List.mem_map.mp z;have z1:=List.findIdx?_eq_none_iff.mp hr e he;rw[<-hek,Iy hel he]at z1
   cases z1
  have p:=layNew_perm t es (hashInt k) (.int k tk);have f:=layNew_fits t es (hashInt k) (.int k tk);have b:=Om htb es (hashInt k) (.int k tk);show wpAny _ _ (match layNew t es (hashInt k) (.int k tk)with|(es,t,wasDummy,gave)=>_) _ _ _;generalize layNew t es (hashInt k) (.int k tk)=Ln at p f b⊢;obtain⟨es1,t1,dm,gv⟩:=Ln
  dsimp only at p f b⊢
  rw[Array.toList_push]at p;have hz:es1.size=es.size+1:=by rw[<-Array.length_toList,p.length_eq,List.length_append,Array.length_toList];rfl
  have kk:keyOf (hashInt k, .int k tk)=k:=rfl;have i1:SO prog w l es1 t1 (ms++[k]):=by
   refine⟨(hel.push hkey rfl).perm p,(p.map keyOf).nodup_iff.mpr ?_,λk'=>((p.map keyOf).mem_iff).trans ?_,by rw[hz,List.length_append];simp;lia,f,b⟩
   ·rw[List.map_append,List.map_cons,List.map_nil,kk];exact List.nodup_append.mpr ⟨hnd,by simp,λx hx y hy=>by rw[List.mem_singleton.mp hy];exact λe=>hk (e▸hx)⟩
   ·rw[List.map_append,List.map_cons,List.map_nil,kk,List.mem_append,List.mem_append,hmem k']
  have gwh:∀ (b:Bool) {s₁:Shared} {Q':Unit->Shared->Prop},Q' () s₁->wpAny (model prog w) A (match b with|true=>rule "set.scan.the-table-gave-way"|false=>pure ()) Q' E s₁:=
   λb s₁ Q' hq=>by cases b<;>first|exact wpAny_pure hq|exact wpAny_rule hq
  refine wpAny_bind (gwh _ ?_);have hb':(ms++[k]).length<scanBound:=by rw[List.length_append];simpa using hb
  split
  ·refine wpAny_bind ?_;rw[hashByValue_scannable 8 (x:= .int k tk) rfl];refine wpAny_pure ?_;refine JJ ?_ ho hex hd (t2:=if plainKind (.int k tk)=true then t1 else{t1 with plain:=false}) (show SO prog w l es1 _ (ms++[k])from i1) hb' ?_
   ·intro b s₁ Q' hq;cases b<;>first|exact wpAny_pure hq|exact wpAny_rule hq
   ·intro h' sb z;dsimp only;exact wpAny_pure (q _ h' sb z)
  ·refine wpAny_bind (wpAny_pure ?_);simp only[↓reduceIte];refine JJ ?_ ho hex hd i1 hb' ?_
   ·intro b s₁ Q' hq;cases b<;>first|exact wpAny_pure hq|exact wpAny_rule hq
   ·intro h' sb z;dsimp only;exact wpAny_pure (q _ h' sb z)
theorem RG{R:Result->Shared->Prop}{I:Addr}{fp wr:List Addr}{G:Array GenState->Array GenState->Prop}{P:Nat->Value->Prop}{St:Nat->Shared->Prop}{l:Bool}(ns:List Int)(W:WalksS prog w A.in1 I fp wr G ns.length P St)(S:Addr)(hS:S∉fp)
 (hv:∀i v,i<ns.length->P i v->∃t,v= .int (ns.getD i 0) t) (hb:ns.length+1<scanBound):∀ (k i:Nat) (s:Shared),ns.length-i=k->i<=ns.length->St i s->SI prog w l s.heap S (ns.take i)->
   (∀s',Moved (S::wr) G s s'->SI prog w l s'.heap S ns->R (.ok (.ret .none)) s')->codeAny (model prog w) A (.builtin "set.update.loop" ⟨[.ref S, .ref I],[]⟩) R s:=by
 have hSw:S∉wr:=λz=>hS (W.sub _ z);have up:∀b∈wr,b∈S::wr:=λb z=> .tail _ z;intro k
 induction k with
 |zero=>
  intro i s hk hi st hI q;have e:i=ns.length:=by lia
  subst e;refine codeAny_builtin F.entry_set_update_loop ?_;rw[Around.under_plainId F.plain_set_update_loop _];show wpAny _ A.in1 (pyNext (.ref I)>>=_) _ _ s;refine wpAny_bind (W.done s _ _ st λs' mv=>?_);show wpAny _ A.in1 (ret Value.none) _ _ s';refine wpAny_pure (q s' (mv.mono up) ?_);rw[List.take_length]at hI;exact hI.at λo ho=>mv.heap S o hSw ho
 |succ k ih=>
  intro i s hk hi st hI q;have lt:i<ns.length:=by lia
  refine codeAny_builtin F.entry_set_update_loop ?_;rw[Around.under_plainId F.plain_set_update_loop _];show wpAny _ A.in1 (pyNext (.ref I)>>=_) _ _ s;refine wpAny_bind (W.item i s _ _ lt st λv s' hP st' mv=>?_);obtain⟨t,rfl⟩:=hv i v lt hP;have hI':=hI.at (h':=s'.heap) λo ho=>mv.heap S o hSw ho;have lt':(ns.take i).length+1<scanBound:=by rw[List.length_take];lia
  have en:ns.take i++[ns.getD i 0]=ns.take (i+1):=by
   rw[List.take_add_one,List.getElem?_eq_getElem lt,List.getD_eq_getElem?_getD,List.getElem?_eq_getElem lt];rfl
  show wpAny _ A.in1 (holding [Value.int (ns.getD i 0) t] (setAdd S (.int (ns.getD i 0) t))>>=_) _ _ s';refine wpAny_bind (wpAny_holding ?_);unfold setAdd;refine wpAny_holding (wpAny_bind ((intKind prog w).pyHash (k:=ns.getD i 0) (intKind_is _ _ _ _) ?_));refine Ng (s:={s' with toks:=s'.toks+1}) hI' lt' λb h' sb hI2=>?_;rw[en]at hI2;refine wpAny_pure ⟨plainId_quiet F.plain_set_update_loop _,ih (i+1) _ (by lia) lt (W.frame _ s' _ _ st' (Nat.le_succ _) λc hc o e=>?_) hI2 λs2 mv2 hI3=>?_⟩
  ·rw[sb.2 c (λz:c=S=>hS (z▸hc))];exact e
  ·refine q s2 (Moved.trans W.gtrans ((mv.mono up).then_heap (Nat.le_succ _) λc o hc e=>?_) mv2) hI3;rw[sb.2 c (λz:c=S=>hc (z▸List.mem_cons_self))];exact e
def byT(w:World):Bool:=w.params.followText "set-order"
theorem Re(a:Value){Q:Value->Shared->Prop}(q:Q (.ref s.heap.objs.size) {s with heap:=s.heap.push {cls:= .type "set",dict:=none,data:= .set #[] 0 (.fresh 0 0 (!byT w))}}):
 codeAny (model prog w) A (.call (.builtin "set.__new__") ⟨[.type "set",a],[]⟩) (wants Q E) s:=by
 refine codeAny_of_tree ?_;show wpAny _ A.in1 (do checkBuiltinCall "set.__new__" ⟨[.type "set",a],[]⟩;again (.builtin "set.__new__" ⟨[.type "set",a],[]⟩)) _ _ s;refine wpAny_bind (wpAny_of_eq (F.newCall_set_1 a) (wpAny_pure ⟨plainId_quiet F.plain_set_new _,codeAny_builtin F.entry_set_new ?_⟩));rw[Around.under_plainId F.plain_set_new _];unfold Builtin.«set.__new__» Builtin.Frozenset.newClass;have hsub:=sub_set_self;obtain⟨hp,g,d,tk,os⟩:=s
 dsimp only
 wp_walk
 refine wpAny_askSetting (wpAny_pure ?_)
 dsimp only
 simp only[newObj];refine wpAny_bind (wpAny_alloc (wpAny_pure ?_));exact wpAny_pure q
theorem UN{h:Heap}{a:Addr}{l:Bool}{o:Obj}(e:h.get? a=some o)(eo:o={cls:= .type "set",dict:=none,data:= .set #[] 0 (.fresh 0 0 l)}):SI prog w l h a []:=by
 subst eo;exact⟨_,#[],0, .fresh 0 0 l,e,⟨rfl,rfl,rfl⟩,rfl,λe he=>by simp at he,by simp,by simp,Nat.le_refl _,rfl,List.Pairwise.nil,rfl⟩
theorem call_set{l:Addr}{items:Array Value}{ns:List Int}{Q:Value->Shared->Prop}(hh:A.handled=none)(hl:s.heap.IsList l items)(hi:IntsAre items.toList ns)(hb:ns.length+1<scanBound)
 (q:∀ (h':Heap) (tk:Nat),SI prog w (!byT w) h' s.heap.objs.size ns->(∀b o,b<s.heap.objs.size->s.heap.get? b=some o->h'.get? b=some o)->s.heap.objs.size<h'.objs.size->Q (.ref s.heap.objs.size) {s with heap:=h',toks:=tk}):
 wpAny (model prog w) A (call (.type "set") [.ref l]) Q E s:=by
 obtain⟨c,tl,hmro⟩:=F.called_set.mro;have hmade:=F.called_set.made;have hsub:=F.called_set.sub;have hlen:items.size=ns.length:=by rw[<-Array.length_toList,IntsAre.length hi]
 refine wpAny_call (codeAny_of_tree ?_);show wpAny _ _ (callAny (.type "set") _) _ _ _;refine wpAny_pure ⟨Code.quiet_builtin _ (by decide +kernel),codeAny_builtin F.entry_type_call ?_⟩;rw[Around.under_plain (weight_type_call_type "set" [.ref l] []) rfl];have h1:=F.called_set.notType;have h2:=F.called_set.canCreate;have hct:=F.typeCall_set_1 (.ref l)
 repeat(any_goals(first|assumption|wp_step))
 refine codeAny_mono (Re (.ref l) (E:=E) (Q:=λobj s₁=>obj= .ref s.heap.objs.size/\s₁={s with heap:=s.heap.push {cls:= .type "set",dict:=none,data:= .set #[] 0 (.fresh 0 0 (!byT w))}}) ⟨rfl,rfl⟩) λr s₁ hr=>?_
 cases r with
 |error e=>exact hr
 |ok fl=>
  cases fl with
  |ret obj=>
   obtain⟨rfl,rfl⟩:=hr;have hS:(s.heap.push ({cls:= .type "set",dict:=none,data:= .set #[] 0 (.fresh 0 0 (!byT w))}:Obj)).get? s.heap.objs.size=some ({cls:= .type "set",dict:=none,data:= .set #[] 0 (.fresh 0 0 (!byT w))}:Obj):=Heap.get?_push_size _ rfl;have hT:Shared.TypeIs {s with heap:=s.heap.push ({cls:= .type "set",dict:=none,data:= .set #[] 0 (.fresh 0 0 (!byT w))}:Obj)} (.ref s.heap.objs.size) "set":=⟨_,hS,rfl⟩;have hli:=F.called_set.init.lookup;have hbi:=F.called_set.init.bind (.ref s.heap.objs.size)
   repeat(any_goals(first|assumption|wp_step))
   refine codeAny_mono (codeAny_call_builtin (R:=wants (λr s₂=>r= .none/\∃h' tk,s₂={s with heap:=h',toks:=tk}/\SI prog w (!byT w) h' s.heap.objs.size ns/\(∀b o,b<s.heap.objs.size->s.heap.get? b=some o->h'.get? b=some o)) E) F.called_set.init.plain F.entry_set_init (check_set_init_1 hT ?_)) λr₂ s₂ hr₂=>?_
   ·obtain⟨ol,hol,hcl,nl,hdl⟩:=hl;obtain⟨ocls,odict,odata,oslots⟩:=ol;simp only at hcl hdl;subst hcl;subst hdl;have hol':(s.heap.push ({cls:= .type "set",dict:=none,data:= .set #[] 0 (.fresh 0 0 (!byT w))}:Obj)).get? l=some {cls:= .type "list",dict:=odict,data:= .seq items nl,slots:=oslots}:=Heap.get?_push_of_some _ hol;have hsls:=F.sub_list_set;have hslf:=F.sub_list_frozenset;have hne:(Value.type "list"==Value.type "dict")=false:=by decide
    have hl1:(s.heap.push ({cls:= .type "set",dict:=none,data:= .set #[] 0 (.fresh 0 0 (!byT w))}:Obj)).IsList l items:=⟨_,hol',rfl,nl,rfl⟩;unfold Builtin.«set.__init__» noKeywords Builtin.Frozenset.updateFrom;generalize hPI:pyIter=PI
    wp_walk
    subst hPI;refine wpAny_pyIter_list hl1 ?_;refine wpAny_bind (wpAny_runValue ?_);have hlS:l<s.heap.objs.size:=Heap.lt_size hol;have hsz:(s.heap.push ({cls:= .type "set",dict:=none,data:= .set #[] 0 (.fresh 0 0 (!byT w))}:Obj)).objs.size=s.heap.objs.size+1:=Heap.size_push ..;have hh3:A.in1.in1.in1.handled=none:=by simp[hh]
    have hneI:l≠(s.heap.push ({cls:= .type "set",dict:=none,data:= .set #[] 0 (.fresh 0 0 (!byT w))}:Obj)).objs.size:=by rw[hsz];exact Nat.ne_of_lt (Nat.lt_succ_of_lt hlS)
    have hSf:s.heap.objs.size∉[(s.heap.push ({cls:= .type "set",dict:=none,data:= .set #[] 0 (.fresh 0 0 (!byT w))}:Obj)).objs.size,l]:=by
     rw[hsz];simp only[List.mem_cons,List.not_mem_nil,or_false,not_or];exact⟨Nat.ne_of_lt (Nat.lt_succ_self _),Nat.ne_of_gt hlS⟩
    have W:=(Walks.list (prog:=prog) (w:=w) hh3 _ l hneI items).toS;rw[hlen]at W;refine RG (l:= !byT w) ns W s.heap.objs.size hSf (λi v _ z=>IntsAre.int_at hi i v (by rw[Array.getElem?_toList];exact z)) hb (ns.length-0) 0 _ rfl (Nat.zero_le _) ⟨⟨_,Heap.get?_push_size _ rfl,rfl,rfl⟩,(hl1.push _)⟩ (UN (o:=({cls:= .type "set",dict:=none,data:= .set #[] 0 (.fresh 0 0 (!byT w))}:Obj)) (Heap.get?_push_of_some _ hS) rfl) ?_;intro s' mv hI';obtain⟨h',g',d',tk',os'⟩:=s';have eg:g'=s.gens:=mv.gens;have ed:d'=s.drawn:=mv.drawn;have eo:os'=s.os:=mv.os;subst eg;subst ed;subst eo;show wpAny _ _ _ _ _ _;refine wpAny_pure ?_;show wpAny _ _ (ret Value.none) _ _ _;refine wpAny_pure ⟨rfl,h',tk',rfl,hI',λb o hlt e=>?_⟩;refine mv.heap b o ?_ (Heap.get?_push_of_some _ (Heap.get?_push_of_some _ e));rw[hsz];simp only[List.mem_cons,List.not_mem_nil,or_false,not_or];exact⟨Nat.ne_of_lt hlt,Nat.ne_of_lt (Nat.lt_succ_of_lt hlt)⟩
   ·cases r₂ with
    |error e=>exact hr₂
    |ok fl₂=>
     cases fl₂ with
     |ret r=>
      obtain⟨rfl,h',tk,rfl,hI',hk'⟩:=hr₂
      repeat(any_goals(first|assumption|wp_step))
      refine q _ _ hI' hk' ?_;obtain⟨o,es,ep,t,ho,_⟩:=hI';exact Heap.lt_size ho
     |_=>exact hr₂.elim
  |_=>exact hr.elim
end
theorem TZ:Manifest.owners.lookup (String.ofList ['r','o','t','a','r','e','t','i','_','t','e','s'].reverse)=some Manifest.sig_set_iterator:=by kernel_rfl
theorem si_next:Slot "set_iterator" "__next__" "set_iterator.__next__":= .of (owner:="set_iterator") (n:="__next__") (by rw[typeLookup_type,builtinLookup_eq_fast];kernel_rfl) (by decide +kernel) (by decide +kernel) (by decide +kernel) (by first|exact .inl (by decide +kernel)|exact .inr (by decide +kernel)) (by rw[isSubtype_type];kernel_rfl)
theorem Ia:entryFor table "set_iterator.__next__"=some Builtin.«set_iterator.__next__»:=entryFor_of_tree (by kernel_rfl)
theorem JY(a:Value):argsOk "set_iterator.__next__" ⟨[a],[]⟩:=by unfold argsOk;rw[signature?_of (id:="set_iterator.__next__") (n:=['_','_','t','x','e','n','_','_']) (o:=['r','o','t','a','r','e','t','i','_','t','e','s']) (by kernel_rfl) TZ];kernel_rfl
theorem MS:entryFor table "set.__iter__"=some Builtin.«frozenset.__iter__»:=entryFor_alias (id':="frozenset.__iter__") (by kernel_rfl) rfl (by decide +kernel) (by kernel_rfl)
section
variable{prog:Program}{w:World}{A:Around}{E:Value->Shared->Prop}{s:Shared}
structure It (h:Heap) (I:Addr) (f:Value) (i:Nat) (S:Addr) (n ep:Nat):Prop where
 at_:∃o,h.get? I=some o/\o.cls= .type "set_iterator"/\o.data= .fields #[f, .int i 0, .ref S, .int n 0, .int ep 0]
theorem It.ty{I:Addr}{f:Value}{i:Nat}{S:Addr}{n ep:Nat}(x:It s.heap I f i S n ep):s.TypeIs (.ref I) "set_iterator":=let⟨o,ho,hc,_⟩:=x.at_;⟨o,ho,hc⟩
theorem It.keep{h h':Heap}{I:Addr}{f:Value}{i:Nat}{S:Addr}{n ep:Nat}(x:It h I f i S n ep)(k:∀o,h.get? I=some o->h'.get? I=some o):It h' I f i S n ep:=let⟨o,ho,r⟩:=x.at_;⟨o,k o ho,r⟩
def Seto(h:Heap)(S:Addr)(es:Array (Int×Value))(ep:Nat)(t:SetTable):Prop:=∃o,h.get? S=some o/\o.ExactSet/\o.data= .set es ep t/\t.fits es.size=true
theorem Seto.keep{h h':Heap}{S:Addr}{es:Array (Int×Value)}{ep:Nat}{t:SetTable}(x:Seto h S es ep t)(k:∀o,h.get? S=some o->h'.get? S=some o):Seto h' S es ep t:=let⟨o,ho,r⟩:=x;⟨o,k o ho,r⟩
theorem UL{M:Model}{src:Source}{n:Nat}{Q:Nat->Shared->Prop}(hn:n≠0)(q:∀i d,i<n->Q i {s with drawn:=d}):wpAny M A (choose src n) Q E s:=λΓ p hΓ=>by
 show Sem.wp M Γ (.choose src n .pure) _ _ p s;rw[Sem.wp_choose];exact⟨hn,q _ _ (Nat.mod_lt _ (Nat.pos_of_ne_zero hn))⟩
theorem E1{α:Type}:∀ (l:List α) (i:Nat) (hi:i<l.length),(l[i]::l.eraseIdx i).Perm l
 |x::l,0,_=> .refl _
 |x::l,i+1,hi=>by
  have hi':i<l.length:=by simpa using hi
  have ih:=E1 l i hi';show List.Perm (l[i]::x::l.eraseIdx i) (x::l);exact(List.Perm.swap _ _ _).trans (List.Perm.cons x ih)
theorem HE{M:Model}{α:Type}:∀ (n:Nat) (xs:List α) (s:Shared) (Q:List α->Shared->Prop),xs.length=n->(∀ys d,ys.Perm xs->Q ys {s with drawn:=d})->wpAny M A (drawOrder n xs) Q E s
 |0,xs,s,Q,hn,q=>by
  have e:xs=[]:=List.eq_nil_of_length_eq_zero hn;subst e;unfold drawOrder;exact wpAny_pure (q [] s.drawn .nil)
 |n+1,[],s,Q,hn,q=>by cases hn
 |n+1,x::xs,s,Q,hn,q=>by
  unfold drawOrder;refine wpAny_bind (UL (by simp) λi d hi=>?_);rw[List.getElem?_eq_getElem hi]
  dsimp only
  refine wpAny_bind (HE n _ _ _ (by rw[List.length_eraseIdx_of_lt hi];simp only[List.length_cons]at hn⊢;lia) λys d' hp=>wpAny_pure (q _ d' ?_));exact(List.Perm.cons _ hp).trans (E1 _ _ hi)
theorem Jg{α:Type}(next:Nat->Nat):∀ (n k:Nat) (l:List α) (out:Array α),l.length=n->(pickOrder.go next n k l out).toList.Perm (out.toList++l)
 |0,k,l,out,hn=>by
  have e:l=[]:=List.eq_nil_of_length_eq_zero hn;subst e;unfold pickOrder.go;simp
 |n+1,k,l,out,hn=>by
  unfold pickOrder.go;have hi:next k%l.length<l.length:=Nat.mod_lt _ (by lia);rw[List.getElem?_eq_getElem hi]
  dsimp only
  refine(Jg next n (k+1) _ _ (by rw[List.length_eraseIdx_of_lt hi];lia)).trans ?_;rw[Array.toList_push,List.append_assoc];exact List.Perm.append_left _ (E1 _ _ hi)
theorem OM{α:Type}(next:Nat->Nat)(xs:Array α):(pickOrder next xs).toList.Perm xs.toList:=by
 have:=Jg next xs.size 0 xs.toList #[] (by simp);simpa[pickOrder]using this
def CK(t:SetTable)(i:Nat):Nat:=if i=0 then 0 else t.place.getD (i-1) 0+1
theorem NW{t:SetTable}(r:Rise t.place){i:Nat}(hi:i<=t.place.size):SetTable.below t.place (CK t i)=i:=by
 unfold CK
 cases i with
 |zero=>exact N8 r
 |succ j=>
  rw[if_neg (by lia)];have e:t.place[j]? =some (t.place.getD j 0):=by simp[Array.getD,show j<t.place.size by lia]
  exact N9 r e
theorem O1{t:SetTable}{n:Nat}(hf:t.fits n=true):t.place.size=n:=by
 simp only[SetTable.fits,Bool.and_eq_true,beq_iff_eq]at hf;exact hf.1
theorem HB{S:Addr}{es:Array (Int×Value)}{ep i:Nat}{t:SetTable}{Q:Option (Value×Nat)->Shared->Prop}(hb:byT w=false)(hp:t.plain=true\/es.size<=1)(hl:t.led=true)(r:Rise t.place)(so:Seto s.heap S es ep t)(hi:i<=es.size)
 (q:Q ((es[i]?).map λe=>(e.2,CK t (i+1))) s):wpAny (model prog w) A (setNext S (CK t i) i ep) Q E s:=by
 obtain⟨os,hos,hex,hds,hfs⟩:=so;have hsz:=O1 hfs;unfold setNext;refine wpAny_bind (wpAny_setState_of hos hds hfs ?_)
 dsimp only
 unfold setsByText;refine wpAny_bind (wpAny_bind (wpAny_askSetting (wpAny_pure ?_)));rw[if_neg (by show¬ (byT w=true);rw[hb];decide)]
 split
 ·rename_i z
  have z':(!t.plain&&decide (es.size>1))=true:=z;rcases hp with h|h
  ·rw[h]at z';cases z'
  ·simp at z';lia
 ·refine wpAny_bind ?_;show wpAny _ _ (if(!t.led&& !es.isEmpty)=true then _ else pure ()) _ _ _;rw[if_neg (by rw[hl];simp)];refine wpAny_pure ?_;rw[NW r (by lia)]
  by_cases h:i<es.size
  ·rw[Array.getElem?_eq_getElem h,Array.getElem?_eq_getElem (show i<t.place.size by lia)]at*
   refine wpAny_pure ?_;have e:CK t (i+1)=t.place[i]'(by lia)+1:=by unfold CK;simp[Array.getD,show i<t.place.size by lia]
   rw[e]at q;exact q
  ·rw[Array.getElem?_eq_none (by lia)]at*
   exact wpAny_pure q
theorem Hq{S:Addr}{es:Array (Int×Value)}{ep i k:Nat}{t:SetTable}{Q:Option (Value×Nat)->Shared->Prop}(hb:byT w=true)(so:Seto s.heap S es ep t)
 (q:Q (((pickOrder (w.params.setOrder S ep) es)[i]?).map λe=>(e.2,k)) s):wpAny (model prog w) A (setNext S k i ep) Q E s:=by
 obtain⟨os,hos,hex,hds,hfs⟩:=so;unfold setNext setWalk;refine wpAny_bind (wpAny_setState_of hos hds hfs ?_)
 dsimp only
 unfold setsByText;refine wpAny_bind (wpAny_bind (wpAny_askSetting (wpAny_pure ?_)));rw[if_pos (by show byT w=true;exact hb),if_neg (by simp)];refine wpAny_bind (wpAny_bind (wpAny_setState_of hos hds hfs ?_))
 dsimp only
 refine wpAny_bind (wpAny_bind (wpAny_askSetting (wpAny_pure ?_)));rw[if_pos (by show byT w=true;exact hb)];exact wpAny_bind (wpAny_askSetting (wpAny_pure (wpAny_pure q)))
inductive Way (w:World) (S:Addr) (h:Heap) (es:Array (Int×Value)) (ep:Nat) (t:SetTable):(Nat->Value)->List Value->Prop
 |places (hb:byT w=false) (hp:t.plain=true\/es.size<=1) (hl:t.led=true) (r:Rise t.place):Way w S h es ep t (λi=>rawInt (CK t i:Nat)) (es.toList.map (·.2))
 |text (hb:byT w=true):Way w S h es ep t (λ_=>rawInt (0:Nat)) ((pickOrder (w.params.setOrder S ep) es).toList.map (·.2))
 |draws (T:Addr) (ps:List Nat) (o:Obj) (hT:h.get? T=some o) (hd:∃n,o.data= .seq (ps.map fun(i:Nat)=>rawInt i).toArray n) (hp:ps.Perm (List.range es.size)):Way w S h es ep t (λ_=> .ref T) (ps.map λi=>(es.getD i (0, .none)).2)
theorem Way.perm{w:World}{S:Addr}{h:Heap}{es:Array (Int×Value)}{ep:Nat}{t:SetTable}{f:Nat->Value}{ys:List Value}(x:Way w S h es ep t f ys):ys.Perm (es.toList.map (·.2)):=by
 cases x with
 |places=>exact .refl _
 |text=>exact(OM _ _).map _
 |draws T ps o hT hd hp=>
  refine(hp.map _).trans (List.Perm.of_eq ?_);refine List.ext_getElem? λi=>?_;have e0:es.toList[i]? =es[i]? :=by simp
  rw[List.getElem?_map,List.getElem?_map,e0]
  by_cases hi:i<es.size
  ·rw[List.getElem?_range hi,Array.getElem?_eq_getElem hi];simp[Array.getD,hi]
  ·rw[Array.getElem?_eq_none (by lia),List.getElem?_eq_none (by simp;lia)];rfl
theorem Oc{I S:Addr}{es:Array (Int×Value)}{ep i:Nat}{t:SetTable}{f:Nat->Value}{ys:List Value}{y:Value}{Q:Option Value->Shared->Prop}(x:Way w S s.heap es ep t f ys)(so:Seto s.heap S es ep t)(it:It s.heap I (f i) i S es.size ep)(hy:ys[i]? =some y)(hf:t.fits es.size=true)
 (q:∀h',It h' I (f (i+1)) (i+1) S es.size ep->Heap.SameBut I s.heap h'->Q (some y) {s with heap:=h'}):wpAny (model prog w) A (pyNext (.ref I)) Q E s:=by
 obtain⟨o,ho,hc,hd⟩:=id it.at_;obtain⟨os,hos,hex,hds,hfs⟩:=so;unfold pyNext;refine wpAny_bind (wpAny_attempt (wpAny_callSpecial?_slot (name:=Str.ofString "__next__") it.ty si_next (wpAny_call_entry si_next it.ty Ia ?_ (JY _))));unfold Builtin.«set_iterator.__next__»;refine wpAny_bind (wpAny_pure ?_);refine wpAny_bind (wpAny_fieldsOf ho hd ?_)
 dsimp only
 refine wpAny_bind (wpAny_setEntries_of hos hds hfs ?_);rw[if_neg (by simp)];have two:∀ (k:Nat),f (i+1)=rawInt k->wpAny (model prog w) A.in1 (do setField (Value.ref I) 0 (rawInt k);setField (Value.ref I) 1 (rawInt (i+1));ret y)
  (λfin s'=>∃v,fin=Fin.done (Flow.ret v)/\wpAny (model prog w) A (pure (some v)) Q E s') (λe s'=>wpAny (model prog w) A (do let c<-isInstance e (Value.type "StopIteration");if c=true then pure none else throw e) Q E s') s:=by
  intro k hk;refine wpAny_bind (wpAny_setField ho hd (by simp) ?_);have hd1:(Obj.mapFields (·.setIfInBounds 0 (rawInt k)) o).data= .fields #[rawInt k, .int i 0, .ref S, .int es.size 0, .int ep 0]:=by rw[Obj.data_mapFields hd];simp
  have ho1:=Heap.get?_update_self (Obj.mapFields (·.setIfInBounds 0 (rawInt k))) ho (Obj.isFreed_of_fields hd1);refine wpAny_bind (wpAny_setField ho1 hd1 (by simp) (wpAny_pure ⟨y,rfl,wpAny_pure (q _ ⟨_,Heap.get?_update_self _ ho1 (Obj.isFreed_of_fields (Obj.data_mapFields hd1 _)),?_,?_⟩ ((Heap.SameBut.update ..).trans (Heap.SameBut.update ..)))⟩))
  ·rw[Obj.cls_mapFields,Obj.cls_mapFields];exact hc
  ·rw[Obj.data_mapFields hd1,hk];simp[rawInt]
 cases x with
 |places hb hp hl r=>
  have hi:i<es.size:=by
   rcases Nat.lt_or_ge i es.size with h|h
   ·exact h
   ·rw[List.getElem?_eq_none (by simpa using h)]at hy;cases hy
  show wpAny _ _ (setNext S (CK t i:Int).toNat (i:Int).toNat (ep:Int).toNat>>=_) _ _ _;refine wpAny_bind (HB hb hp hl r ⟨os,hos,hex,hds,hfs⟩ (Nat.le_of_lt hi) ?_);rw[List.getElem?_map,Array.getElem?_toList,Array.getElem?_eq_getElem hi]at hy;rw[Array.getElem?_eq_getElem hi];injection hy with hy
  subst hy;exact two _ rfl
 |text hb=>
  show wpAny _ _ (setNext S 0 i ep>>=_) _ _ _;refine wpAny_bind (Hq hb ⟨os,hos,hex,hds,hfs⟩ ?_);rw[List.getElem?_map,Array.getElem?_toList]at hy
  cases hz:(pickOrder (w.params.setOrder S ep) es)[i]? with
  |none=>rw[hz]at hy;cases hy
  |some e=>
   rw[hz]at hy;injection hy with hy
   subst hy;exact two _ rfl
 |draws T ps oT hT hdT hp=>
  obtain⟨nT,hdT⟩:=hdT;show wpAny _ _ (seqItems? (.ref T)>>=_) _ _ _;refine wpAny_bind (wpAny_seqItems hT hdT ?_);rw[List.getElem?_map]at hy
  cases hz:ps[i]? with
  |none=>rw[hz]at hy;cases hy
  |some j=>
   rw[hz]at hy;injection hy with hy
   have hj:j<es.size:=by
    have:j∈List.range es.size:=hp.mem_iff.mp (List.mem_of_getElem? hz);simpa using this
   have e1:((ps.map fun(i:Nat)=>rawInt i).toArray)[(i:Int).toNat]? =some (.int (j:Int) 0):=by
    simp[hz,rawInt]
   dsimp only
   rw[e1]
   dsimp only
   refine wpAny_bind ?_;unfold setNextDrawn;refine wpAny_bind (wpAny_setState_of hos hds hfs ?_)
   dsimp only
   rw[if_neg (by simp)];have e2:es[(j:Int).toNat]? =some es[j]:=by rw[Int.toNat_natCast];exact Array.getElem?_eq_getElem hj
   rw[e2];refine wpAny_pure (wpAny_bind (wpAny_setField ho hd (by simp) (wpAny_pure ⟨_,rfl,wpAny_pure ?_⟩)));have e3:es[j].2=y:=by rw[<-hy];simp[Array.getD,hj]
   rw[<-e3]at q;exact q _ ⟨_,Heap.get?_update_self _ ho (Obj.isFreed_of_fields (Obj.data_mapFields hd _)),(Obj.cls_mapFields ..).trans hc,by rw[Obj.data_mapFields hd];simp[rawInt]⟩ (Heap.SameBut.update ..)
theorem GL{Q:Option Value->Shared->Prop}{I:Addr}{α:Type}{P:α->Shared->Prop}(hh:A.handled=none){h0:Heap}(k0:∀b o,b≠I->h0.get? b=some o->s.heap.get? b=some o)(q:∀h',(∀b o,b≠I->h0.get? b=some o->h'.get? b=some o)->Q none {s with heap:=h'}):
 wpAny (model prog w) A.in1 (do let x<-newExc (Value.type "StopIteration") [];raiseNew x:Sem α) P (λe s'=>wpAny (model prog w) A (do let c<-isInstance e (Value.type "StopIteration");if c=true then pure none else throw e) Q E s') s:=by
 refine wpAny_bind ?_;simp only[newExc,newTuple];refine wpAny_bind (wpAny_newObj_type ?_ (show(0:Nat)<=sizeLine from Nat.zero_le _));refine wpAny_bind (m:=firstArgMember _ _) (wpAny_of_eq (a:=Value.none) (by simp only[firstArgMember];rfl) (wpAny_newObj_type ?_ (by size_fits)));refine wpAny_raiseNew_none (show A.in1.handled=none from hh) ?_;refine wpAny_bind (wpAny_isInstance (b:=true) (T:="StopIteration") ⟨_,Heap.get?_push_size _ rfl,rfl⟩ isSubtype_stop ?_);exact wpAny_pure (q _ λb o hb e=>Heap.get?_push_of_some _ (Heap.get?_push_of_some _ (k0 b o hb e)))
theorem Od{I S:Addr}{es:Array (Int×Value)}{ep:Nat}{t:SetTable}{f:Nat->Value}{ys:List Value}{Q:Option Value->Shared->Prop}(hh:A.handled=none)(x:Way w S s.heap es ep t f ys)(so:Seto s.heap S es ep t)(it:It s.heap I (f es.size) es.size S es.size ep)
 (q:∀h',(∀b o,b≠I->s.heap.get? b=some o->h'.get? b=some o)->Q none {s with heap:=h'}):wpAny (model prog w) A (pyNext (.ref I)) Q E s:=by
 obtain⟨o,ho,hc,hd⟩:=id it.at_;obtain⟨os,hos,hex,hds,hfs⟩:=so;have hlen:=x.perm.length_eq;unfold pyNext;refine wpAny_bind (wpAny_attempt (wpAny_callSpecial?_slot (name:=Str.ofString "__next__") it.ty si_next (wpAny_call_entry si_next it.ty Ia ?_ (JY _))));unfold Builtin.«set_iterator.__next__»;refine wpAny_bind (wpAny_pure ?_);refine wpAny_bind (wpAny_fieldsOf ho hd ?_)
 dsimp only
 refine wpAny_bind (wpAny_setEntries_of hos hds hfs ?_);rw[if_neg (by simp)];have up:∀ (g:Obj->Obj) (b:Addr) (o:Obj),b≠I->s.heap.get? b=some o->(s.heap.update I g).get? b=some o:=λg b o hb e=>(Heap.get?_update_other _ _ (Ne.symm hb)).trans e
 cases x with
 |places hb hp hl r=>
  show wpAny _ _ (setNext S (CK t es.size) es.size ep>>=_) _ _ _;refine wpAny_bind (HB hb hp hl r ⟨os,hos,hex,hds,hfs⟩ (Nat.le_refl _) ?_);rw[Array.getElem?_eq_none (Nat.le_refl _)];refine wpAny_bind (wpAny_setField ho hd (by simp) ?_);exact GL hh (up _) q
 |text hb=>
  show wpAny _ _ (setNext S 0 es.size ep>>=_) _ _ _;refine wpAny_bind (Hq hb ⟨os,hos,hex,hds,hfs⟩ ?_);rw[Array.getElem?_eq_none (by simp at hlen;lia)];refine wpAny_bind (wpAny_setField ho hd (by simp) ?_);exact GL hh (up _) q
 |draws T ps oT hT hdT hp=>
  obtain⟨nT,hdT⟩:=hdT;show wpAny _ _ (seqItems? (.ref T)>>=_) _ _ _;refine wpAny_bind (wpAny_seqItems hT hdT ?_);have e1:((ps.map fun(i:Nat)=>rawInt i).toArray)[(es.size:Int).toNat]? =none:=by
   have:=hp.length_eq;simp at this;simp;lia
  dsimp only
  rw[e1]
  dsimp only
  refine wpAny_bind (wpAny_setField ho hd (by simp) ?_);have hd1:(Obj.mapFields (·.setIfInBounds 0 (rawInt 0)) o).data= .fields #[rawInt 0, .int es.size 0, .ref S, .int es.size 0, .int ep 0]:=by rw[Obj.data_mapFields hd];simp
  have ho1:=Heap.get?_update_self (Obj.mapFields (·.setIfInBounds 0 (rawInt 0))) ho (Obj.isFreed_of_fields hd1);refine wpAny_bind (wpAny_setField ho1 hd1 (by simp) ?_);exact GL hh (λb o hb e=>(Heap.get?_update_other _ _ (Ne.symm hb)).trans (up _ b o hb e)) q
theorem Way.at{S:Addr}{h h':Heap}{es:Array (Int×Value)}{ep:Nat}{t:SetTable}{f:Nat->Value}{ys:List Value}(x:Way w S h es ep t f ys)(k:∀T,f 0= .ref T->∀o,h.get? T=some o->h'.get? T=some o):Way w S h' es ep t f ys:=by
 cases x with
 |places hb hp hl r=>exact .places hb hp hl r
 |text hb=>exact .text hb
 |draws T ps o hT hd hp=>exact .draws T ps o (k T rfl o hT) hd hp
theorem QF{S:Addr}{es:Array (Int×Value)}{ep:Nat}{t:SetTable}{Q:Value->Shared->Prop}(so:Seto s.heap S es ep t)(tb:Tb (!byT w) t)(hz:es.size<=sizeLine)
 (q:∀ (I:Addr) (h':Heap) d f ys,Way w S h' es ep t f ys->It h' I (f 0) 0 S es.size ep->s.heap.objs.size<=I->(∀T,f 0= .ref T->T≠I/\s.heap.objs.size<=T)->(∀b o,s.heap.get? b=some o->h'.get? b=some o)->Q (.ref I) {s with heap:=h',drawn:=d}):
 wpAny (model prog w) A (pyIter (.ref S)) Q E s:=by
 obtain⟨os,hos,hex,hds,hfs⟩:=id so;have hT:s.TypeIs (.ref S) "set":=⟨os,hos,hex.1⟩;refine wpAny_pyIter_slot hT F.slot_set_iter (wpAny_call_entry F.slot_set_iter hT MS ?_ (F.args_set_iter_1 _));unfold Builtin.«frozenset.__iter__» Builtin.Frozenset.slot0 slotArgs;simp only[List.isEmpty_nil,Bool.not_true,Bool.false_eq_true,↓reduceIte,bind_assoc,List.length_nil,bne_self_eq_false];unfold Builtin.Frozenset.addrOf Builtin.Frozenset.sizeOf setDrawn setsByText;refine wpAny_bind (wpAny_pure ?_)
 try dsimp only
 refine wpAny_bind (wpAny_pure ?_);refine wpAny_bind (wpAny_bind (wpAny_setEntries_of hos hds hfs (wpAny_pure ?_)));refine wpAny_bind (wpAny_bind (wpAny_setState_of hos hds hfs ?_))
 dsimp only
 refine wpAny_bind (wpAny_bind (wpAny_askSetting (wpAny_pure (wpAny_pure ?_))))
 split
 ·refine wpAny_bind (HE es.size (List.range es.size) s _ (by simp) λps d hp=>?_);have hpl:ps.length=es.size:=by rw[hp.length_eq];simp
  refine wpAny_bind (wpAny_newTuple ?_ (by rw[List.length_map,hpl];exact hz));have hos1:=Heap.get?_push_of_some ({cls:= .type "tuple",data:= .seq (ps.map fun(i:Nat)=>rawInt i).toArray}:Obj) hos;refine wpAny_bind (wpAny_setEpoch_of hos1 hds hfs ?_);refine wpAny_bind (wpAny_newObj_type (wpAny_pure ⟨_,rfl,"set_iterator",_,⟨_,Heap.get?_push_size _ rfl,rfl⟩,si_next.lookup,?_⟩));refine q _ _ d (λ_=> .ref s.heap.objs.size) _ (.draws s.heap.objs.size ps _ (Heap.get?_push_of_some _ (Heap.get?_push_size _ rfl)) ⟨_,rfl⟩ hp) ⟨_,Heap.get?_push_size _ rfl,rfl,rfl⟩ ?_ ?_ λb o e=>Heap.get?_push_of_some _ (Heap.get?_push_of_some _ e)
  ·show s.heap.objs.size<=(s.heap.push _).objs.size;rw[Heap.size_push];exact Nat.le_succ _
  ·intro T e;injection e with e
   subst e;refine⟨?_,Nat.le_refl _⟩;show s.heap.objs.size≠(s.heap.push _).objs.size;rw[Heap.size_push];exact Nat.ne_of_lt (Nat.lt_succ_self _)
 ·rename_i nd
  refine wpAny_bind (wpAny_pure ?_);refine wpAny_bind (wpAny_setEpoch_of hos hds hfs ?_);refine wpAny_bind (wpAny_newObj_type (wpAny_pure ⟨_,rfl,"set_iterator",_,⟨_,Heap.get?_push_size _ rfl,rfl⟩,si_next.lookup,?_⟩));have hn:∀ (k:Nat) T,rawInt (k:Int)=Value.ref T->T≠s.heap.objs.size/\s.heap.objs.size<=T:=λk T e=>by cases e
  cases hb:byT w with
  |true=>exact q _ _ s.drawn _ _ (.text hb) ⟨_,Heap.get?_push_size _ rfl,rfl,rfl⟩ (Nat.le_refl _) (hn 0) λb o e=>Heap.get?_push_of_some _ e
  |false=>
   have nd':¬ ((!byT w&&(!t.plain&&decide (es.size>1)))=true):=nd;rw[hb]at nd' tb;exact q _ _ s.drawn _ _ (.places hb (by cases hp:t.plain<;>simp[hp]at nd'⊢;lia) tb.2 tb.1) ⟨_,Heap.get?_push_size _ rfl,rfl,rfl⟩ (Nat.le_refl _) (hn 0) λb o e=>Heap.get?_push_of_some _ e
theorem N2{R:Result->Shared->Prop}{I S L:Addr}{es:Array (Int×Value)}{ep:Nat}{t:SetTable}{f:Nat->Value}{ys:List Value}(hh:A.handled=none)(hLI:L≠I)(hLS:L≠S)(hSI:S≠I)(hT:∀T,f 0= .ref T->T≠I/\T≠L)(hz:es.size<=sizeLine)(res:Value):
 ∀ (k i:Nat) (s:Shared) (acc:Array Value) (c:Nat),es.size-i=k->i<=es.size->Way w S s.heap es ep t f ys->Seto s.heap S es ep t->It s.heap I (f i) i S es.size ep->s.heap.get? L=some {cls:= .type "list",dict:=none,data:= .seq acc c,slots:= #[]}->acc.toList=ys.take i->
 (∀h' acc' c',(∀b o,b≠I->b≠L->s.heap.get? b=some o->h'.get? b=some o)->h'.get? L=some {cls:= .type "list",dict:=none,data:= .seq acc' c',slots:= #[]}->acc'.toList=ys->R (.ok (.ret res)) {s with heap:=h'})->
 codeAny (model prog w) A (.builtin "list.extend.loop" ⟨[.ref L, .ref I,res],[]⟩) R s:=by
 intro k
 induction k with
 |zero=>
  intro i s acc c hk hi x so it hL ha q;have e:i=es.size:=by lia
  subst e;have hlen:ys.length=es.size:=by rw[x.perm.length_eq];simp
  refine codeAny_builtin F.entry_extend_loop ?_;rw[Around.under_plainId F.plain_extend_loop _];show wpAny _ A.in1 (pyNext (.ref I)>>=_) _ _ s;refine wpAny_bind (Od (show A.in1.handled=none from hh) x so it λh' kp=>wpAny_pure (q h' acc c (λb o b1 _ e=>kp b o b1 e) (kp L _ hLI hL) ?_));rw[ha,<-hlen,List.take_length]
 |succ k ih=>
  intro i s acc c hk hi x so it hL ha q;have lt:i<es.size:=by lia
  have hlen:ys.length=es.size:=by rw[x.perm.length_eq];simp
  have hy:ys[i]? =some (ys[i]'(by lia)):=List.getElem?_eq_getElem _;refine codeAny_builtin F.entry_extend_loop ?_;rw[Around.under_plainId F.plain_extend_loop _];show wpAny _ A.in1 (pyNext (.ref I)>>=_) _ _ s;refine wpAny_bind (Oc x so it hy (let⟨_,_,_,_,z⟩:=so;z) λh1 it1 sb=>?_);have kp:∀b o,b≠I->s.heap.get? b=some o->h1.get? b=some o:=λb o hb e=>by rw[sb.2 b hb];exact e
  have hL1:=kp L _ hLI hL;have asz:acc.size=i:=by rw[<-Array.length_toList,ha,List.length_take];lia
  show wpAny _ A.in1 (updateSeq L (·.push (ys[i]'(by lia)))>>=_) _ _ _;refine wpAny_bind (wpAny_updateSeq hL1 rfl (wpAny_pure ⟨plainId_quiet F.plain_extend_loop _,ih (i+1) _ (acc.push (ys[i]'(by lia))) _ (by lia) lt (x.at λT e o eo=>?_) (so.keep λo e=>?_) (it1.keep λo e=>?_) (Heap.get?_update_self _ hL1 rfl) ?_ λh2 acc' c' kp2 hL2 ha2=>?_⟩) (by rw[asz];lia) (by show(acc.push _).size<=sizeLine+1;rw[Array.size_push,asz];lia))
  ·exact(Heap.get?_update_other _ _ (Ne.symm (hT T e).2)).trans (kp T o (hT T e).1 eo)
  ·exact(Heap.get?_update_other _ _ hLS).trans (kp S o hSI e)
  ·exact(Heap.get?_update_other _ _ hLI).trans e
  ·rw[Array.toList_push,ha,List.take_add_one,hy];rfl
  ·exact q h2 acc' c' (λb o b1 b2 e=>kp2 b o b1 b2 ((Heap.get?_update_other _ _ (Ne.symm b2)).trans (kp b o b1 e))) hL2 ha2
end
section
variable{prog:Program}{w:World}{A:Around}{E:Value->Shared->Prop}{s:Shared}
open Builtin.List in
theorem QH{S:Addr}{Q:Bool->Shared->Prop}(hT:s.TypeIs (.ref S) "set")(q:Q false s):wpAny (model prog w) A (listLengthHint (.ref S)) Q E s:=by
 unfold listLengthHint;refine wpAny_bind (wpAny_specialOf hT F.slot_set_len.lookup ?_);generalize hid:("set.__len__":String)=id0
 wp_delta
 rw[show splitId id0=some ("set","__len__")from by subst hid;decide +kernel];subst hid;refine wpAny_bind (wpAny_isInstance (b:=true) hT sub_set_self ?_);rw[if_neg (by decide)];show wpAny _ _ (if _=true then _ else _) _ _ _;rw[if_pos (by decide +kernel)];refine wpAny_bind (wpAny_typeOf hT ?_);exact wpAny_pure q
theorem NV{S:Addr}{es:Array (Int×Value)}{ep:Nat}{t:SetTable}{Q:List Value->Shared->Prop}(hh:A.handled=none)(so:Seto s.heap S es ep t)(tb:Tb (!byT w) t)(hz:es.size<sizeLine)
 (q:∀h' d ys,ys.Perm (es.toList.map (·.2))->(∀b o,s.heap.get? b=some o->h'.get? b=some o)->s.heap.objs.size<=h'.objs.size->Q ys {s with heap:=h',drawn:=d}):wpAny (model prog w) A (collect (.ref S)) Q E s:=by
 have hS:S<s.heap.objs.size:=let⟨o,ho,_⟩:=so;Heap.lt_size ho;unfold collect;refine wpAny_bind (wpAny_runValue (codeAny_builtin F.entry_proto_collect ?_));rw[Around.under_plainId F.plain_proto_collect _];show wpAny _ A.in1 (newList []>>=λl=>again (.builtin "list.__iadd__" ⟨[l, .ref S],[]⟩)) _ _ s;refine wpAny_bind (wpAny_newObj_type (wpAny_pure ⟨plainId_quiet F.plain_list_iadd _,codeAny_builtin F.entry_list_iadd ?_⟩));rw[Around.under_plainId F.plain_list_iadd _];generalize hlo:({cls:= .type "list",data:= .seq ([]:List Value).toArray}:Obj)=lo;have gL:(s.heap.push lo).get? s.heap.objs.size=some lo:=Heap.get?_push_size _ (by subst hlo;rfl);have so1:Seto (s.heap.push lo) S es ep t:=so.keep λo e=>Heap.get?_push_of_some _ e;obtain⟨os,hos,hex,hds,hfs⟩:=id so1;have hT:Shared.TypeIs {s with heap:=s.heap.push lo} (.ref S) "set":=⟨os,hos,hex.1⟩;show wpAny _ A.in1 (Builtin.List.listExtendWith (.ref s.heap.objs.size) (.ref S) (.ref s.heap.objs.size)) _ _ _;unfold Builtin.List.listExtendWith;refine wpAny_bind (wpAny_typeOf hT ?_);have h1:Builtin.List.listSameRef (.ref s.heap.objs.size) (.ref S)=false:=by
  have:¬s.heap.objs.size=S:=Nat.ne_of_gt hS;simp[Builtin.List.listSameRef,this]
 rw[if_neg (by rw[h1];decide)];refine wpAny_bind (QF so1 tb (Nat.le_of_lt hz) λI h1 d f ys x it hI hT1 kp=>?_);have gL1:=kp _ _ gL;refine wpAny_bind (wpAny_holding (QH ⟨os,kp _ _ hos,hex.1⟩ ?_));rw[if_pos (by decide +kernel)];refine wpAny_bind (wpAny_rule ?_);refine wpAny_bind ?_;show wpAny _ A.in1 (updateSeq s.heap.objs.size (·.push .none)>>=λ_=>updateSeq s.heap.objs.size (·.pop)) _ _ _;subst hlo;refine wpAny_bind (wpAny_updateSeq gL1 rfl ?_);have gL2:=Heap.get?_update_self (Obj.mapSeq (·.push Value.none)) gL1 rfl;refine wpAny_updateSeq gL2 rfl ?_;have gL3:=Heap.get?_update_self (Obj.mapSeq (·.pop)) gL2 rfl;have sz1:(s.heap.push ({cls:= .type "list",data:= .seq ([]:List Value).toArray}:Obj)).objs.size=s.heap.objs.size+1:=Heap.size_push ..;rw[sz1]at hI hT1;have oth:∀b o,b≠s.heap.objs.size->h1.get? b=some o->((h1.update s.heap.objs.size (Obj.mapSeq (·.push Value.none))).update s.heap.objs.size (Obj.mapSeq (·.pop))).get? b=some o:=
  λb o hb e=>(Heap.get?_update_other _ _ (Ne.symm hb)).trans ((Heap.get?_update_other _ _ (Ne.symm hb)).trans e)
 have nLI:s.heap.objs.size≠I:=Nat.ne_of_lt hI;have nS:S≠s.heap.objs.size:=Nat.ne_of_lt hS;have nSI:S≠I:=Nat.ne_of_lt (Nat.lt_trans hS hI);have nT:∀T,f 0= .ref T->T≠I/\T≠s.heap.objs.size:=λT e=>⟨(hT1 T e).1,Nat.ne_of_gt (hT1 T e).2⟩;refine wpAny_pure ⟨plainId_quiet F.plain_extend_loop _,N2 (show A.handled=none from hh) nLI (Ne.symm nS) nSI nT (Nat.le_of_lt hz) _ es.size 0 _ _ _ rfl (Nat.zero_le _) (x.at λT e o eo=>oth T o (nT T e).2 eo) ((so1.keep λo e=>kp S o e).keep λo e=>oth S o nS e) (it.keep λo e=>oth I o (Ne.symm nLI) e) gL3 rfl λh2 acc' c' kp2 gL4 ha=>?_⟩;show wpAny _ A (load s.heap.objs.size>>=_) _ _ _;refine wpAny_bind (wpAny_load gL4 ?_);refine wpAny_pure ?_;rw[ha];refine q h2 d ys x.perm (λb o e=>?_) (Nat.le_of_lt (Heap.lt_size gL4));have hb:b<s.heap.objs.size:=Heap.lt_size e;exact kp2 b o (Nat.ne_of_lt (Nat.lt_trans hb hI)) (Nat.ne_of_lt hb) (oth b o (Nat.ne_of_lt hb) (kp b o (Heap.get?_push_of_some _ e)))
theorem IntsAre.of_perm{vs us:List Value}(p:vs.Perm us):∀ {ns:List Int},IntsAre us ns->∃ms,IntsAre vs ms/\ms.Perm ns:=by
 induction p with
 |nil=>intro ns h;exact⟨ns,h, .refl _⟩
 |cons x _ ih=>intro ns h;cases h with|cons n t h=>obtain⟨ms,h1,h2⟩:=ih h;exact⟨n::ms, .cons n t h1,h2.cons n⟩
 |swap x y l=>intro ns h;cases h with|cons n t h=>cases h with|cons m u h=>exact⟨m::n::_, .cons m u (.cons n t h), .swap _ _ _⟩
 |trans _ _ ih1 ih2=>intro ns h;obtain⟨ms,h1,h2⟩:=ih2 h;obtain⟨ks,h3,h4⟩:=ih1 h1;exact⟨ks,h3,h4.trans h2⟩
end
end BrT
namespace L2
open PySem PySem.Spec PyProof.Rows
section
variable{X:Cx}{e:Expr}{te:TE}{np cpos sp pos:Pos}
theorem Inv.drawn{pins:List (Addr×Obj)}{σ:St}{H:Hp}{s:Shared}(I:Inv X pins σ H s)(d:Drawn):Inv X pins σ H {s with drawn:=d}:=⟨I.ok,I.os,I.bare,I.base,I.loc,I.cell,I.free,I.freeC,I.pin,I.hok,I.len⟩
end
end L2
namespace BrT
open PySem PySem.Spec PyProof.Rows
section
variable{prog:Program}{w:World}{A:Around}{E:Value->Shared->Prop}{s:Shared}
theorem sorted_setB{S:Addr}{ms:List Int}{Q:Value->Shared->Prop}(hh:A.handled=none)(i:SI prog w (!byT w) s.heap S ms)(h63:∀x∈ms,(0:Int)<=x/\x<63)
 (q:∀ (L:Addr) (h':Heap) d (vs:List Value) (ns:List Int) (e:Nat),s.heap.objs.size<=L->h'.get? L=some (seqObj "list" vs.toArray e)->(∀b o,s.heap.get? b=some o->h'.get? b=some o)->IntsAre vs ns->ns.Pairwise (· < ·)->(∀k,k∈ns↔k∈ms)->ns.length<=63->Q (.ref L) {s with heap:=h',drawn:=d}):
 wpAny (model prog w) A (call (.builtin "sorted") [.ref S]) Q E s:=by
 obtain⟨o,es,ep,t,ho,hex,hd,hel,hnd,hmem,hsz,hf,htb⟩:=i;have h64:es.size<=63:=by
  have h1:=List.Nodup.length_le_of_subset hnd (l₂:=(List.range 63).map λn:Nat=>(n:Int)) λx hx=>by
   obtain⟨h1,h2⟩:=h63 x ((hmem x).mp hx);exact List.mem_map.mpr ⟨x.toNat,by simp;lia,by lia⟩
  simpa using h1
 refine Calls.call_function_entry kind_sorted plain_sorted entry_sorted (args_sorted1 _) ?_;unfold Builtin.«sorted»;refine wpAny_bind (m:=checkCount "sorted" 1 1 _) (wpAny_pure ?_);refine wpAny_bind (NV (show A.in1.handled=none from hh) ⟨o,ho,hex,hd,hf⟩ htb (by rw[sizeLine_eq];lia) λh1 d ys hp kp hle=>?_);obtain⟨ks,hI,hpk⟩:=IntsAre.of_perm hp (Js hel);have hyl:ys.length<64:=by rw[hp.length_eq];simp;lia
 refine wpAny_bind (wpAny_newList ?_ (by rw[sizeLine_eq];lia));have gL:(h1.push (seqObj "list" ys.toArray 0)).get? h1.objs.size=some (seqObj "list" ys.toArray 0):=Heap.get?_push_size _ rfl;refine wpAny_bind (wpAny_holding (wpAny_call_entry slot_list_sort ⟨_,gL,rfl⟩ entry_list_sort (list_sort_tree gL hI hyl λout ns a1 a2 a3=>⟨_,rfl,?_⟩) (args_list_sort _)));refine wpAny_pure ⟨_,rfl,?_⟩;obtain⟨e,he⟩:=sortedHeap_at (out:=out) gL;have hall:ns.Perm (es.toList.map keyOf):=a2.trans hpk;refine q h1.objs.size _ d out.toList ns e hle (by rw[Array.toArray_toList];exact he) (λb o eb=>?_) a1 ?_ (λk=>(hall.mem_iff).trans (hmem k)) (by rw[hall.length_eq];simp;exact h64)
 ·have hb:=Heap.lt_size (kp b o eb);rw[sortedHeap_old (Nat.ne_of_lt hb) (by rw[size_push'];exact Nat.lt_succ_of_lt hb)];exact Heap.get?_push_of_some _ (kp b o eb)
 ·have hn:ns.Nodup:=hall.nodup_iff.mpr hnd;exact List.Pairwise.imp (λh=>by lia) (List.Pairwise.and a3 hn)
end
end BrT
namespace L2
open PySem PySem.Spec PyProof.Rows
section
variable{X:Cx}{e:Expr}{te:TE}{np cpos sp pos:Pos}
def LV(K:W.Frag)(te:TE):TE:=λσ H Q=>te σ H λv H1=>∃ (l:Addr) (ms:List Int),v= .ref l/\SqL K H1 l (ms.map V.int)/\ms.length<=4000/\(∀x∈ms,(0:Int)<=x/\x<63)/\
 ∀ (p:Addr) (ns:List Int),H1 p=none->ns.Pairwise (· < ·)->(∀k:Int,k∈ns↔k∈ms)->ns.length<=63->Q (.ref p) (upd H1 p (.lst (ns.map V.int)))
theorem Pu(K:W.Frag)(hms:X.mg "set"=none)(hmo:X.mg "sorted"=none){k:Nat}(hr:Room k X.A)(hc:X.calm=true)(he:PE X e te)(hK:X.K=K:=by rfl)(hgs:Gl X "set":=by rfl)(hgo:Gl X "sorted":=by rfl)
 (h1:starEach [e] X.env=[(false,eval e X.env)]:=by rfl) (h2:starEach [.Call (.Name "set" np) [e] [] cpos] X.env=[(false,eval (.Call (.Name "set" np) [e] [] cpos) X.env)]:=by rfl):
 PE X (.Call (.Name "sorted" sp) [.Call (.Name "set" np) [e] [] cpos] [] pos) (LV K te):=by
 subst hK;intro pins s σ H Q I h;refine wpAny_Call_Name_kw (Bn I hgo hmo PyProof.Rows.boot_sorted ?_);refine PyProof.Rows.callWith_builtin1 ?_ h2 rfl;rw[h2];show wpAny _ _ (spliced [(false,eval (.Call (.Name "set" np) [e] [] cpos) X.env)]) _ _ _;refine Calls.spliced_cons ?_;refine wpAny_Call_Name_kw (Bn I hgs hms PyProof.Rows.boot_set ?_);refine PyProof.Rows.callWith_type1 ?_ h1 rfl;rw[h1];show wpAny _ _ (spliced [(false,eval e X.env)]) _ _ _;refine Calls.spliced_cons (thn (he pins s σ H _ I h) λu s1 ⟨v,H1,I1,r1,q1⟩=>Calls.spliced_nil ?_);obtain⟨l,ms,rfl,hq,hz,hr63,q⟩:=q1
 cases r1
 obtain⟨its,rr,ht,_⟩:=I1.list hq;have hi:=HS rr;refine BrT.call_set (I1.ok.hd hc) ht.isList hi (by unfold scanBound;lia) λh' tk hS kp hlt=>Calls.spliced_nil ?_;have I2:Inv X pins σ H1 {s1 with heap:=h',toks:=tk}:=I1.kept λb o z=>kp b o (Heap.lt_size z) z;refine BrT.sorted_setB (s:={s1 with heap:=h',toks:=tk}) (I1.ok.hd hc) hS hr63 λL h2 d vs ns ep hL gL kp2 hI hp hm hle=>?_;refine⟨.ref L,_,(I2.laid (t':=tk) (o:= .lst (ns.map V.int)) kp2 hL ⟨?_,vs,ep,E3 hI,gL⟩).drawn d,rfl,q L ns (I2.hok.fresh hL) hp hm hle⟩;rw[List.length_map,sizeLine_eq];lia
theorem Qm{K:W.Frag}{σ:St}{H:Hp}{Q:VK}(h:te σ H λv H1=>∃ (l:Addr) (ms:List Int),v= .ref l/\SqL K H1 l (ms.map V.int)/\ms.length<=4000/\(∀x∈ms,(0:Int)<=x/\x<63)/\∀ (p:Addr) (ns:List Int),H1 p=none->ns.Pairwise (· < ·)->(∀k:Int,k∈ns↔k∈ms)->ns.length<=63->Q (.ref p) (upd H1 p (.lst (ns.map V.int)))):LV K te σ H Q:=h
end
section
variable{prog:Program}{w:World}{A:Around}{R:Result->Shared->Prop}{s:Shared}
theorem NY(elt target iter target1 iter1:Expr)(ifs ifs1:List Expr)(scope:Scope)(pos:Pos)(it acc:Value)(env:Env):
 compTurn (.ListComp elt [⟨target,iter,ifs,0⟩,⟨target1,iter1,ifs1,0⟩] scope pos) 0 it acc env=(do
  standAt iter.pos
  match<-pyNext it with
  |none=>pure (.done .next)
  |some v=>
   letOwnedTupleGo target it v
   assign target env v
   let mut ok:=true
   for c in ifs do
    if ok then ok<-isTrue c env (eval c env)
   if ok then
    let x<-eval iter1 env
    standAt iter1.pos
    let x<-foldedSetIterable iter1 env x
    let _<-runOwn (.compStart (.ListComp elt [⟨target,iter,ifs,0⟩,⟨target1,iter1,ifs1,0⟩] scope pos) 1 (<-holding [x] (pyIter x)) acc env) env
   again (.compLoop (.ListComp elt [⟨target,iter,ifs,0⟩,⟨target1,iter1,ifs1,0⟩] scope pos) 0 it acc env)):=by rfl
theorem NZ(elt target iter target1 iter1:Expr)(ifs ifs1:List Expr)(scope:Scope)(pos:Pos)(it acc:Value)(env:Env):
 compTurn (.ListComp elt [⟨target,iter,ifs,0⟩,⟨target1,iter1,ifs1,0⟩] scope pos) 1 it acc env=(do
  standAt iter1.pos
  match<-pyNext it with
  |none=>pure (.done .next)
  |some v=>
   letOwnedTupleGo target1 it v
   assign target1 env v
   let mut ok:=true
   for c in ifs1 do
    if ok then ok<-isTrue c env (eval c env)
   if ok then
    (do let _<-call (.builtin "list.append") [acc,<-eval elt env])
   again (.compLoop (.ListComp elt [⟨target,iter,ifs,0⟩,⟨target1,iter1,ifs1,0⟩] scope pos) 1 it acc env)):=by rfl
theorem M7{elt target iter target1 iter1:Expr}{ifs ifs1:List Expr}{scope:Scope}{pos:Pos}{it acc:Value}{env:Env}(hs:∀x,foldedSetIterable iter1 env x=pure x)(I:Nat->Shared->Prop)
 (turn:∀n s,I n s->wpAny (model prog w) A (pyNext it) (λr s1=>match r with
   |none=>R (.ok .next) s1
   |some v=>wpAny (model prog w) A (letOwnedTupleGo target it v) (λ_ s0=>wpAny (model prog w) A (assign target env v) (λ_ s2=>
     wpAny (model prog w) A (forIn ifs true λc r=>if r=true then do let ok<-isTrue c env (eval c env);pure (ForInStep.yield ok)else pure (ForInStep.yield r)) (λok s3=>
      if ok=true then wpAny (model prog w) A (eval iter1 env) (λx s4=>wpAny (model prog w) A (pyIter x) (λit1 s5=>
       codeAny (model prog w) A (.compStart (.ListComp elt [⟨target,iter,ifs,0⟩,⟨target1,iter1,ifs1,0⟩] scope pos) 1 it1 acc env) (λr s6=>r= .ok .next/\∃m,m<n/\I m s6) s5) (λ_ _=>False) s4) (λ_ _=>False) s3
      else∃m,m<n/\I m s3) (λ_ _=>False) s2) (λ_ _=>False) s0) (λ_ _=>False) s1) (λ_ _=>False) s)
 (n:Nat) (h:I n s):
 codeAny (model prog w) A (.compLoop (.ListComp elt [⟨target,iter,ifs,0⟩,⟨target1,iter1,ifs1,0⟩] scope pos) 0 it acc env) R s:=by
 refine codeAny_loop rfl I (λn s hI=>?_) n h;show wpAny _ A ((compTurn (.ListComp elt [⟨target,iter,ifs,0⟩,⟨target1,iter1,ifs1,0⟩] scope pos) 0 it acc env).onRaise (λx=>do noteFrame x env;theTreesLotGoes x)) _ _ s;refine wpAny_noted ?_;rw[NY];refine wpAny_bind (wpAny_standAt (wpAny_bind (wpAny_mono (turn n s hI) (λr s1 h1=>?_) λ_ _ z=>z.elim)))
 cases r with
 |none=>exact wpAny_pure h1
 |some v=>
  refine wpAny_bind (wpAny_mono h1 (λ_ s0 h0=>wpAny_bind (wpAny_mono h0 (λ_ s2 h2=>wpAny_bind (wpAny_mono h2 (λok s3 h3=>?_) λ_ _ z=>z.elim)) λ_ _ z=>z.elim)) λ_ _ z=>z.elim)
  cases ok with
  |false=>exact wpAny_pure ⟨rfl,h3⟩
  |true=>
   refine wpAny_bind (wpAny_mono h3 (λx s4 h4=>wpAny_bind (wpAny_standAt ?_)) λ_ _ z=>z.elim);rw[hs x];refine wpAny_bind (wpAny_pure (wpAny_bind (wpAny_holding (wpAny_mono h4 (λit1 s5 h5=>wpAny_bind (wpAny_runOwn (codeAny_mono h5 λr s6 ⟨hr,q⟩=>?_))) λ_ _ z=>z.elim))));subst hr;exact wpAny_pure ⟨rfl,q⟩
theorem NQ{elt target iter target1 iter1:Expr}{ifs ifs1:List Expr}{scope:Scope}{pos:Pos}{it acc:Value}{env:Env}(I:Nat->Shared->Prop)
 (turn:∀n s,I n s->wpAny (model prog w) A (pyNext it) (λr s1=>match r with
   |none=>R (.ok .next) s1
   |some v=>wpAny (model prog w) A (letOwnedTupleGo target1 it v) (λ_ s0=>wpAny (model prog w) A (assign target1 env v) (λ_ s2=>
     wpAny (model prog w) A (forIn ifs1 true λc r=>if r=true then do let ok<-isTrue c env (eval c env);pure (ForInStep.yield ok)else pure (ForInStep.yield r)) (λok s3=>
      if ok=true then wpAny (model prog w) A (eval elt env) (λx s4=>wpAny (model prog w) A (call (.builtin "list.append") [acc,x]) (λ_ s5=>∃m,m<n/\I m s5) (λ_ _=>False) s4) (λ_ _=>False) s3
      else∃m,m<n/\I m s3) (λ_ _=>False) s2) (λ_ _=>False) s0) (λ_ _=>False) s1) (λ_ _=>False) s)
 (n:Nat) (h:I n s):
 codeAny (model prog w) A (.compLoop (.ListComp elt [⟨target,iter,ifs,0⟩,⟨target1,iter1,ifs1,0⟩] scope pos) 1 it acc env) R s:=by
 refine codeAny_loop rfl I (λn s hI=>?_) n h;show wpAny _ A ((compTurn (.ListComp elt [⟨target,iter,ifs,0⟩,⟨target1,iter1,ifs1,0⟩] scope pos) 1 it acc env).onRaise (λx=>do noteFrame x env;theTreesLotGoes x)) _ _ s;refine wpAny_noted ?_;rw[NZ];refine wpAny_bind (wpAny_standAt (wpAny_bind (wpAny_mono (turn n s hI) (λr s1 h1=>?_) λ_ _ z=>z.elim)))
 cases r with
 |none=>exact wpAny_pure h1
 |some v=>
  refine wpAny_bind (wpAny_mono h1 (λ_ s0 h0=>wpAny_bind (wpAny_mono h0 (λ_ s2 h2=>wpAny_bind (wpAny_mono h2 (λok s3 h3=>?_) λ_ _ z=>z.elim)) λ_ _ z=>z.elim)) λ_ _ z=>z.elim)
  cases ok with
  |false=>exact wpAny_pure ⟨rfl,h3⟩
  |true=>
   exact wpAny_bind (wpAny_bind (wpAny_mono h3 (λx s4 h4=>wpAny_bind (wpAny_mono h4 (λ_ s5 h5=>wpAny_pure (wpAny_pure ⟨rfl,h5⟩)) λ_ _ z=>z.elim)) λ_ _ z=>z.elim))
theorem NR{elt target iter target1 iter1:Expr}{ifs ifs1:List Expr}{scope:Scope}{pos:Pos}{it acc:Value}{env:Env}
 (h0:codeAny (model prog w) A (.compLoop (.ListComp elt [⟨target,iter,ifs,0⟩,⟨target1,iter1,ifs1,0⟩] scope pos) 1 it acc env) R s)
 (h:wpAny (model prog w) A (pyIter it) (λit' s'=>codeAny (model prog w) A (.compLoop (.ListComp elt [⟨target,iter,ifs,0⟩,⟨target1,iter1,ifs1,0⟩] scope pos) 1 it' acc env) R s') (notedBy (model prog w) A env λx s'=>R (.error x) s') s):
 codeAny (model prog w) A (.compStart (.ListComp elt [⟨target,iter,ifs,0⟩,⟨target1,iter1,ifs1,0⟩] scope pos) 1 it acc env) R s:=by
 refine codeAny_of_tree ?_;show wpAny _ _ ((compStart (.ListComp elt [⟨target,iter,ifs,0⟩,⟨target1,iter1,ifs1,0⟩] scope pos) 1 it acc env).onRaise (λx=>do noteFrame x env;standAt theWindowsPlace)) _ _ s;refine wpAny_notedAt ?_;unfold compStart;show wpAny _ _ (ask>>=_) _ _ s;refine wpAny_bind (wpAny_askSetting (wpAny_ite ?_))
 split
 ·first
   |exact wpAny_bind (wpAny_pure (wpAny_pure ⟨rfl,h0⟩))
   |exact wpAny_pure ⟨rfl,h0⟩
 ·first
   |exact wpAny_bind (wpAny_rule (wpAny_bind (wpAny_standAt (wpAny_bind (wpAny_mono h (λit' s' h'=>wpAny_pure ⟨rfl,h'⟩) λ_ _ x=>x)))))
   |(refine wpAny_bind (wpAny_rule ?_);show wpAny _ _ (standAt iter1.pos>>=_) _ _ s;exact wpAny_bind (wpAny_standAt (wpAny_bind (wpAny_mono h (λit' s' h'=>wpAny_pure ⟨rfl,h'⟩) λ_ _ x=>x))))
end
def Dn(D:Addr)(wi1:TI)(i1:Nat)(tt1:TT)(te:TE)(σ:St)(H:Hp)(N:Hp->Prop):Prop:=wi1 σ H λJ H1=>∃W:Nat->Nat->Hp->Prop,(∃m,W 0 m H1)/\∀i m H2,W i m H2->
 (J.stop i H2/\N H2)\/(J.go i H2/\∀x H3,J.yld i H2 x H3->tt1 (σ.set i1 (some x)) H3 λb H5=>
   if b=true then te (σ.set i1 (some x)) H5 λv H6=>∃ys,H6 D=some (.lst ys)/\ys.length<sizeLine/\∃m',m'<m/\W (i+1) m' (upd H6 D (.lst (ys++[v])))
   else∃m',m'<m/\W (i+1) m' H5)
def Fv(own:List Str)(sel:List Nat)(wi:TI)(i0:Nat)(tt:TT)(wi1:TI)(i1:Nat)(tt1:TT)(te:TE):TE:=λσ H Q=>wi σ H λJ H1=>∀D,H1 D=none->
 ∃W:Nat->Nat->Hp->Prop,(∃m,W 0 m (upd H1 D (.lst [])))/\∀i m H2,W i m H2->
  (J.stop i H2/\Q (.ref D) H2)\/(J.go i H2/\∀x H3,J.yld i H2 x H3->tt ((AT own sel σ).set i0 (some x)) H3 λb H5=>
    if b=true then Dn D wi1 i1 tt1 te ((AT own sel σ).set i0 (some x)) H5 λH'=>∃m',m'<m/\W (i+1) m' H'
    else∃m',m'<m/\W (i+1) m' H5)
section
variable{Y:Cx}
theorem N0{elt tg iter tg1 iter1:Expr}{ifs ifs1:List Expr}{scope:Scope}{pos:Pos}{wi1:TI}{i1:Nat}{tt1:TT}{te:TE}{D:Addr}(hX:Y.xe=λ_ _=>False)(hc:Y.calm=true)(hi1:PI Y tg1 iter1 wi1)(hg1:PG Y tg1 (Aw i1))(ht1:PIf Y ifs1 tt1)(he:PE Y elt te)
 {pins:List (Addr×Obj)} {s:Shared} {σ:St} {H:Hp} {N:Hp->Prop} (I0:Inv Y pins σ H s) (hσ:σ[i1]? =some none) (h:Dn D wi1 i1 tt1 te σ H N) {R:Result->Shared->Prop} (fin:∀H' s',Inv Y pins σ H' s'->N H'->R (.ok .next) s'):
 wpAny (model Y.prog Y.w) Y.A (eval iter1 Y.env) (λx s4=>wpAny (model Y.prog Y.w) Y.A (pyIter x) (λit1 s5=>codeAny (model Y.prog Y.w) Y.A (.compStart (.ListComp elt [⟨tg,iter,ifs,0⟩,⟨tg1,iter1,ifs1,0⟩] scope pos) 1 it1 (.ref D) Y.env) R s5) (λ_ _=>False) s4) (λ_ _=>False) s:=by
 have hi:=hi1 pins s σ H _ I0 h;rw[hX]at hi;refine thn hi λv s1 h1=>thn h1 λitv s2 h2=>?_;obtain⟨it,fp,tn,J,H2,e,I2,T,st2,f2,W,⟨m0,w0⟩,turn⟩:=h2;subst e;have stat:∀ {H':Hp},(∀b∈fp,H' b=none)->∀b∈fp,BH Y pins H' b:=λhn b hb=>⟨hn b hb,(f2 b hb).2⟩;have loop:codeAny (model Y.prog Y.w) Y.A (.compLoop (.ListComp elt [⟨tg,iter,ifs,0⟩,⟨tg1,iter1,ifs1,0⟩] scope pos) 1 (.ref it) (.ref D) Y.env) R s2:=by
  refine NQ (λn s'=>∃i H',Inv Y pins σ H' s'/\tn i s'.heap/\(∀b∈fp,H' b=none)/\W i n H') ?_ m0 ⟨0,H2,I2,st2,λb hb=>(f2 b hb).1,w0⟩;rintro n s4 ⟨i,H4,I4,st4,fr4,w4⟩;rcases turn i n H4 w4 with⟨stop,q⟩|⟨go,step⟩
  ·refine thn (T.done Y rfl rfl rfl hc i pins s4 σ H4 (λ_ _=>False) I4 (stat fr4) st4 stop) λr s5 z_=>?_;obtain⟨hr,I5⟩:=z_;subst hr;exact fin _ _ I5 q
  ·refine thn (T.item Y rfl rfl rfl hc i pins s4 σ H4 (λ_ _=>False) I4 (stat fr4) st4 go) λr s5 z_=>?_;obtain⟨u,hr,h5⟩:=z_;subst hr;refine thn h5 λ_ s6 z_=>?_;obtain⟨x,H6,I6,r6,y6,st6,fr6⟩:=z_;have I6':=I6.pinned (stat fr6) (T.obj _ _ st6);have back:∀ {H7:Hp} {s7:Shared},Inv Y (pins++Cu fp s6.heap) (σ.set i1 (some x)) H7 s7->(∃m',m'<n/\W (i+1) m' H7)->∃m',m'<n/\∃i H',Inv Y pins σ H' s7/\tn i s7.heap/\(∀b∈fp,H' b=none)/\W i m' H':=fun{H7 s7} I7 w7=>by
    obtain⟨m',hm,w7⟩:=w7;refine⟨m',hm,i+1,H7,I7.unpinned.weak (by simp) λj v e=>?_,T.keep _ _ _ st6 λb hb o e=>(I7.pin (b,o) (List.mem_append_right _ (List.mem_append_right _ (CQ hb e)))).1,λb hb=>?_,w7⟩
    ·by_cases hj:i1=j
     ·subst hj;rw[hσ]at e;cases e
     ·rw[List.getElem?_set_ne hj];exact e
    ·obtain⟨o,e,d⟩:=T.obj _ _ st6 b hb;exact(I7.pin (b,o) (List.mem_append_right _ (List.mem_append_right _ (CQ hb e)))).2.1
   have ga:=hg1 _ s6 _ H6 x u _ I6' r6 (show Aw i1 x σ H6 (λσ' H'=>σ'=σ.set i1 (some x)/\H'=H6)from⟨rfl,rfl⟩);rw[hX]at ga;refine thn ga λ_ s7 z_=>?_;obtain⟨σ7,H7,I7,e7,e7'⟩:=z_;subst e7;subst e7';have ta:=ht1 _ s7 _ _ _ I7 (step x H7 y6);rw[hX]at ta;refine thn ta λb s8 z_=>?_;obtain⟨H8,I8,q8⟩:=z_
   cases b with
   |false=>
    rw[if_neg Bool.false_ne_true]at q8⊢;exact back I8 q8
   |true=>
    rw[if_pos rfl]at q8⊢;have ea:=he _ s8 _ H8 _ I8 q8;rw[hX]at ea;refine thn ea λv s9 z_=>?_;obtain⟨x9,H9,I9,r9,ys,hD9,hz9,q9⟩:=z_;have aa:=DB (X:=Y) _ s9 _ H9 (.ref D) [x9] (.ref D) [v] (λ_ H'=>∃m',m'<n/\W (i+1) m' H') I9 rfl (.cons r9 .nil) ⟨D,ys,x9,rfl,rfl,hD9,hz9,q9⟩;rw[hX]at aa;exact thn aa λ_ s10 ⟨_,H10,I10,_,q10⟩=>back I10 q10
 exact NR loop (T.self Y.A 0 _ _ _ st2 loop)
end
section
variable{X:Cx}
theorem N5{elt tg iter tg1 iter1:Expr}{ifs ifs1:List Expr}{scope:Scope}{pos:Pos}{own:List Str}{sel:List Nat}{wi:TI}{i0:Nat}{tt:TT}{wi1:TI}{i1:Nat}{tt1:TT}{te:TE}{use:Option (Value->Sem Unit)}{Qo:Value->Shared->Prop}
 (S:CompOk X.env.scope X.N own sel scope) (hc:X.calm=true) (hi:PI X tg iter wi)
 (h01:i0≠i1/\i0<own.length/\i1<own.length) (hg:∀cl C s2 H2 fp,PG (BN X own sel scope cl C s2 H2 fp) tg (Aw i0))
 (ht:∀cl C s2 H2 fp,PIf (BN X own sel scope cl C s2 H2 fp) ifs tt) (hi1:∀cl C s2 H2 fp,PI (BN X own sel scope cl C s2 H2 fp) tg1 iter1 wi1) (hg1:∀cl C s2 H2 fp,PG (BN X own sel scope cl C s2 H2 fp) tg1 (Aw i1)) (ht1:∀cl C s2 H2 fp,PIf (BN X own sel scope cl C s2 H2 fp) ifs1 tt1) (he:∀cl C s2 H2 fp,PE (BN X own sel scope cl C s2 H2 fp) elt te)
 (hs:∀x,foldedSetIterable iter X.env x=pure x) (hs1:∀cl C s2 H2 fp x,foldedSetIterable iter1 (BN X own sel scope cl C s2 H2 fp).env x=pure x) {pins:List (Addr×Obj)} {s:Shared} {σ:St} {H:Hp} {Q:VK} {ps:Pos} (I0:Inv X pins σ H s) (h:Fv own sel wi i0 tt wi1 i1 tt1 te σ H Q)
 (fin:∀ (D C:Addr) (H':Hp) (s':Shared) (m:Str->Option Value),Inv X pins σ H' s'->s'.heap.Ns C m->Far X pins H' C->Q (.ref D) H'->compPost (model X.prog X.w) X.A X.xe use Qo (.ref D) C (.ok .next) s'):
 wpAny (model X.prog X.w) X.A (comprehension (.ListComp elt [⟨tg,iter,ifs,0⟩,⟨tg1,iter1,ifs1,0⟩] scope pos) scope X.env ps (newList []) false (eval iter X.env) use) Qo X.xe s:=by
 obtain⟨cl,hclos,hcl,hfree⟩:=KA (scope:=scope) (env:=X.env) λy hy e=>I0.ok.has y.1 (S.free y hy e);refine wpAny_comprehension_free (use:=use) rfl hs hclos S.kind S.names (thn (hi pins s σ H _ I0 h) λv s1 h1=>thn h1 λitv s2 h2=>?_);obtain⟨it,fp,tn,J,H2,e,I,T,st2,f2,h3⟩:=h2;subst e;clear h h1 I0;refine wpAny_newObj_type (wpAny_newFunctionEnv S.cell (by intro y hy;simp at hy) (λh1 hns1 hsb1=>?_) S.kind)
 dsimp only at hns1 hsb1⊢
 generalize hP:s2.heap.push {cls:= .type "list",dict:=none,data:= .seq ([]:List Value).toArray}=P1 at hns1 hsb1⊢;generalize hD:s2.heap.objs.size=D at hns1 hsb1⊢;generalize hC:P1.objs.size=C at hns1 hsb1⊢;have hCD:C=D+1:=by rw[<-hC,<-hP,Heap.size_push,hD]
 have hlt:D<C:=by rw[hCD];exact Nat.lt_succ_self D
 have hDC:D≠C:=Nat.ne_of_lt hlt;have neC:∀b:Addr,b<D->b≠C:=λb hb=>Nat.ne_of_lt (Nat.lt_trans hb hlt);have neD:∀b:Addr,b<D->b≠D:=λb hb=>Nat.ne_of_lt hb;have hsD:s2.heap.objs.size<=D:=Nat.le_of_eq hD;have hsC:s2.heap.objs.size<=C:=Nat.le_trans hsD (Nat.le_of_lt hlt);have fresh:∀a,D<=a->H2 a=none:=λa ha=>I.hok.fresh (by rw[hD];exact ha);have hnD:H2 D=none:=fresh D (Nat.le_refl _);have hnC:H2 C=none:=fresh C (Nat.le_of_lt hlt);have below:∀b o,s2.heap.get? b=some o->b<D:=λb o e=>by rw[<-hD];exact Heap.lt_size e
 have keep1:∀b o,s2.heap.get? b=some o->h1.get? b=some o:=λb o e=>
  hsb1.extBut b o (neC b (below b o e)) (Heap.get?_push_of_some _ (hP▸Heap.get?_push_of_some _ e))
 have gD:h1.get? D=some {cls:= .type "list",dict:=none,data:= .seq ([]:List Value).toArray}:=by
  refine hsb1.extBut _ _ hDC (Heap.get?_push_of_some _ ?_);rw[<-hP,<-hD];exact Heap.get?_push_size _ rfl
 obtain⟨W,⟨m0,w0⟩,turn⟩:=h3 D hnD;have fpb:∀b∈fp,b<D:=λb hb=>by obtain⟨o,e,_⟩:=T.obj _ _ st2 b hb;exact below b o e
 generalize hY:BN X own sel scope cl C s2 H2 fp=Y;have hg:=hg cl C s2 H2 fp;have ht:=ht cl C s2 H2 fp;have he:=he cl C s2 H2 fp;have hi1:=hi1 cl C s2 H2 fp;have hg1:=hg1 cl C s2 H2 fp;have ht1:=ht1 cl C s2 H2 fp;have hs1:=hs1 cl C s2 H2 fp;rw[hY]at hg ht he hi1 hg1 ht1 hs1;have okY:Y.Ok:=by
  subst hY;refine⟨I.ok.mod,S.kind,I.ok.glob,I.ok.blt,?_,λx y c a b=>I.ok.inj x y c (hcl _ _ a) (hcl _ _ b),λx hx=>?_,(λ_ _ z=>nomatch z),λz=>I.ok.hd z,I.ok.frames, .inl rfl,λb hb=>⟨?_,λx c e=>(f2 b hb).2.2.2.2.1 x c (hcl _ _ e)⟩,I.bs,
   Nat.le_trans I.ok.bsz I.sz,λb o e hb=>?_,λb hb z=>?_,I.stack,I.stkFree⟩
  ·exact hsC
  ·have hx':(relabel scope X.env).names.lookup x=some .cell\/(relabel scope X.env).names.lookup x=some .free:=hx;have hf:scope.names.lookup x=some .free:=by
    rcases hx' with z|z
    ·rcases DT z with q|q
     ·exact absurd rfl (S.cell _ (PySem.mem_of_lookup q))
     ·exact q
    ·rcases DT z with q|q<;>exact q
   exact hfree _ (PySem.mem_of_lookup hf) rfl
  ·exact neC b (fpb b hb)
  ·rcases(f2 b hb).2.2.2.1 with z|z
   ·exact I.ok.noex b o e z
   ·exact absurd (Nat.lt_of_lt_of_le (Heap.lt_size e) (Nat.le_trans I.ok.bsz z)) (Nat.lt_irrefl _)
  ·rcases List.mem_cons.mp (I.stkSub b z)with q|q
   ·exact(f2 b hb).2.1 q
   ·exact(f2 b hb).2.2.1 q
 have eo:ObjOk X.prog X.w (upd H2 D (.lst [])) h1 D (.lst []):=⟨by decide,[],_, .nil,gD⟩;have I1:Inv Y [] (AT own sel σ) (upd H2 D (.lst [])) {s2 with heap:=h1,toks:=s2.toks+([]:List (Str×Value)).length}:=by
  subst hY;refine⟨okY,rfl,I.bare,Un.laid keep1 hsD hnD,⟨_,hns1,λi x v e1 e2 e3=>?_⟩,λx c e=>?_,?_,λx c e=>?_,λp hp=>absurd (show p∈([]:List (Addr×Obj))from hp) (by simp),I.hok.laid keep1 hsD eo,?_⟩
  ·obtain⟨k,j,ei,ej,es⟩:=Ip e2;subst ei;have e1':(own++sel.map λj=>X.N.getD j Str.empty)[own.length+k]? =some x:=e1;rw[List.getElem?_append_right (by lia),List.getElem?_map,show own.length+k-own.length=k by lia,ej]at e1';simp only[Option.map_some,Option.some.injEq]at e1';obtain⟨hj,hfx,hkd⟩:=S.seln j (List.mem_of_getElem? ej);have hN:X.N[j]? =some x:=by rw[<-e1',List.getD_eq_getElem?_getD,List.getElem?_eq_getElem hj];rfl
   rw[e1']at hkd hfx;obtain⟨m,_,hl⟩:=I.loc;obtain⟨u,r,lk⟩:=hl j x v hN es (.inr hkd);refine⟨u,r, .inr ⟨Ew I.ok.kind hfx,?_⟩⟩;rcases lk with⟨z1,_⟩|⟨_,c,hc1,hc2⟩
   ·have z1':X.env.scope.names.lookup x=some .local:=z1;rcases hkd with q|q<;>(rw[z1']at q;cases q)
   ·obtain⟨c',q⟩:=hfree _ (PySem.mem_of_lookup hfx) rfl;have q2:=hcl _ _ q;rw[hc1]at q2
    cases q2
    exact⟨c,q,hc2.keeps keep1⟩
  ·obtain⟨u,z⟩:=I.cell x c (hcl _ _ e);exact⟨u,z.keeps keep1⟩
  ·show upd H2 D (.lst []) C=none;rw[AG (Ne.symm hDC)];exact hnC
  ·have q:=I.freeC x c (hcl _ _ e);obtain⟨u,o,z,_⟩:=I.cell x c (hcl _ _ e);rw[AG (neD c (below c o z))];exact q
  ·show(AT own sel σ).length=(own++sel.map λj=>X.N.getD j Str.empty).length;rw[Iq];simp
 have fin:∀ (σ':St) (H':Hp) (s':Shared),Inv Y [] σ' H' s'->Q (.ref D) H'->compPost (model X.prog X.w) X.A X.xe use Qo (.ref D) C (.ok .next) s':=by
  intro σ' H' s' I' q;subst hY;obtain⟨m,hn,_⟩:=I'.loc;have J':Inv X pins σ H' s':=I.call' I'.os I'.base I'.hok I'.bare λb hb=>⟨(f2 b hb).2.2.2.1,(f2 b hb).2.1,(f2 b hb).2.2.2.2.1,(f2 b hb).2.2.2.2.2⟩;refine fin D C H' s' m J' hn ⟨I'.free,Ne.symm (neC _ (by rw[<-hD];exact I.lt)),Nat.le_trans I.sz hsC,λx c e=>?_,λp hp=>?_⟩ q
  ·obtain⟨u,o,z,_⟩:=I.cell x c e;exact neC c (below c o z)
  ·exact neC p.1 (below p.1 p.2 (I.pin p hp).1)
 have stat:∀ {H':Hp},(∀b∈fp,H' b=none)->∀b∈fp,BH Y [] H' b:=fun{H'} hn b hb=>by
  subst hY;refine⟨hn b hb,neC b (fpb b hb),λz=>?_, .inl hb,λx c e=>(f2 b hb).2.2.2.2.1 x c (hcl _ _ e),λp hp=>absurd (show p∈([]:List (Addr×Obj))from hp) (by simp)⟩;rcases List.mem_cons.mp (I.stkSub b z)with q|q
  ·exact(f2 b hb).2.1 q
  ·exact(f2 b hb).2.2.1 q
 have loop:∀s3:Shared,s3={s2 with heap:=h1,toks:=s2.toks+([]:List (Str×Value)).length}->
  codeAny (model X.prog X.w) X.A (.compLoop (.ListComp elt [⟨tg,iter,ifs,0⟩,⟨tg1,iter1,ifs1,0⟩] scope pos) 0 (.ref it) (.ref D) (compEnvC scope cl C X.env)) (compPost (model X.prog X.w) X.A X.xe use Qo (.ref D) C) s3:=by
  rintro s3 rfl;have eP:Y.prog=X.prog:=by subst hY;rfl
  have eW:Y.w=X.w:=by subst hY;rfl
  have eA:Y.A=X.A:=by subst hY;rfl
  have eK:Y.K=X.K:=by subst hY;rfl
  have eE:Y.env=compEnvC scope cl C X.env:=by subst hY;rfl
  have eX:Y.xe=λ_ _=>False:=by subst hY;rfl
  have eC:Y.calm=true:=by subst hY;exact hc
  refine M7 (by rw[<-eE];exact hs1) (λn s'=>∃i H',Inv Y [] (AT own sel σ) H' s'/\tn i s'.heap/\(∀b∈fp,H' b=none)/\W i n H') ?_ m0
   ⟨0,_,I1,T.keep _ _ _ st2 λb _ o e=>keep1 b o e,λb hb=>by rw[AG (neD b (fpb b hb))];exact(f2 b hb).1,w0⟩
  rintro n s4 ⟨i,H4,I4,st4,fr4,w4⟩;rcases turn i n H4 w4 with⟨stop,q⟩|⟨go,step⟩
  ·have dn:=T.done Y eP eW eK eC i [] s4 _ H4 (λ_ _=>False) I4 (stat fr4) st4 stop;rw[eA]at dn;refine thn dn λr s5 z_=>?_;obtain⟨hr,I5⟩:=z_;subst hr;exact fin _ _ _ I5 q
  ·have im:=T.item Y eP eW eK eC i [] s4 _ H4 (λ_ _=>False) I4 (stat fr4) st4 go;rw[eA]at im;refine thn im λr s5 z_=>?_;obtain⟨u,hr,h5⟩:=z_;subst hr;refine thn h5 λ_ s6 z_=>?_;obtain⟨x,H6,I6,r6,y6,st6,fr6⟩:=z_;have I6':=I6.pinned (stat fr6) (T.obj _ _ st6);have back:∀ {σ7:St} {H7:Hp} {s7:Shared} {k:Nat},Inv Y ([]++Cu fp s6.heap) σ7 H7 s7->σ7.length=(AT own sel σ).length->(∀j,own.length<=j->σ7[j]? =(AT own sel σ)[j]?)->(∃m',m'<n/\W (i+1) m' H7)->
    ∃m',m'<n/\∃i H',Inv Y [] (AT own sel σ) H' s7/\tn i s7.heap/\(∀b∈fp,H' b=none)/\W i m' H':=fun{σ7 H7 s7 k} I7 l7 k7 w7=>by
    obtain⟨m',hm,w7⟩:=w7;refine⟨m',hm,i+1,H7,I7.unpinned.weak l7.symm λj v e=>?_,T.keep _ _ _ st6 λb hb o e=>(I7.pin (b,o) (List.mem_append_right _ (List.mem_append_right _ (CQ hb e)))).1,λb hb=>?_,w7⟩
    ·by_cases hj:j<own.length
     ·rw[EM hj]at e;cases e
     ·rw[k7 j (Nat.le_of_not_lt hj)];exact e
    ·obtain⟨o,e,d⟩:=T.obj _ _ st6 b hb;exact(I7.pin (b,o) (List.mem_append_right _ (List.mem_append_right _ (CQ hb e)))).2.1
   have ga:=hg _ s6 _ H6 x u _ I6' r6 (show Aw i0 x (AT own sel σ) H6 (λσ' H'=>σ'=(AT own sel σ).set i0 (some x)/\H'=H6)from⟨rfl,rfl⟩);rw[eP,eW,eA,eE,eX]at ga;refine thn ga λ_ s7 z_=>?_;obtain⟨σ7,H7,I7,e7,e7'⟩:=z_;subst e7;subst e7';have l7:((AT own sel σ).set i0 (some x)).length=(AT own sel σ).length:=by simp
   have k7:∀j,own.length<=j->((AT own sel σ).set i0 (some x))[j]? =(AT own sel σ)[j]? :=λj hj=>List.getElem?_set_ne (by lia);have ta:=ht _ s7 _ _ _ I7 (step x H7 y6);rw[eP,eW,eA,eE,eX]at ta;refine thn ta λb s8 z_=>?_;obtain⟨H8,I8,q8⟩:=z_
   cases b with
   |false=>
    rw[if_neg Bool.false_ne_true]at q8⊢;exact back (k:=0) I8 l7 k7 q8
   |true=>
    rw[if_pos rfl]at q8⊢;have hn1:((AT own sel σ).set i0 (some x))[i1]? =some none:=by
     rw[List.getElem?_set_ne h01.1];exact EM h01.2.2
    have ic:=N0 (Y:=Y) (tg:=tg) (iter:=iter) (ifs:=ifs) (scope:=scope) (pos:=pos) eX eC hi1 hg1 ht1 he I8 hn1 q8 (R:=λr s6=>r= .ok .next/\∃m',m'<n/\∃i H',Inv Y [] (AT own sel σ) H' s6/\tn i s6.heap/\(∀b∈fp,H' b=none)/\W i m' H') λH9 s9 I9 q9=>⟨rfl,back (k:=0) I9 l7 k7 q9⟩;rw[eP,eW,eA,eE]at ic;exact ic
 exact codeAny_compStart_list (loop _ rfl) (T.self X.A 0 _ _ _ (T.keep _ _ _ st2 λb _ o e=>keep1 b o e) (loop _ rfl))
theorem M5{i:Nat}{x:Str}{pos' spos:Pos}{elt tg iter tg1 iter1:Expr}{ifs ifs1:List Expr}{scope:Scope}{pos:Pos}{own:List Str}{sel:List Nat}{wi:TI}{i0:Nat}{tt:TT}{wi1:TI}{i1:Nat}{tt1:TT}{te:TE}
 (hN:X.N.Nodup) (hix:X.N[i]? =some x) (hx:Loc X.env.scope x)
 (S:CompOk X.env.scope X.N own sel scope) (hc:X.calm=true) (hi:PI X tg iter wi) (h01:i0≠i1/\i0<own.length/\i1<own.length) (hg:∀cl C s2 H2 fp,PG (BN X own sel scope cl C s2 H2 fp) tg (Aw i0))
 (ht:∀cl C s2 H2 fp,PIf (BN X own sel scope cl C s2 H2 fp) ifs tt) (hi1:∀cl C s2 H2 fp,PI (BN X own sel scope cl C s2 H2 fp) tg1 iter1 wi1) (hg1:∀cl C s2 H2 fp,PG (BN X own sel scope cl C s2 H2 fp) tg1 (Aw i1)) (ht1:∀cl C s2 H2 fp,PIf (BN X own sel scope cl C s2 H2 fp) ifs1 tt1) (he:∀cl C s2 H2 fp,PE (BN X own sel scope cl C s2 H2 fp) elt te)
 (hs:∀x,foldedSetIterable iter X.env x=pure x:=by intro _;rfl) (hs1:∀cl C s2 H2 fp x,foldedSetIterable iter1 (BN X own sel scope cl C s2 H2 fp).env x=pure x:=by intro _ _ _ _ _ _;rfl)
 (hsw:swapsWith (.ListComp elt [⟨tg,iter,ifs,0⟩,⟨tg1,iter1,ifs1,0⟩] scope pos) (some (.Name x pos')) spos.line X.env=pure true:=by rfl)
 (hf:X.fn x=true\/X.env.scope.names.lookup x=some .local:=by first|exact .inl rfl|exact .inr rfl|assumption):
 PS X (.Assign [.Name x pos'] (.ListComp elt [⟨tg,iter,ifs,0⟩,⟨tg1,iter1,ifs1,0⟩] scope pos) spos) (Bf (Fv own sel wi i0 tt wi1 i1 tt1 te) (Aw i)):=by
 intro pins s σ H D0 I h;rw[exec_Assign_Name_used _ _ _ _ hsw];refine wpAny_bind (wpAny_standAt (wpAny_bind ?_));show wpAny _ X.A (do let _<-comprehension (.ListComp elt [⟨tg,iter,ifs,0⟩,⟨tg1,iter1,ifs1,0⟩] scope pos) scope X.env _ (newList []) false (eval iter X.env) (some (assign (.Name x pos') X.env))) _ _ s;refine wpAny_bind (wpAny_mono (N5 (use:=some (assign (.Name x pos') X.env)) (Qo:=λ_ s'=>SP X pins D0 .next s') S hc hi h01 hg ht hi1 hg1 ht1 he hs hs1 I h λD C H' s' m I' hn f q=>?_) (λ_ s' hq=>wpAny_pure (wpAny_pure hq)) λ_ _ e=>e);show wpAny _ X.A (assign (.Name x pos') X.env (.ref D)) _ _ _;refine wpAny_assign_Name (E5 (v:=V.ref D) I' hN hix hx rfl (λs2 I2 ⟨a,k,ha⟩=>?_) hf);have haC:C≠a:=by
  rcases ha with rfl|ha
  ·exact f.nl
  ·exact Ne.symm (f.nc x a ha)
 exact⟨m,hn.sameBut k haC,λh' k'=>⟨_,H',I2.far f k',q⟩⟩
end
end L2
namespace L2
open PySem PySem.Spec PyProof.Rows BrR
section
variable{X:Cx}
def Vf(K:W.Frag):List V->Hp->VK->Prop:=λxs H Q=>∃ (a:Addr) (ns:List Int),xs=[.ref a]/\SqL K H a (ns.map V.int)/\Q (.bl (ns.any λn=>n !=0)) H
theorem PL(K:W.Frag)(hc:X.calm=true)(hK:X.K=K:=by rfl):CallR X (.builtin "any") (Vf K):=by
 subst hK;intro pins s σ H xs us Q I r ⟨a,ns,e,hq,q⟩;subst e;obtain⟨u,rfl,ru⟩:=vals1 r
 cases ru
 obtain⟨its,rv,pl,hz⟩:=I.list hq;obtain⟨ol,hol,_⟩:=id pl.isList;have hl:a<s.heap.objs.size:=Heap.lt_size hol;have hlen:=rv.length;rw[List.length_map]at hlen;refine call_any_walk (wpAny_pyIter_list pl.isList ⟨s.heap.objs.size,_,_,_,_,_,λi=>ns.getD i 0 !=0,rfl,Walks.list (A:=X.A.in1) (I.ok.hd hc) s.heap.objs.size a (Nat.ne_of_lt hl) its.toArray,⟨⟨_,Heap.get?_push_size _ rfl,rfl,rfl⟩,pl.isList.at λo e=>Heap.get?_push_of_some _ e⟩,?_,λh' tk kk=>?_⟩)
 ·intro i v s' Q' E' hv hQ';have hv':its[i]? =some v:=by simpa using hv
  have hi:i<ns.length:=by rw[hlen];exact(List.getElem?_eq_some_iff.mp hv').1
  obtain⟨w',e1,e2⟩:=rv.get (i:=i) (x:=V.int ns[i]) (by simp[hi]);rw[hv']at e1
  cases e1
  obtain⟨t,rfl⟩:=e2;have en:ns.getD i 0=ns[i]:=by simp[List.getD_eq_getElem?_getD,hi]
  simp only[en]at hQ';exact truthy_int hQ'
 ·have e:(List.range its.toArray.size).any (λi=>ns.getD i 0 !=0)=ns.any λn=>n !=0:=by
   rw[List.size_toArray,<-hlen,Bool.eq_iff_iff];simp only[List.any_eq_true,List.mem_range]
   constructor
   ·rintro⟨i,hi,h⟩;exact⟨ns[i],List.getElem_mem hi,by simpa[List.getD_eq_getElem?_getD,hi]using h⟩
   ·rintro⟨n,hn,h⟩;obtain⟨i,hi,rfl⟩:=List.mem_iff_getElem.mp hn;exact⟨i,hi,by simpa[List.getD_eq_getElem?_getD,hi]using h⟩
  rw[e];refine⟨.bl _,H,I.kept λb o z=>kk b o ?_ (Heap.get?_push_of_some _ z),rfl,q⟩;have:=Heap.lt_size z;intro zz;have hb:b=s.heap.objs.size:=by simpa using zz
  rw[hb]at this;exact absurd this (Nat.lt_irrefl _)
def A1{α:Type}:List α->List α
 |[]=>[]
 |[x]=>[x]
 |x::_::r=>x::A1 r
theorem HW{α:Type}:∀ (n:Nat) (a pre:List α),a.length<=n->((List.range ((a.length+1)/2)).map λk=>pre.length+2*k).filterMap (λj=>(pre++a)[j]?)=A1 a
 |_,[],pre,_=>by simp[A1]
 |_,[x],pre,_=>by simp[A1]
 |0,x::y::r,pre,h=>by simp at h
 |n+1,x::y::r,pre,h=>by
  have ih:=HW n r (pre++[x,y]) (by simp at h;lia);have e:((x::y::r).length+1)/2=(r.length+1)/2+1:=by simp;lia
  rw[e,List.range_succ_eq_map,List.map_cons,List.filterMap_cons];have e1:(pre++x::y::r)[pre.length+2*0]? =some x:=by simp
  rw[e1];simp only[List.map_map,A1];congr 1;rw[<-ih];have e2:((λk=>pre.length+2*k)∘Nat.succ)=λk=>(pre++[x,y]).length+2*k:=by
   funext k;simp;lia
  rw[e2,List.append_assoc]
  rfl
theorem Qg(n:Nat):sliceRange 0 (n:Int) 2=(List.range ((n+1)/2)).map λk=>0+2*k:=by
 unfold sliceRange;have e:(if(2:Int)>0 then(if(0:Int)<(n:Int)then((n:Int)-0+2-1)/2 else 0)else(if(0:Int)>(n:Int)then(0-(n:Int)-2-1)/(-2)else 0)).toNat=(n+1)/2:=by
  rw[if_pos (by decide)]
  split<;>lia
 simp only[e];refine List.map_congr_left λk hk=>?_;lia
theorem HF:∀ (n:Nat) {xs:List V} {us:List Value},xs.length<=n->Vals xs us->Vals (A1 xs) (A1 us)
 |_,_,_,_, .nil=> .nil
 |_,_,_,_, .cons r .nil=> .cons r .nil
 |0,_,_,h, .cons r (.cons r2 rr)=>by simp at h
 |n+1,_,_,h, .cons r (.cons r2 rr)=> .cons r (HF n (by simp at h;lia) rr)
def LS(K:W.Frag)(te ts:TE):TE:=λσ H Q=>te σ H λx H1=>ts σ H1 λy H2=>y= .int 2/\∃p xs,x= .ref p/\SqL K H2 p xs/\∀r,H2 r=none->Q (.ref r) (upd H2 r (.lst (A1 xs)))
theorem IA{α:Type}:∀ (n:Nat) (a:List α),a.length<=n->(A1 a).length<=a.length
 |_,[],_=>Nat.le_refl _
 |_,[x],_=>Nat.le_refl _
 |0,x::y::r,h=>by simp at h
 |n+1,x::y::r,h=>by have:=IA n r (by simp at h;lia);simp[A1];lia
theorem TR(K:W.Frag){e st:Expr}{te ts:TE}{p2 pos:Pos}(he:PE X e te)(hs:PE X st ts)(hK:X.K=K:=by rfl):PE X (.Subscript e (.Slice none none (some st) p2) pos) (LS K te ts):=by
 subst hK;intro pins s σ H Q I h;refine Subscript_ (thn (he pins s σ H _ I h) λv s1 z_=>?_);obtain⟨x,H1,I1,r1,q1⟩:=z_;refine wpAny_Slice ?_;rw[evalPart_none];refine wpAny_pure (wpAny_pure ?_);rw[evalPart_some];refine thn (hs pins s1 σ H1 _ I1 q1) λu s2 z_=>?_;obtain⟨y,H2,I2,r2,q2⟩:=z_;obtain⟨rfl,q⟩:=q2;obtain⟨tk,rfl⟩:=r2;have I4:Inv X pins σ H2 {s2 with heap:=s2.heap.push {cls:= .type "slice",data:= .fields #[.none, .none, .int 2 tk]}}:=I2.kept (t':=s2.toks) λb ob q=>Heap.get?_push_of_some _ q;show wpAny (model X.prog X.w) X.A (subscriptTail e (.Slice none none (some st) p2) v (.ref s2.heap.objs.size)) (EP X pins σ Q) X.xe {s2 with heap:=s2.heap.push {cls:= .type "slice",data:= .fields #[.none, .none, .int 2 tk]}};obtain⟨p,xs,rfl,hx,q⟩:=q
 cases r1
 obtain⟨its,r,ht,hz⟩:=I4.list hx;have hlen:=r.length;refine tail_any (ops:=[.ref p, .ref s2.heap.objs.size]) ht.isList.typeIs slot_list_getitem.lookup ?_ (by with_unfolding_all rfl);refine wpAny_getItem_list_slice ht.isList (Heap.IsSliceOf.new ..) .none .none (.int 2 tk) (by simp) ?_ (by rw[List.size_toArray]<;>lia);have ep:slicePick its.toArray none none (some 2)=(A1 its).toArray:=by
  unfold slicePick;have e:sliceBounds none none (some 2) its.toArray.size=(0,(its.length:Int),2):=by rw[List.size_toArray];rfl
  rw[e];show((sliceRange 0 (its.length:Int) 2).filterMap _).toArray=_;rw[Qg];simp only[List.getElem?_toArray];congr 1;exact HW its.length its [] (Nat.le_refl _)
 rw[ep];refine⟨.ref _,_,I4.laid (o:= .lst (A1 xs)) (λb ob q=>Heap.get?_push_of_some _ q) (Nat.le_refl _) ?_,rfl,q _ (I4.hok.fresh (Nat.le_refl _))⟩;exact⟨Nat.le_trans (IA xs.length xs (Nat.le_refl _)) hz,_,0,HF xs.length (Nat.le_refl _) r,Heap.get?_push_size _ rfl⟩
end
end L2
namespace BrS
open L2 PySem BrM BrC BrR
variable{k:Nat}
end BrS
namespace L2
open PySem PySem.Spec PyProof.Rows BrR
section
variable{σ:St}{H:Hp}{Q:VK}{K:W.Frag}
theorem UV{te ts:TE}(h:te σ H λx H1=>ts σ H1 λy H2=>y= .int 2/\∃p xs,x= .ref p/\SqL K H2 p xs/\∀r,H2 r=none->Q (.ref r) (upd H2 r (.lst (A1 xs)))):LS K te ts σ H Q:=h
def Ko(J:It)(own:List Str)(sel:List Nat)(σ:St)(i0:Nat)(tt:TT)(wi1:TI)(i1:Nat)(tt1:TT)(te:TE)(Q:VK)(H1:Hp):Prop:=∀D,H1 D=none->
 ∃W:Nat->Nat->Hp->Prop,(∃m,W 0 m (upd H1 D (.lst [])))/\∀i m H2,W i m H2->
  (J.stop i H2/\Q (.ref D) H2)\/(J.go i H2/\∀x H3,J.yld i H2 x H3->tt ((AT own sel σ).set i0 (some x)) H3 λb H5=>
    if b=true then Dn D wi1 i1 tt1 te ((AT own sel σ).set i0 (some x)) H5 λH'=>∃m',m'<m/\W (i+1) m' H'
    else∃m',m'<m/\W (i+1) m' H5)
theorem Q6{own:List Str}{sel:List Nat}{wi:TI}{i0:Nat}{tt:TT}{wi1:TI}{i1:Nat}{tt1:TT}{te:TE}(h:wi σ H λJ H1=>Ko J own sel σ i0 tt wi1 i1 tt1 te Q H1):Fv own sel wi i0 tt wi1 i1 tt1 te σ H Q:=h
theorem O7{lo:Int}{n:Nat}{own:List Str}{sel:List Nat}{i0:Nat}{tt:TT}{wi1:TI}{i1:Nat}{tt1:TT}{te:TE}(f:Nat->List V)
 (hst:∀D H',H D=none->Same H H'->H' D=some (.lst ((List.range n).flatMap f))->Q (.ref D) H')
 (hs:∀ (D:Addr) (i:Nat) (H':Hp) (N:Hp->Prop),H D=none->i<n->Same H H'->H' D=some (.lst ((List.range i).flatMap f))->(∀H6,Same H H6->H6 D=some (.lst ((List.range i).flatMap f++f i))->N H6)->
   tt ((AT own sel σ).set i0 (some (.int (lo+i)))) H' λb H5=>if b=true then Dn D wi1 i1 tt1 te ((AT own sel σ).set i0 (some (.int (lo+i)))) H5 N else N H5):Ko (Itr lo n) own sel σ i0 tt wi1 i1 tt1 te Q H:=by
 intro D hD;refine⟨λi m H'=>m=n-i/\i<=n/\H' D=some (.lst ((List.range i).flatMap f))/\Same H H',⟨_,rfl,Nat.zero_le _,by rw[AF];rfl,AI hD _⟩,?_⟩;rintro i m H2 ⟨rfl,hi,hy,sH⟩
 by_cases hlt:i<n
 ·refine .inr ⟨hlt,λx H3 y=>?_⟩;obtain⟨rfl,rfl⟩:=y;refine hs D i H3 _ hD hlt sH hy λH6 s6 h6=>⟨n-(i+1),by lia,rfl,hlt,?_,s6⟩;rw[h6,List.range_succ,List.flatMap_append];simp
 ·have e:i=n:=by lia
  subst e;exact .inl ⟨Nat.le_refl _,hst D H2 hD sH hy⟩
theorem Ou{a D:Addr}{xs ys:List V}{i1:Nat}{te:TE}{N:Hp->Prop}(f:V->V)(ha:H a=some (.lst xs))(hne:a≠D)(hy:H D=some (.lst ys))(hb:ys.length+xs.length<=sizeLine)
 (hs:∀ (i:Nat) (x:V) (H':Hp) (R:V->Hp->Prop),xs[i]? =some x->SameBut1 D H H'->R (f x) H'->te (σ.set i1 (some x)) H' R)
 (fin:∀H6,SameBut1 D H H6->H6 D=some (.lst (ys++xs.map f))->N H6):
 ∃W:Nat->Nat->Hp->Prop,(∃m,W 0 m H)/\∀i m H2,W i m H2->
  ((Itl K a).stop i H2/\N H2)\/((Itl K a).go i H2/\∀x H3,(Itl K a).yld i H2 x H3->tYes (σ.set i1 (some x)) H3 λb H5=>
    if b=true then te (σ.set i1 (some x)) H5 λv H6=>∃ys,H6 D=some (.lst ys)/\ys.length<sizeLine/\∃m',m'<m/\W (i+1) m' (upd H6 D (.lst (ys++[v])))
    else∃m',m'<m/\W (i+1) m' H5):=by
 refine⟨λi m H'=>m=xs.length-i/\i<=xs.length/\H' D=some (.lst (ys++(xs.take i).map f))/\SameBut1 D H H',⟨_,rfl,Nat.zero_le _,by rw[hy];simp,SameBut1.refl _ _⟩,?_⟩;rintro i m H2 ⟨rfl,hi,h2,s2⟩;have q:SqL K H2 a xs:=SqL.of (s2 _ _ ha hne)
 by_cases hlt:i<xs.length
 ·refine .inr ⟨⟨xs,xs[i],q,List.getElem?_eq_getElem hlt⟩,λx H3 y=>?_⟩;obtain⟨rfl,hx⟩:=y;have hx':=hx _ q;refine Kw ?_;rw[if_pos rfl];refine hs i x H3 _ hx' s2 ⟨_,h2,by simp;lia,xs.length-(i+1),by lia,rfl,hlt,?_,s2.trans SameBut1.upd⟩;rw[AF,List.take_add_one,hx'];simp
 ·have e:i=xs.length:=by lia
  subst e;rw[List.take_length]at h2;exact .inl ⟨⟨_,q,Nat.le_refl _⟩,fin H2 s2 h2⟩
end
end L2
namespace BrS
open L2 PySem BrM BrC BrR
inductive spMayOpen (K:W.Frag) (vs:List V) (H:Hp) (Q:VK) (E:XK):Prop
 |mk (p:Addr) (l:List Int) (_:vs=[.ref p]) (_:H p=some (iL l)) (_:∀H',Same H H'->Q (.bl ((A1 l).any λn=>n !=0)) H')
theorem Hy{α β:Type}(f:α->β):∀ (n:Nat) (l:List α),l.length<=n->A1 (l.map f)=(A1 l).map f
 |_,[],_=>rfl
 |_,[x],_=>rfl
 |0,x::y::r,h=>by simp at h
 |n+1,x::y::r,h=>by simp only[List.map_cons,A1];rw[Hy f n r (by simp at h;lia)]
theorem Iu(f:Nat->List Int)(n:Nat):(List.range n).flatMap (λi=>(f i).map V.int)=((List.range n).flatMap f).map V.int:=by rw[List.map_flatMap]
structure PlA (H H':Hp) (r:Addr) (ad:Nat->Addr) (L:List (List Int)):Prop where
 fr:H r=none
 fa:∀i,i<L.length->H (ad i)=none
 top:H' r=some (.lst ((List.range L.length).map λi=>V.ref (ad i)))
 row:∀i,i<L.length->H' (ad i)=some (iL (L.getD i []))
 sm:Same H H'
theorem PlA.pls{H H':Hp}{r:Addr}{ad:Nat->Addr}{L:List (List Int)}(h:PlA H H' r ad L):Pls H' r L:=⟨ad,h.top,h.row⟩
theorem PlA.push{H H' H2:Hp}{r p:Addr}{ad:Nat->Addr}{L:List (List Int)}{ns:List Int}(h:PlA H H' r ad L)(s:Same H' H2)(hp:H' p=none)(gp:H2 p=some (iL ns)):
 PlA H (upd H2 r (.lst (((List.range L.length).map λi=>V.ref (ad i))++[V.ref p]))) r (λi=>if i<L.length then ad i else p) (L++[ns]):=by
 have nr:p≠r:=λz=>by rw[z,h.top]at hp;cases hp
 have na:∀i,i<L.length->ad i≠r:=λi hi z=>by
  have h1:=h.row i hi;rw[z,h.top]at h1;injection h1 with h1
  injection h1 with h1
  have h2:=congrArg List.length h1;simp only[List.length_map,List.length_range]at h2;have h3:((List.range L.length).map λi=>V.ref (ad i))[0]? =((L.getD i []).map V.int)[0]? :=by rw[h1]
  rw[List.getElem?_map,List.getElem?_map,List.getElem?_range (by lia),List.getElem?_eq_getElem (by lia)]at h3;simp at h3
 refine⟨h.fr,λi hi=>?_,?_,λi hi=>?_,λb o z=>?_⟩
 ·by_cases c:i<L.length
  ·rw[if_pos c];exact h.fa i c
  ·rw[if_neg c];exact h.sm.free hp
 ·rw[AF,List.length_append,List.length_singleton,List.range_succ,List.map_append];have e1:((List.range L.length).map λi=>V.ref (if i<L.length then ad i else p))=(List.range L.length).map λi=>V.ref (ad i):=List.map_congr_left λi hi=>by rw[if_pos (List.mem_range.mp hi)]
  rw[e1];simp
 ·by_cases c:i<L.length
  ·simp only[if_pos c];rw[AG (na i c),s _ _ (h.row i c),List.getD_eq_getElem?_getD,List.getD_eq_getElem?_getD,List.getElem?_append_left c]
  ·have e:i=L.length:=by simp at hi;lia
   subst e;simp only[Nat.lt_irrefl,if_false];rw[AG nr,gp,List.getD_eq_getElem?_getD,List.getElem?_append_right (Nat.le_refl _)];simp
 ·rw[AG (AQ z h.fr)];exact s _ _ (h.sm b o z)
end BrS
namespace BrC
variable{P:Nat->Nat->Int}{k:Nat}
end BrC
namespace L2
open PySem PySem.Spec PyProof.Rows BrR
section
variable{σ:St}{H:Hp}{Q:VK}{K:W.Frag}
end
end L2
namespace BrS
open L2 PySem BrM BrC BrR
end BrS
namespace L2
open PySem PySem.Spec PyProof.Rows
section
variable{X:Cx}
section
variable{σ:St}{H:Hp}{Q:VK}{K:W.Frag}
end
end
end L2
namespace BrS
open L2 PySem BrM BrC BrR
end BrS
namespace L2
open PySem PySem.Spec PyProof.Rows
section
variable{X:Cx}
theorem Mu{prog:Program}{w:World}{A:Around}{E:Value->Shared->Prop}{s:Shared}{d:Addr}{vs:List (Key×Value)}{ep:Nat}{R:List Value->Shared->Prop}(hd:(d==sysModules)=false)(hh:A.handled=none)
 (hat:s.heap.DictAt (Au prog w) d vs ep) (hn:vs.length<=sizeLine)
 (q:∀h' tk ys,s.heap.objs.size<=h'.objs.size->(∀b o,s.heap.get? b=some o->h'.get? b=some o)->ys.length=vs.length->(∀ (j:Nat) (v:Value),ys[j]? =some v->∃k x,vs[j]? =some (k,x)/\(Au prog w).is k v=true)->R ys {s with heap:=h',toks:=tk}):
 wpAny (model prog w) A (collect (.ref d)) R E s:=by
 have src:=W.kdl_dict (knd:=Au prog w) (kvs:=vs) (ep:=ep) hd;have hlt:=(src.there _ hat).1;unfold collect;refine wpAny_bind (wpAny_runValue (codeAny_builtin F.entry_proto_collect ?_));rw[Around.under_plainId F.plain_proto_collect _];show wpAny _ A.in1 (newList []>>=λl=>again (.builtin "list.__iadd__" ⟨[l, .ref d],[]⟩)) _ _ s;refine wpAny_bind (wpAny_newObj_type (wpAny_pure ⟨plainId_quiet F.plain_list_iadd _,codeAny_builtin F.entry_list_iadd ?_⟩));rw[Around.under_plainId F.plain_list_iadd _];have gL:(s.heap.push {cls:= .type "list",data:= .seq ([]:List Value).toArray}).get? s.heap.objs.size=some {cls:= .type "list",data:= .seq #[]}:=Heap.get?_push_size _ rfl;show wpAny _ A.in1 (Builtin.List.listExtendWith (.ref s.heap.objs.size) (.ref d) (.ref s.heap.objs.size)) _ _ _
 let R0:Result->Shared->Prop:=λr s'=>∃h' tk acc c,r= .ok (.ret (.ref s.heap.objs.size))/\s'={s with heap:=h',toks:=tk}/\(∀b o,s.heap.get? b=some o->h'.get? b=some o)/\
  h'.get? s.heap.objs.size=some {cls:= .type "list",dict:=none,data:= .seq acc c,slots:= #[]}/\ItemsOf (λi v=>∃k x,vs[i]? =some (k,x)/\(Au prog w).is k v=true) acc vs.length
 refine wpAny_mono (W.kdl_extend (A:=A) (s:={s with heap:=s.heap.push {cls:= .type "list",data:= .seq ([]:List Value).toArray}}) (R:=R0) src hh (src.keep _ _ hat λb _ o e=>Heap.get?_push_of_some _ e)
  s.heap.objs.size (Nat.ne_of_gt hlt) (Nat.ne_of_gt hlt) (.ref s.heap.objs.size) 0 gL
  (λh' tk acc c hk hS ha=>⟨h',tk,acc,c,rfl,rfl,λb o e=>hk b o (Nat.ne_of_lt (Heap.lt_size e)) (Heap.get?_push_of_some _ e),hS,ha⟩) hn) (λfin s' x=>?_) λe s' x=>?_
 ·cases fin with
  |done f=>
   obtain⟨h',tk,acc,c,e,rfl,hk,hS,ha⟩:=x
   cases e
   refine wpAny_bind (wpAny_load hS (wpAny_pure (q h' tk acc.toList (Nat.le_of_lt (Heap.lt_size hS)) hk (by rw[Array.length_toList];exact ha.1) λj v hv=>ha.2 j v (by rw[<-Array.getElem?_toList];exact hv))))
  |again c1=>
   refine⟨x.1,codeAny_mono x.2 λr s2 y=>?_⟩;obtain⟨h',tk,acc,c,rfl,rfl,hk,hS,ha⟩:=y;refine wpAny_bind (wpAny_load hS (wpAny_pure (q h' tk acc.toList (Nat.le_of_lt (Heap.lt_size hS)) hk (by rw[Array.length_toList];exact ha.1) λj v hv=>ha.2 j v (by rw[<-Array.getElem?_toList];exact hv))))
 ·obtain⟨_,_,_,_,e',_⟩:=x
  cases e'
end
end L2
namespace L2
open PySem PySem.Spec PyProof.Rows BrM
theorem Ha:∀ {us:List Value} {ss:List Str},StrsAre us ss->Vals (ss.map λx=>tx x.cps.toList) us
 |_,_, .nil=> .nil
 |_,_, .cons x t h=> .cons ⟨t,rfl⟩ (Ha h)
theorem StrsAre.at{ks:List Str}:∀ {vs:List Value},vs.length=ks.length->(∀ (j:Nat) (v:Value),vs[j]? =some v->∃ (k:Str) (t:Tok),ks[j]? =some k/\v= .str k t)->StrsAre vs ks:=by
 induction ks with
 |nil=>intro vs h _;match vs,h with|[],_=>exact .nil
 |cons k ks ih=>
  intro vs h hp
  match vs,h with
  |v::vs,h=>
   obtain⟨k2,t,e,ev⟩:=hp 0 v rfl
   cases e
   subst ev;exact .cons k t (ih (by simpa using h) λj v hv=>hp (j+1) v hv)
section
variable{X:Cx}
def TC(K:W.Frag):List V->Hp->VK->Prop:=λxs H Q=>∃ (d:Addr) (kvs:List (Key×V)) (ss:List Str),xs=[.ref d]/\Rd H d (.dK kvs)/\kvs.map (·.1)=ss.map Sum.inr/\ss.length<64/\
 ∀ (p:Addr) (ts:List Str),H p=none->ts.Perm ss->sortedS ts=true->Q (.ref p) (upd H p (.lst (ts.map λx=>tx x.cps.toList)))
theorem HY(K:W.Frag)(hc:X.calm=true)(hK:X.K=K:=by rfl):CallR X (.builtin "sorted") (TC K):=by
 subst hK;intro pins s σ H xs us Q I rv ⟨d,kvs,ss,e,hD,hks,h64,q⟩;subst e;obtain⟨u,rfl,ru⟩:=rv.one
 cases ru
 obtain⟨z,hd,vs,rel,dd⟩:=DM I.hok hD;obtain⟨ep,hat⟩:=dd.dictAt;have hkl:kvs.length=ss.length:=by have:=congrArg List.length hks;simpa using this
 have hvl:vs.length=ss.length:=by rw[<-rel.length];exact hkl
 have hkeys:=rel.keys;refine Calls.call_function_entry kind_sorted plain_sorted entry_sorted (args_sorted1 _) ?_;unfold Builtin.«sorted»;refine wpAny_bind (m:=checkCount "sorted" 1 1 _) (wpAny_pure ?_);refine wpAny_bind (Mu (A:=X.A.in1) hd (I.ok.hd hc) hat (by rw[sizeLine_eq];lia) λh' tk ys hle hk hyl0 hacc=>?_);have hal:ys.length=ss.length:=by rw[hyl0,hvl]
 have hI:StrsAre ys ss:=StrsAre.at hal λj v hv=>by
  obtain⟨k,x,hx,hkk⟩:=hacc j v hv;have h1:(vs.map (·.1))[j]? =some k:=by rw[List.getElem?_map,hx];rfl
  rw[<-hkeys,hks,List.getElem?_map]at h1;obtain⟨kz,h2,h3⟩:=Option.map_eq_some_iff.mp h1;subst h3;obtain⟨t,et⟩:=(UB hkk:∃t,v=Value.str kz t);exact⟨kz,t,h2,et⟩
 have hyl:ys.length<64:=by lia
 refine wpAny_bind (wpAny_newList ?_ (by rw[sizeLine_eq];lia));have gL:(h'.push (seqObj "list" ys.toArray 0)).get? h'.objs.size=some (seqObj "list" ys.toArray 0):=Heap.get?_push_size _ rfl;refine wpAny_bind (wpAny_holding (wpAny_call_entry slot_list_sort ⟨_,gL,rfl⟩ entry_list_sort (list_sort_treeK strKind_oneLt gL hI.keysOf (λv₁ v₂ rest e=>keyKind_strs (by rw[<-e];exact hI)) hyl λst' hp hs=>⟨_,rfl,?_⟩) (args_list_sort _)));obtain⟨ts,a1,a2,a3⟩:=sorted_out_str hI hp hs;generalize(arrOf st').map (·.2)=out at a1⊢;refine wpAny_pure ⟨_,rfl,?_⟩;obtain⟨e,he⟩:=sortedHeap_at (out:=out) gL;have hb:∀b o,s.heap.get? b=some o->b<h'.objs.size:=λb o z=>Heap.lt_size (hk b o z);have kp2:∀b o,s.heap.get? b=some o->(sortedHeap (h'.push (seqObj "list" ys.toArray 0)) h'.objs.size ys out).get? b=some o:=λb o z=>by
  have hb:=hb b o z;rw[sortedHeap_old (Nat.ne_of_lt hb) (by rw[size_push'];exact Nat.lt_succ_of_lt hb)];exact Heap.get?_push_of_some _ (hk b o z)
 have hln:ts.length<=63:=by rw[a2.length_eq];lia
 refine⟨.ref h'.objs.size,_,I.laid (t':=tk) (o:= .lst (ts.map λx=>tx x.cps.toList)) kp2 hle ⟨?_,out.toList,e,Ha a1,by rw[Array.toArray_toList];exact he⟩,rfl,q _ ts (I.hok.fresh hle) a2 a3⟩;rw[List.length_map,sizeLine_eq];lia
end
end L2
namespace L2
open PySem PySem.Spec PyProof.Rows
def B9(c:List Nat):List (List Nat)->List Nat
 |[]=>[]
 |[a]=>a
 |a::b::r=>a++c++B9 c (b::r)
theorem Hs(c:List Nat):∀ (xss:List (List Nat)),Str.join ⟨c.toArray⟩ (xss.map λa=>⟨a.toArray⟩)=⟨(B9 c xss).toArray⟩
 |[]=>rfl
 |[a]=>by simp[Str.join,B9]
 |a::b::r=>by
  have ih:=Hs c (b::r);rw[List.map_cons,List.map_cons]at*
  show(⟨a.toArray⟩:Str)++⟨c.toArray⟩++Str.join ⟨c.toArray⟩ (⟨b.toArray⟩::r.map λa=>⟨a.toArray⟩)=_;rw[ih];show(⟨a.toArray++c.toArray++(B9 c (b::r)).toArray⟩:Str)=_;simp[B9]
section
variable{X:Cx}
def KQ(K:W.Frag):V->List V->Hp->VK->Prop:=λx vs H Q=>∃ (p:Addr) (c:List Nat) (xss:List (List Nat)),x=tx c/\c.length<=16/\vs=[.ref p]/\SqL K H p (xss.map tx)/\xss.flatten.length+xss.length<=1000000/\Q (tx (B9 c xss)) H
theorem QA(K:W.Frag)(hK:X.K=K:=by rfl):MtR X "str.join" (KQ K):=by
 subst hK;intro pins s σ H x vs v us Q I rx rv h;obtain⟨p,c,xss,rfl,hc,rfl,hq,hw,q⟩:=h;obtain⟨t,rfl⟩:=rx;obtain⟨u,rfl,ru⟩:=rv.one
 cases ru
 obtain⟨its,r,ht,hz⟩:=I.list hq;have hs:((xss.map λa=>(⟨a.toArray⟩:Str)).map (·.length)).sum=xss.flatten.length:=by
  rw[List.map_map,List.length_flatten];congr 1
 refine join_listW ht.isList (JP r) (by rw[Az];exact hc) (by rw[hs,List.length_map];lia) λt' k=>?_;have e:Txt.join ⟨c.toArray⟩ (xss.map λa=>⟨a.toArray⟩)=⟨(B9 c xss).toArray⟩:=by
  show Builtin.Str.glued _ _=_;rw[StrLaws.glued_eq_join,Hs]
 rw[e];exact⟨tx (B9 c xss),H,I.tok k,⟨t',rfl⟩,q⟩
theorem Qv{K:W.Frag}{H:Hp}{Q:VK}{p:Addr}{c:List Nat}{xss:List (List Nat)}(hc:c.length<=16)(hq:SqL K H p (xss.map tx))(hw:xss.flatten.length+xss.length<=1000000)(h:Q (tx (B9 c xss)) H):KQ K (tx c) [.ref p] H Q:=⟨p,c,xss,rfl,hc,rfl,hq,hw,h⟩
def Aj(n:Nat):List Nat:=(Nat.toDigits 10 n).map Char.toNat
theorem Fk(m:Nat):PySem.Str.ofString (toString ((m:Nat):Int))=⟨(Aj m).toArray⟩:=by
 have h:=W.KIN.signs_num m
 cases e:PySem.Str.ofString (toString ((m:Nat):Int))with
 |mk cps=>
  rw[e]at h;congr 1;apply Array.toList_inj.mp;rw[h];rfl
def rIntT:List V->Hp->VK->Prop:=λxs H Q=>∃n:Nat,xs=[tx (Aj n)]/\n<10^10/\Q (.int (n:Nat)) H
theorem IF:CallR X (.type "int") rIntT:=by
 intro pins s σ H xs us Q I rv ⟨n,e,hn,q⟩;subst e;obtain⟨u,rfl,t,rfl⟩:=rv.one;have e:(⟨(Aj n).toArray⟩:Str)=PySem.Str.ofString (toString ((n:Nat):Int)):=(Fk n).symm;show wpAny _ _ (call (.type "int") [.str ⟨(Aj n).toArray⟩ t]) _ _ _;rw[e];exact W.KIN.call_num (by lia) (by lia) ⟨.int (n:Nat),H,I.tok _,⟨_,rfl⟩,q⟩
theorem F5{n:Nat}{H:Hp}{Q:VK}(hn:n<10^10)(q:Q (.int (n:Nat)) H):rIntT [tx (Aj n)] H Q:=⟨n,rfl,hn,q⟩
theorem Jj{k:Nat}{C:Addr}{ps:List Str}{sp:Sp}{x:Str}{p pos:Pos}(U:MkU X.prog X.w X.K X.mg X.base k C ps sp)(hr:Room k X.A)(hm:X.mg x=some (.ref C))(hg:Gl X x:=by rfl)(hdb:(x==("__debug__":Str))=false:=by decide):PE X (.Call (.Name x p) [] [] pos) (Dt C sp [] E0 tNil):=
 let⟨_,_,_,hi,F,M,hb⟩:=U.ex;Px M F (hr.mono hi) hg hm hb .nil Ef hdb
end
section
variable{σ:St}{H:Hp}{Q:VK}{td ty:TE}
theorem Sv(h:td σ H λx H1=>∃a,x= .ref a/\IsD H1 a/\ty σ H1 λy H2=>∃kvs k v,H2 a=some (.dK kvs)/\y=kV k/\AR kvs k=some v/\Q v (upd H2 a (.dK (Cc kvs k)))):KJ td ty σ H Q:=h
end
theorem P8(n:Nat):∀c∈Aj n,48<=c/\c<=57:=by
 intro c hc;obtain⟨ch,hch,e⟩:=List.mem_map.mp hc;have r:=digit_range (Nat.isDigit_of_mem_toDigits (by decide) (by decide) hch);rw[<-e];exact r
theorem Ez{n:Nat}(h:n<10):Aj n=[48+n]:=by
 unfold Aj;rw[Nat.toDigits_of_lt_base h];have:∀d:Nat,d<10->(Nat.digitChar d).toNat=48+d:=by decide
 simp[this n h]
theorem Ob{n:Nat}(h:10<=n):Aj n=Aj (n/10)++Aj (n%10):=by
 have hm:n%10<10:=Nat.mod_lt n (by decide);have t:Nat.toDigits 10 (n/10)++Nat.toDigits 10 (n%10)=Nat.toDigits 10 (10*(n/10)+n%10):=Nat.toDigits_append_toDigits (by decide) (by lia) hm;rw[Nat.div_add_mod]at t;unfold Aj;rw[<-t,List.map_append]
theorem Ik:∀ (m n:Nat),n<10^(m+1)->(Aj n).length<=m+1:=by
 intro m
 induction m with
 |zero=>intro n h;rw[Ez (by lia)];simp
 |succ m ih=>
  intro n h
  by_cases hn:n<10
  ·rw[Ez hn];simp
  ·rw[Ob (by lia),List.length_append,Ez (Nat.mod_lt n (by decide))];have:=ih (n/10) (by rw[Nat.pow_succ]at h;lia);simp only[List.length_cons,List.length_nil];lia
end L2
namespace BrB
open BrM BrC
def cl:List Nat->Nat->Option (List Nat)
 |[],_=>none
 |p::s,q=>if p=q then some s else none
def nx(k:Nat)(st:List Nat)(b:Nat):Option (List Nat):=if b<2*k then(if b%2=0 then some (b/2::st)else cl st (b/2))else none
def go(k:Nat):List Nat->List Nat->Option (List Nat)
 |st,[]=>some st
 |st,b::r=>(nx k st b).bind λs=>go k s r
abbrev O:=Option (Int×List Nat)
def lik:O->O->O
 |none,b=>b
 |some a,none=>some a
 |some (x,l),some (y,m)=>if x=y then(if l<m then some (x,l)else some (y,m))else if x>y then some (x,l)else some (y,m)
def beh:O->O->O
 |some (x,l),some (y,m)=>some (x*y,l++m)
 |_,_=>none
def rnd:O->O->O
 |some (x,l),some (y,m)=>some (x*y,[l.getD 0 0]++m++[l.getD 1 0])
 |_,_=>none
end BrB
namespace PySem.SeqAt
open AutoSeq1 (wpAny_loadPart')
open MeetsSeq MeetsSeq2 MeetsSeq3 SeqRoads2
theorem Oh(l b:Addr)(items items2:Array Value)(n n2:Nat)(dd dd2:Option Addr)(sl sl2:Array (Option Value))(e:Nat->Bool)(j:Nat)(x y:Int)(t u:Tok)(h1:items[j]? =some (.int x t))(h2:items2[j]? =some (.int y u))(hj:e j=false)(k:Nat):
 ∀i:Nat,j-i=k->i<=j->(∀m,i<=m->m<j->e m=true)->Meets (Builtin.«list.__eq__.loop» ⟨[.ref l, .ref b,rawInt i,rawInt 0],[]⟩)
  (λA R s=>s.heap.get? l=some {cls:= .type "list",dict:=dd,data:= .seq items n,slots:=sl}/\s.heap.get? b=some {cls:= .type "list",dict:=dd2,data:= .seq items2 n2,slots:=sl2}/\
    (∀j (h1:j<items.size) (h2:j<items2.size),EqAt A.in1 s items[j] items2[j] (e j))/\
    R (.ok (.ret (.bool (decide (x<y))))) s):=by
 have q1:j<items.size:=(Array.getElem?_eq_some_iff.mp h1).1;have q2:j<items2.size:=(Array.getElem?_eq_some_iff.mp h2).1
 induction k with
 |zero=>
  intro i hk hle hno prog w A R s h;obtain⟨hp,g,d,tk,os⟩:=s;obtain⟨hl,hb,he,h⟩:=h;have:i=j:=by lia
  subst this
  wp_walk using wpAny_loadPart' hl,wpAny_loadPart' hb
  have hi1:items[((i:Nat):Int).toNat]? =some (.int x t):=by simpa using h1
  have hi2:items2[((i:Nat):Int).toNat]? =some (.int y u):=by simpa using h2
  have g1:items[i]= .int x t:=(Array.getElem?_eq_some_iff.mp h1).2;have g2:items2[i]= .int y u:=(Array.getElem?_eq_some_iff.mp h2).2;rw[hi1,hi2];have hei:=he i q1 q2;rw[g1,g2]at hei;refine wpAny_bind (hei prog w _ _ ?_);rw[hj]
  wp_walk using wpAny_loadPart' hl,wpAny_loadPart' hb
  rw[hi1,hi2];show wpAny _ _ (compareOp .Lt (.int x t) (.int y u)>>=_) _ _ _;refine wpAny_bind (PyProof.Rows.lt_int ?_);exact wpAny_pure h
 |succ k ih=>
  intro i hk hle hno prog w A R s h;obtain⟨hp,g,d,tk,os⟩:=s;obtain⟨hl,hb,he,h⟩:=h
  wp_walk using wpAny_loadPart' hl,wpAny_loadPart' hb
  have hlt:i<items.size:=by lia
  have hlt2:i<items2.size:=by lia
  have hi1:items[((i:Nat):Int).toNat]? =some items[i]:=by simp[hlt]
  have hi2:items2[((i:Nat):Int).toNat]? =some items2[i]:=by simp[hlt2]
  have hc:((i:Int)+1)=((i+1:Nat):Int):=by push_cast;rfl
  rw[hi1,hi2];refine wpAny_bind (he i hlt hlt2 prog w _ _ ?_);rw[hno i (Nat.le_refl _) (by lia)]
  wp_walk
  rw[hc];exact⟨plainId_quiet plain_eq_loop _,codeAny_builtin entry_eq_loop (by
   rw[Around.under_plainId plain_eq_loop _];exact ih (i+1) (by lia) (by lia) (λm a b=>hno m (by lia) b) prog w A R _ ⟨hl,hb,he,h⟩)⟩
theorem Oj(l b:Addr)(items items2:Array Value)(n n2:Nat)(dd dd2:Option Addr)(sl sl2:Array (Option Value))(e:Nat->Bool)(j:Nat)(x y:Int)(t u:Tok)(h1:items[j]? =some (.int x t))(h2:items2[j]? =some (.int y u))(hj:e j=false)(hno:∀m,m<j->e m=true):
 Meets (Builtin.«list.__lt__» ⟨[.ref l, .ref b],[]⟩)
  (λA R s=>s.heap.get? l=some {cls:= .type "list",dict:=dd,data:= .seq items n,slots:=sl}/\s.heap.get? b=some {cls:= .type "list",dict:=dd2,data:= .seq items2 n2,slots:=sl2}/\
    (∀j (h1:j<items.size) (h2:j<items2.size),EqAt A.in1 s items[j] items2[j] (e j))/\
    R (.ok (.ret (.bool (decide (x<y))))) s):=by
 intro prog w A R s h;obtain⟨hp,g,d,tk,os⟩:=s;obtain⟨hl,hb,he,h⟩:=h;have f3:=AutoSeq1.sub_list_list
 wp_walk using wpAny_loadPart' hl,wpAny_loadPart' hb
 exact⟨plainId_quiet plain_eq_loop _,codeAny_builtin entry_eq_loop (by
  rw[Around.under_plainId plain_eq_loop _];exact Oh l b items items2 n n2 dd dd2 sl sl2 e j x y t u h1 h2 hj _ 0 rfl (Nat.zero_le _) (λm _ b=>hno m b) prog w A R _ ⟨hl,hb,he,h⟩)⟩
section
variable{prog:Program}{w:World}{A:Around}{E:Value->Shared->Prop}{s:Shared}
theorem lt_listAt{l b:Addr}{items items2:Array Value}{e:Nat->Bool}{j:Nat}{x y:Int}{t u:Tok}{Q:Value->Shared->Prop}(hl:s.heap.IsList l items)(hb:s.heap.IsList b items2)(hu:A.units<cLine)
 (he:∀j (h1:j<items.size) (h2:j<items2.size),EqAt A.in1 s items[j] items2[j] (e j)) (h1:items[j]? =some (.int x t)) (h2:items2[j]? =some (.int y u)) (hj:e j=false) (hno:∀m,m<j->e m=true)
 (h:Q (.bool (decide (x<y))) s):wpAny (model prog w) A (compareOp .Lt (.ref l) (.ref b)) Q E s:=by
 obtain⟨⟨cls,dd,data,sl⟩,ho,hc,n,hd⟩:=id hl;obtain⟨⟨cls2,dd2,data2,sl2⟩,ho2,hc2,n2,hd2⟩:=id hb;simp only at hc hd hc2 hd2;subst hc hd hc2 hd2;show wpAny _ _ (richCompare .Lt (.ref l) (.ref b)) Q E s;exact richCompare_meets_room (op:= .Lt) ⟨_,ho,rfl⟩ ⟨_,ho2,rfl⟩ F.slot_list_lt F.entry_list_lt (F.args_list_lt_2 _ _) (Oj l b items items2 n n2 dd dd2 sl sl2 e j x y t u h1 h2 hj hno)
  ⟨ho,ho2,he,show Value.bool (decide (x<y))≠Value.notImplemented/\Q (.bool (decide (x<y))) s from⟨(λx=>nomatch x),h⟩⟩ hu
end
end PySem.SeqAt
namespace L2
open PySem PySem.Spec PyProof.Rows
theorem Im:∀ {bs cs:List Nat},bs.length=cs.length->bs≠cs->∃ (j b c:Nat),bs[j]? =some b/\cs[j]? =some c/\b≠c/\(b<c↔bs<cs)/\∀m,m<j->bs.getD m 0=cs.getD m 0
 |[],[],_,h=>absurd rfl h
 |b::bs,c::cs,hl,h=>by
  by_cases e:b=c
  ·subst e;obtain⟨j,x,y,h1,h2,h3,h5,h4⟩:=Im (bs:=bs) (cs:=cs) (by simpa using hl) (λz=>h (by rw[z]));refine⟨j+1,x,y,h1,h2,h3,?_,λm hm=>?_⟩
   ·rw[h5,List.cons_lt_cons_iff]
    constructor
    ·exact λz=> .inr ⟨rfl,z⟩
    ·rintro(z|⟨_,z⟩)
     ·exact absurd z (Nat.lt_irrefl _)
     ·exact z
   ·cases m with
    |zero=>rfl
    |succ m=>exact h4 m (by lia)
  ·refine⟨0,b,c,rfl,rfl,e,?_,λm hm=>by lia⟩;rw[List.cons_lt_cons_iff];exact⟨.inl,λz=>z.elim id λw=>absurd w.1 e⟩
abbrev nL(bs:List Nat):List V:=bs.map λb:Nat=>V.int (b:Int)
def Ve(K:W.Frag):R2:=λx y H Q=>∃a b bs cs,x= .ref a/\y= .ref b/\SqL K H a (nL bs)/\SqL K H b (nL cs)/\bs.length=cs.length/\bs≠cs/\Q (.bl (decide (bs<cs))) H
theorem Tf{X:Cx}(K:W.Frag)(hr:X.A.units<cLine)(hK:X.K=K:=by rfl):OpR X (compareOp .Lt) (Ve K):=by
 subst hK;intro pins s σ H x y v u Q I rx ry ⟨a,b,bs,cs,e1,e2,q1,q2,hl,hne,q⟩;subst e1 e2
 cases rx
 cases ry
 obtain⟨us,r1,p1,z1⟩:=I.list q1;obtain⟨ws,r2,p2,z2⟩:=I.list q2;obtain⟨j,m,n,h1,h2,h3,h5,h4⟩:=Im hl hne;have l1:=r1.length;have l2:=r2.length;rw[List.length_map]at l1 l2;obtain⟨u1,e1,t1,rfl⟩:=r1.get (i:=j) (x:= .int (m:Int)) (by rw[List.getElem?_map,h1];rfl);obtain⟨u2,e2,t2,rfl⟩:=r2.get (i:=j) (x:= .int (n:Int)) (by rw[List.getElem?_map,h2];rfl);have fl:∀bs:List Nat,(bs.map λb:Nat=>V.int (b:Int)).all Am=true:=λbs=>by rw[List.all_map,List.all_eq_true];intro _ _;rfl
 refine SeqAt.lt_listAt (e:=λi=>eqV ((bs.map λb:Nat=>V.int (b:Int)).getD i .non) ((cs.map λb:Nat=>V.int (b:Int)).getD i .non)) (j:=j) (x:=(m:Int)) (y:=(n:Int)) (t:=t1) (u:=t2) p1.isList p2.isList hr (ES r1 r2 (fl _) (fl _)) (by simpa using e1) (by simpa using e2) ?_ ?_ ?_
 ·show eqV _ _=false;rw[List.getD_eq_getElem?_getD,List.getD_eq_getElem?_getD,List.getElem?_map,List.getElem?_map,h1,h2];show decide ((m:Int)=(n:Int))=false;exact decide_eq_false (by lia)
 ·intro i hi;have g:=h4 i hi;have k1:j<bs.length:=(List.getElem?_eq_some_iff.mp h1).1;have k2:j<cs.length:=(List.getElem?_eq_some_iff.mp h2).1;have a1:bs[i]? =some (bs.getD i 0):=by rw[List.getD_eq_getElem?_getD,List.getElem?_eq_getElem (by lia)];rfl
  have a2:cs[i]? =some (cs.getD i 0):=by rw[List.getD_eq_getElem?_getD,List.getElem?_eq_getElem (by lia)];rfl
  show eqV _ _=true;rw[List.getD_eq_getElem?_getD,List.getD_eq_getElem?_getD,List.getElem?_map,List.getElem?_map,a1,a2,g];show decide (((cs.getD i 0:Nat):Int)=((cs.getD i 0:Nat):Int))=true;exact decide_eq_true rfl
 ·refine⟨.bl (decide (bs<cs)),H,I,?_,q⟩;show Value.bool (decide ((m:Int)<(n:Int)))=Value.bool (decide (bs<cs));congr 1;rw[decide_eq_decide,<-h5];lia
section
variable{X:Cx}
def VE(K:W.Frag)(n:Nat)(t:TGs):TG:=λv σ H Q=>∃a xs,v= .ref a/\SqL K H a xs/\xs.length=n/\t xs σ H Q
theorem RN(K:W.Frag){es:List Expr}{k:Nat}{t:TGs}{n:Nat}{pos:Pos}(hc:X.calm=true)(h:PGs X es t)
 (hn:(assignEach es X.env).length=n:=by rfl) (hst:(assignEach es X.env).findIdx? (·.1)=none:=by rfl) (hK:X.K=K:=by rfl):PG X (.Tuple es k pos) (VE K n t):=by
 subst hK;intro pins s σ H v u Q I r hw;obtain⟨a,xs,e1,hq,hl,hw⟩:=hw;subst e1
 cases r
 obtain⟨its,rv,ht,hz⟩:=I.list hq;have hln:=rv.length;rw[assign_Tuple];refine wpAny_bind (wpAny_standAt ?_);unfold unpack;rw[show(assignEach es X.env).length=its.toArray.size by rw[hn,List.size_toArray];lia,hst];refine wpAny_bind (wpAny_holding (W.kun_itemsOf (I.ok.hd hc) ht.isList λh' hx=>?_));have I1:Inv X pins σ H {s with heap:=h'}:=I.kept (t':=s.toks) λb o e=>hx b o (Nat.ne_of_lt (Heap.lt_size e)) e;exact h pins _ σ H xs _ Q I1 (by simpa using rv) hw
end
end L2
namespace BrS
open L2 PySem BrM BrC BrB
def Bt(F:Addr->Prop)(H:Hp)(v:V):O->Prop
 |none=>v= .non
 |some (w,l)=>∃T a,v= .ref T/\F T/\F a/\H T=some (.tup [.int w, .ref a])/\H a=some (.lst (nL l))
theorem Bt.keep{F:Addr->Prop}{H H':Hp}{v:V}{o:O}(h:Bt F H v o)(k:∀b x,F b->H b=some x->H' b=some x):Bt F H' v o:=by
 match o,h with
 |none,h=>exact h
 |some (w,l),⟨T,a,e,f1,f2,g1,g2⟩=>exact⟨T,a,e,f1,f2,k _ _ f1 g1,k _ _ f2 g2⟩
theorem Bt.same{F:Addr->Prop}{H H':Hp}{v:V}{o:O}(h:Bt F H v o)(s:Same H H'):Bt F H' v o:=h.keep λb x _ z=>s b x z
theorem Bt.imp{F G:Addr->Prop}{H:Hp}{v:V}{o:O}(h:Bt F H v o)(k:∀b x,F b->H b=some x->G b):Bt G H v o:=by
 match o,h with
 |none,h=>exact h
 |some (w,l),⟨T,a,e,f1,f2,g1,g2⟩=>exact⟨T,a,e,k _ _ f1 g1,k _ _ f2 g2,g1,g2⟩
abbrev Any:Addr->Prop:=λ_=>True
inductive spLikelier (vs:List V) (H:Hp) (Q:VK) (E:XK):Prop
 |mk (v1 v2:V) (o1 o2:O) (_:vs=[v1,v2]) (_:Bt Any H v1 o1) (_:Bt Any H v2 o2) (_:(∀w l x m,o1=some (w,l)->o2=some (x,m)->l.length=m.length/\l≠m)) (_:∀v H',Same H H'->((v=v1/\lik o1 o2=o1)\/(v=v2/\lik o1 o2=o2))->Q v H')
def Sz(o:O):Prop:=∀w l,o=some (w,l)->w.natAbs<big/\l.length<=40
inductive spRound (vs:List V) (H:Hp) (Q:VK) (E:XK):Prop
 |mk (v1 v2:V) (o1 o2:O) (_:vs=[v1,v2]) (_:Bt Any H v1 o1) (_:Bt Any H v2 o2) (_:(∀w l,o1=some (w,l)->l.length=2)) (_:Sz o1) (_:Sz o2) (_:∀v H',Same H H'->Bt (λb=>H b=none) H' v (rnd o1 o2)->Q v H')
inductive spBehindO (vs:List V) (H:Hp) (Q:VK) (E:XK):Prop
 |mk (v1 v2:V) (o1 o2:O) (_:vs=[v1,v2]) (_:Bt Any H v1 o1) (_:Bt Any H v2 o2) (_:Sz o1) (_:Sz o2) (_:∀v H',Same H H'->Bt (λb=>H b=none) H' v (beh o1 o2)->Q v H')
def rwv(n:Nat)(f:Nat->V):List V:=(List.range (n+1)).map f
theorem Jb(n:Nat)(f:Nat->V):(rwv n f).length=n+1:=by simp[rwv]
theorem RA{n j:Nat}{f:Nat->V}{v:V}:(rwv n f).set j v=rwv n (λx=>if x=j then v else f x):=by
 apply List.ext_getElem?;intro i;unfold rwv;rw[List.getElem?_set,List.getElem?_map,List.getElem?_map]
 by_cases e:j=i
 ·subst e
  by_cases hj:j<n+1
  ·rw[List.getElem?_range hj];simp[hj]
  ·rw[if_pos rfl,if_neg (by simpa using hj)];rw[List.getElem?_eq_none (by simpa using hj)];rfl
 ·rw[if_neg e]
  by_cases hi:i<n+1
  ·rw[List.getElem?_range hi];simp[Ne.symm e]
  ·rw[List.getElem?_eq_none (by simpa using hi)];rfl
structure Tv (H0 H1 H:Hp) (s:Addr) (ad:Nat->Addr) (n:Nat) (T:Nat->Nat->V):Prop where
 fs:H0 s=none
 fa:∀i,i<=n->H0 (ad i)=none
 ns:∀i,i<=n->ad i≠s
 inj:∀i j,i<=n->j<=n->ad i=ad j->i=j
 old:∀i,i<=n->H1 (ad i)≠none
 top:H s=some (.lst ((List.range (n+1)).map λi=>V.ref (ad i)))
 row:∀i,i<=n->H (ad i)=some (.lst (rwv n (T i)))
 sm:Same H0 H
 gr:∀b,H b=none->H1 b=none
section
variable{H0 H1 H H':Hp}{s:Addr}{ad:Nat->Addr}{n:Nat}{T T':Nat->Nat->V}
theorem Tv.same(t:Tv H0 H1 H s ad n T)(h:Same H H'):Tv H0 H1 H' s ad n T:=⟨t.fs,t.fa,t.ns,t.inj,t.old,h _ _ t.top,λi hi=>h _ _ (t.row i hi),t.sm.trans h,λb z=>t.gr b (h.free z)⟩
theorem Tv.at(t:Tv H0 H1 H s ad n T){i:Nat}(hi:i<=n):((List.range (n+1)).map λi=>V.ref (ad i))[i]? =some (.ref (ad i)):=by
 rw[List.getElem?_map,List.getElem?_range (by lia)];rfl
theorem Tv.set(t:Tv H0 H1 H s ad n T){i j:Nat}{v:V}(hi:i<=n):Tv H0 H1 (upd H (ad i) (.lst ((rwv n (T i)).set j v))) s ad n (λa b=>if a=i then(if b=j then v else T a b)else T a b):=by
 refine⟨t.fs,t.fa,t.ns,t.inj,t.old,by rw[AG (Ne.symm (t.ns i hi))];exact t.top,λa ha=>?_,λb o z=>?_,λb z=>?_⟩
 ·by_cases e:a=i
  ·subst e;rw[AF,RA];simp
  ·rw[AG (λz=>e (t.inj a i ha hi z)),t.row a ha];simp[e]
 ·rw[AG (AQ z (t.fa i hi))];exact t.sm b o z
 ·by_cases e:b=ad i
  ·subst e;rw[AF]at z;cases z
  ·rw[AG e]at z;exact t.gr b z
theorem Tv.keep(t:Tv H0 H1 H s ad n T){i:Nat}(hi:i<=n){o:HO}(b:Addr)(x:HO)(f:H1 b=none)(z:H b=some x):(upd H (ad i) o) b=some x:=by
 have ne:b≠ad i:=λe=>t.old i hi (by rw[<-e];exact f);rw[AG ne];exact z
end
def brx(l:List Nat):List Nat:=l.map λb=>brs.getD b 0
end BrS
namespace BrB
open BrM BrC BrS
end BrB
namespace BrS
open L2 PySem BrM BrC BrR
abbrev pa_(k:Nat)(a:List Nat):Nat->Nat->Int:=PP (a.map (plw (ones k)))
def W(k:Nat)(a:List Nat)(i:Nat)(st:List Nat):Int:=cv (pa_ k a) k (a.length-i) i st
def GZ(k:Nat)(a:List Nat)(st:List Nat):List Int:=(List.range (a.length+1)).map λi=>W k a i st
def Vm(st:List Nat):List V:=st.reverse.map λp:Nat=>V.int (2*(p:Int)+1)
def cf(pl sm cl rs:Addr)(at':Int):List (Str×V):=[("places", .ref pl),("sums", .ref sm),("at", .int at'),("closings", .ref cl),("rests", .ref rs)]
structure CoS (C:Addr) (H0 H:Hp) (co:Addr) (k:Nat) (a:List Nat) (at':Nat) (st:List Nat) (dx pl sm cl rs:Addr) (Hz Hb:Hp) (ad:Nat->Addr) (ra:List Addr):Prop where
 ob:H co=some (.ins C dx (cf pl sm cl rs at'))
 pls:Pls Hb pl (a.map (plw (ones k)))
 tb:Tb Hz Hb sm ad a.length (tbl (pa_ k a) k)
 keep:SameBut1 co Hb H
 nco:∀xs,Hb co≠some (.lst xs)
 ncl:Hb cl=none
 nrs:Hb rs=none
 ne:cl≠rs
 clo:H cl=some (.lst (Vm st))
 res:H rs=some (.lst (ra.map V.ref))
 ral:ra.length=st.length+1
 rows:∀ (j:Nat) x,ra[j]? =some x->H x=some (iL (GZ k a (st.drop (st.length-j))))/\x≠cl/\x≠rs
 h0:Same H0 H
 h0co:H0 co=none
 h0cl:H0 cl=none
 h0rs:H0 rs=none
 len:a.length<=40
 hk:k<=4
inductive Co (C:Addr) (H0 H:Hp) (co:Addr) (k:Nat) (a:List Nat) (at':Nat) (st:List Nat):Prop
 |mk (dx pl sm cl rs:Addr) (Hz Hb:Hp) (ad:Nat->Addr) (ra:List Addr) (_:CoS C H0 H co k a at' st dx pl sm cl rs Hz Hb ad ra)
section
variable{C:Addr}{H0 H:Hp}{co:Addr}{k:Nat}{a:List Nat}{at':Nat}{st:List Nat}{dx pl sm cl rs:Addr}{Hz Hb:Hp}{ad:Nat->Addr}{ra:List Addr}
theorem CoS.lst(c:CoS C H0 H co k a at' st dx pl sm cl rs Hz Hb ad ra){b:Addr}{xs:List V}(h:Hb b=some (.lst xs)):H b=some (.lst xs):=c.keep _ _ h λz=>c.nco xs (by rw[<-z];exact h)
theorem CoS.tbH(c:CoS C H0 H co k a at' st dx pl sm cl rs Hz Hb ad ra):Tb (λ_=>none) H sm ad a.length (tbl (pa_ k a) k):=⟨rfl,λ_ _=>rfl,c.tb.ns,c.tb.inj,c.lst c.tb.top,λi hi=>c.lst (c.tb.row i hi),λ_ _ z=>nomatch z⟩
end
def Qj(C:Addr):Sp:=λvs H Q _=>∃ (co dx:Addr) (k:Int) (a:List Nat) (H0:Hp),vs=[.ref co, .int k,tx a]/\1<=k/\k<=4/\isRow k a=true/\H co=some (.ins C dx [])/\H0 co=none/\Same H0 H/\∀H',Co C H0 H' co k.toNat a 0 []->Q .non H'
inductive spCAll (C:Addr) (vs:List V) (H:Hp) (Q:VK) (E:XK):Prop
 |mk (co:Addr) (k:Nat) (a:List Nat) (i:Nat) (st:List Nat) (H0:Hp) (_:vs=[.ref co]) (_:Co C H0 H co k a i st) (_:Q (.int (W k a 0 [])) H)
end BrS
namespace L2
open PySem PySem.Spec PyProof.Rows
theorem PX{K:W.Frag}{σ:St}{H:Hp}{Q:VK}{a:Addr}{n:Nat}{own:List Str}{sel:List Nat}{g:TG}{te:TE}(f v:Nat->V)(hn:n<=sizeLine)(ha:H a=some (.lst ((List.range n).map f)))
 (hst:∀D H',H D=none->Same H H'->H' D=some (.lst ((List.range n).map v))->Q (.ref D) H')
 (hs:∀ (i:Nat) (H':Hp) (R:V->Hp->Prop),i<n->Same H H'->(∀H6,Same H' H6->R (v i) H6)->g (f i) (AT own sel σ) H' λσ4 H4=>te σ4 H4 R):BJ (Itl K a) own sel σ g tYes te Q H:=by
 have hl:((List.range n).map f).length=n:=by rw[List.length_map,List.length_range]
 refine EN f hn (λD i ys _=>ys=(List.range i).map v) (λi H' hi sH=>⟨_,f i,SqL.of (sH _ _ ha),by rw[List.getElem?_map,List.getElem?_range hi];rfl⟩) (λH' sH=>⟨_,SqL.of (sH _ _ ha),by rw[hl];exact Nat.le_refl _⟩) (λi H1 x H' hi sH y=>?_)
  (λ_ _=>rfl) (λ_ _ _ _ _ _ e _=>e) (λD ys H' hD hy _ sH e=>hst D H' hD sH (by rw[hy,e]))
  (λD i ys H' R hD hi hy _ sH e r=>hs i H' R hi sH λH6 s6=>r _ H6 s6 (by rw[e,List.range_succ,List.map_append];rfl))
 obtain⟨rfl,hx⟩:=y;have:=hx _ (SqL.of (sH _ _ ha));rw[List.getElem?_map,List.getElem?_range hi]at this;exact⟨rfl,(Option.some.inj this).symm⟩
end L2
namespace BrS
open L2 PySem BrM BrC BrR
section
variable{C:Addr}{H0 H:Hp}{co:Addr}{k:Nat}{a:List Nat}{i:Nat}{st:List Nat}{dx pl sm cl rs:Addr}{Hz Hb:Hp}{ad:Nat->Addr}{ra:List Addr}
end
end BrS
namespace L2
open PySem PySem.Spec PyProof.Rows
end L2
namespace BrS
open L2 PySem BrM BrC BrR
end BrS
namespace PySem.SeqAt
open AutoSeq1 (wpAny_loadPart')
open MeetsSeq MeetsSeq2 MeetsSeq3 SeqRoads2
section
variable{prog:Program}{w:World}{A:Around}{E:Value->Shared->Prop}{s:Shared}
end
end PySem.SeqAt
namespace L2
open PySem PySem.Spec PyProof.Rows BrS
end L2
namespace L2
open PySem PySem.Spec PyProof.Rows
section
variable{σ:St}{H:Hp}{Q:VK}{K:W.Frag}
theorem Se{ta:TA}{R:It->Hp->Prop}(h:ta σ H λvs H1=>∃x y,vs=[.str x, .str y]/\R (IzS x y) H1):Lp ta σ H R:=h
theorem Sd{a b:List Nat}{R:Str->Str->Prop}(h:R ⟨a.toArray⟩ ⟨b.toArray⟩):∃x y,[tx a,tx b]=[.str x, .str y]/\R x y:=⟨_,_,rfl,h⟩
theorem QV{a b:List Nat}{own:List Str}{sel:List Nat}{g:TG}{tt:TT}{te:TE}(hl:b.length=a.length)(hn:a.length<=sizeLine)(Pv:Addr->Nat->List V->Hp->Prop)(h0:∀D,H D=none->Pv D 0 [] (upd H D (.lst [])))
 (hst:∀D ys H',H D=none->H' D=some (.lst ys)->Pv D a.length ys H'->Q (.ref D) H')
 (hs:∀D i c d T ys H1 H',H D=none->a[i]? =some c->b[i]? =some d->i<a.length->H' D=some (.lst ys)->ys.length<=i->Pv D i ys H1->Same H1 H'->H' T=some (.tup [tx [c],tx [d]])->g (.ref T) (AT own sel σ) H' λσ4 H4=>tt σ4 H4 λb H5=>
   if b=true then te σ4 H5 λv H6=>∃ys,H6 D=some (.lst ys)/\ys.length<sizeLine/\∃m',m'<a.length-i/\CW D a.length (Pv D) (i+1) m' (upd H6 D (.lst (ys++[v])))
   else∃m',m'<a.length-i/\CW D a.length (Pv D) (i+1) m' H5):BJ (IzS ⟨a.toArray⟩ ⟨b.toArray⟩) own sel σ g tt te Q H:=by
 refine CD (n:=a.length) Pv h0 (λD i ys H' hD hi _ p=>by simp only[IzS,List.size_toArray];lia) (λD ys H' hD hy _ p=>⟨by simp[IzS],hst D ys H' hD hy p⟩) (λD i ys H1 x H3 hD hi hy hl2 p y=>?_);obtain⟨T,c,d,hT,hc,hd,rfl,rfl⟩:=y;exact hs D i c d T ys H1 _ hD (by simpa using hc) (by simpa using hd) hi (AI hT _ _ _ hy) hl2 p (AI hT _) AF
theorem PQ{te:TE}{R:V->Hp->Prop}{S:Hp->Prop}:(fun(σ4:St) (H4:Hp)=>tYes σ4 H4 λb H5=>if b=true then te σ4 H5 R else S H5)=λσ4 H4=>te σ4 H4 R:=by
 funext σ4 H4
 exact propext ⟨λz=>by have z':=z;simp only[tYes]at z';simpa using z',λz=>by show tYes _ _ _;simp only[tYes];simpa using z⟩
theorem IP{a b:List Nat}{own:List Str}{sel:List Nat}{g:TG}{te:TE}(v:Nat->Nat->V)(hl:b.length=a.length)(hn:a.length<=sizeLine)(hst:∀D H',H D=none->Same H H'->H' D=some (.lst ((List.range a.length).map λi=>v (a.getD i 0) (b.getD i 0)))->Q (.ref D) H')
 (hs:∀ (i c d:Nat) (T:Addr) (H':Hp) (R:V->Hp->Prop),a[i]? =some c->b[i]? =some d->Same H H'->H' T=some (.tup [tx [c],tx [d]])->(∀H6,Same H' H6->R (v c d) H6)->g (.ref T) (AT own sel σ) H' λσ4 H4=>te σ4 H4 R):BJ (IzS ⟨a.toArray⟩ ⟨b.toArray⟩) own sel σ g tYes te Q H:=by
 refine QV hl hn (λD i ys H'=>Same H H'/\ys=(List.range i).map λi=>v (a.getD i 0) (b.getD i 0)) (λD hD=>⟨AI hD _,rfl⟩) (λD ys H' hD hy' ⟨sH,e⟩=>hst D H' hD sH (by rw[hy',e])) ?_;rintro D i c d T ys H1 H3 hD hc hd hi hyD hl2 ⟨sH,e⟩ s3 hT;have hv:v (a.getD i 0) (b.getD i 0)=v c d:=by rw[List.getD_eq_getElem?_getD,List.getD_eq_getElem?_getD,hc,hd];rfl
 rw[PQ];refine hs i c d T H3 _ hc hd (sH.trans s3) hT λH6 s6=>?_;refine CA hi hn (s6 _ _ hyD) hl2 ⟨λx o z=>?_,?_⟩
 ·rw[AG (AQ z hD)];exact s6 _ _ (s3 _ _ (sH _ _ z))
 ·rw[e,List.range_succ,List.map_append,List.map_singleton,hv]
end
end L2
namespace BrS
open L2 PySem BrM BrC BrR
theorem Rw{b:Nat}(h:b<8):brs[b]? =some (brs.getD b 0):=by
 match b,h with
 |0,_=>rfl
 |1,_=>rfl
 |2,_=>rfl
 |3,_=>rfl
 |4,_=>rfl
 |5,_=>rfl
 |6,_=>rfl
 |7,_=>rfl
theorem Vj(c d:Nat):inV (tx [c]) [tx [63],tx [d]]=(decide (c=63)||decide (c=d)):=by
 unfold inV;simp only[List.any_cons,List.any_nil,Ea,Bool.or_false];have e:∀x:Nat,decide ([x]=[c])=decide (c=x):=λx=>by
  by_cases z:c=x
  ·subst z;rw[decide_eq_true rfl,decide_eq_true rfl]
  ·rw[decide_eq_false z,decide_eq_false (by simpa using λy=>z y.symm)]
 rw[e,e]
end BrS
namespace L2
open PySem PySem.Spec PyProof.Rows
section
variable{σ:St}{H:Hp}{Q:VK}{K:W.Frag}
end
end L2
namespace L2
open PySem
end L2
namespace BrS
open L2 PySem BrM BrC BrB BrR
inductive spNeeds (vs:List V) (H:Hp) (Q:VK) (E:XK):Prop
 |mk (c b:Nat) (_:vs=[tx [c],tx [b]]) (_:∀H',Same H H'->Q (.bl (!decide (c=63\/c=b))) H')
def plc(k c:Nat):List Int:=(brs.take (2*k)).map λb=>if c=63\/c=b then 2 else 1
inductive spPlacesC (vs:List V) (H:Hp) (Q:VK) (E:XK):Prop
 |mk (k:Int) (a:List Nat) (_:vs=[.int k,tx a]) (_:1<=k) (_:k<=4) (_:a.length<=40) (_:∀r H',H r=none->Same H H'->Pls H' r (a.map (plc k.toNat))->Q (.ref r) H')
theorem VD(c b:Nat):inV (tx [c]) [tx [63],tx [b]]=decide (c=63\/c=b):=by
 unfold inV;simp only[List.any_cons,List.any_nil,Ea]
 by_cases h1:c=63<;>by_cases h2:c=b<;>simp[h1,h2,eq_comm]<;>lia
theorem QD(ds:List V)(x:V):atI (ds++[x]) (-1)=some x:=Dj (by simp) (by simp)
end BrS
namespace L2
open PySem PySem.Spec PyProof.Rows
section
variable{σ:St}{H:Hp}{Q:VK}{K:W.Frag}
end
end L2
namespace BrS
open L2 PySem BrM BrC BrB BrR
end BrS
namespace BrS
open L2 PySem PyProof.Rows BrM BrC BrB BrR
end BrS
namespace BrB
open BrM BrC BrS
def sms(L:List Int):Int:=L.foldr (· + ·) 0
end BrB
namespace BrS
open L2 PySem PySem.Spec PyProof.Rows BrM BrC BrB BrR
end BrS
namespace BrI
open BrM BrC BrS
section
variable{P:Nat->Nat->Int}{k n:Nat}
def Of(P:Nat->Nat->Int)(k n:Nat):Nat->Nat->Nat->Int
 |0,_,_=>0
 |f+1,t,j=>(if j=n then tbl P k 0 t else 0)+sm n (λu=>tbl P k (u+1) t*(pr P k u j*sm (n+1) (λs=>Of P k n f u s*tbl P k (j+1) s)))
def Oo(P:Nat->Nat->Int)(k n t j:Nat):Int:=Of P k n (n+1) t j
def out(P:Nat->Nat->Int)(k n u j:Nat):Int:=sm (n+1) (λs=>Oo P k n u s*tbl P k (j+1) s)
end
section
variable{P P':Nat->Nat->Int}{k n i:Nat}
end
section
variable{P:Nat->Nat->Int}{k n:Nat}{c:Int}
end
end BrI
namespace BrS
open L2 PySem BrM BrC BrB BrI BrR
def prs(n:Nat):List (Nat×Nat):=(List.range n).flatMap λs=>(List.range ((n-s)/2)).map λq=>(s,s+1+2*q)
def rst(P:Nat->Nat->Int)(k n s e:Nat):Int:=tbl P k (s+1) e*out P k n s e
section
variable{ps:List (List Int)}{k n:Nat}
end
section
variable{H0 H H':Hp}{s:Addr}{ad:Nat->Addr}{n m:Nat}{T T':Nat->Nat->Int}
end
def ga(P:Nat->Nat->Int)(k n i b:Nat)(x:Nat×Nat):Int:=
 if b%2=0 then(if x.1=i then P x.1 b*P x.2 (b+1)*rst P k n x.1 x.2 else 0)else(if x.2=i then P x.1 (b-1)*P x.2 b*rst P k n x.1 x.2 else 0)
section
variable{K:W.Frag}{σ:St}{H:Hp}{Q:VK}
end
def gp(P:Nat->Nat->Int)(k n m o i b:Nat)(x:Nat×Nat):Int:=sms (((prs n).take m).map (ga P k n i b))+(if b/2<o then ga P k n i b x else 0)
end BrS
namespace L2
open PySem PySem.Spec PyProof.Rows
end L2
namespace BrS
open L2 PySem PySem.Spec PyProof.Rows BrM BrC BrB BrI BrR
section
variable{σ:L2.St}{H:Hp}{Q:VK}
end
end BrS
namespace L2
open PySem PySem.Spec PyProof.Rows
section
variable{X:Cx}{pins:List (Addr×Obj)}{σ:St}{H:Hp}{s:Shared}{a:Addr}{kvs:List (Key×V)}{k:Key}{v:V}{u r:Value}{A:Around}{E:Value->Shared->Prop}
end
section
variable{prog:Program}{w:World}{A:Around}{R:Result->Shared->Prop}{s:Shared}
end
section
variable{X:Cx}
end
end L2
namespace L2
open PySem PySem.Spec PyProof.Rows PySem.SeqAt
end L2
namespace BrS
open L2 PySem PySem.Spec PyProof.Rows BrM BrC BrB BrI BrR
abbrev P1(k:Nat)(a:List Nat):Nat->Nat->Int:=PP (a.map (plw (ones k)))
theorem FZ(k:Nat)(a:List Nat):tbl (P1 k a) k 0 (a.map (plw (ones k))).length=cnt k a:=by
 unfold tbl cnt;rw[if_pos (Nat.zero_le _),Nat.sub_zero,List.length_map]
def Vp(vs:List V)(k:Int)(a:List Nat):Prop:=vs=[.int k,tx a]/\1<=k/\k<=4/\isRow k a=true
def Nc(cs:Cs):Sp:=λvs H Q E=>∃k a,Vp vs k a/\((cnt k.toNat a=0/\Ref E cs.NoFilling H)\/(cnt k.toNat a≠0/\
 ∀ (T p s:Addr) (ad:Nat->Addr) (H0 H':Hp),Same H H'->H' T=some (.tup [.ref p, .ref s])->Pls H' p (a.map (plw (ones k.toNat)))->Tb H0 H' s ad (a.map (plw (ones k.toNat))).length (tbl (P1 k.toNat a) k.toNat)->Q (.ref T) H'))
end BrS
namespace L2
open PySem PySem.Spec PyProof.Rows
section
variable{X:Cx}
variable{e:Expr}{te:TE}{ap cp sp pos:Pos}
end
section
variable{X:Cx}
def KL{ι:Type}(i:Nat)(adr:ι->Addr)(sp:ι->Sp)(R:XR)(t:TA):TE:=λσ H Q=>∃j:ι,σ[i]? =some (some (.ref (adr j)))/\t σ H λvs H1=>sp j vs H1 Q (xk R σ)
theorem RR{ι:Type}(i:Nat){k:Nat}{x:Str}{ps:List Str}{adr:ι->Addr}{sp:ι->Sp}{R:XR}{e:Expr}{es:List Expr}{t:TA}{p pos:Pos}
 (U:∀j,∃fd,FnOk X.prog X.w X.K X.mg X.base (CXE X.prog X.w) k (adr j) fd ps (sp j)/\W.keepIn X.K (.ref (adr j))=true/\Binds X.K fd ps []) (hr:Room k X.A) (hx:∀e s',XF X R e s'->X.xe e s') (ha:PA X (e::es) t)
 (hN:X.N[i]? =some x:=by rfl) (hv:Vis X.env.scope x:=by first|exact Or.inl rfl|exact Or.inr (Or.inl rfl)|exact Or.inr (Or.inr rfl)) (hd:(x==("__debug__":Str))=false:=by decide) (hcd:(x==("__classdict__":Str))=false:=by decide)
 (he:starEach (e::es) X.env=(false,eval e X.env)::starEach es X.env:=by rfl) (hpl:(backTo pos (starEach es X.env)).any (·.1)=false:=by rfl):
 PE X (.Call (.Name x p) (e::es) [] pos) (KL i adr sp R t):=by
 intro pins s σ H Q I h;obtain⟨j,ef,h⟩:=h;exact RS i (G:=λf=>f=adr j) (spOf:=λ_=>sp j) (λf hf=>by subst hf;exact U j) hr hx ha hN hv hd hcd he hpl pins s σ H Q I ⟨adr j,ef,rfl,h⟩
theorem Q8{ι:Type}{i:Nat}{adr:ι->Addr}{sp:ι->Sp}{R:XR}{t:TA}{σ:St}{H:Hp}{Q:VK}(j:ι)(h1:σ[i]? =some (some (.ref (adr j))))(h:t σ H λvs H1=>sp j vs H1 Q (xk R σ)):KL i adr sp R t σ H Q:=⟨j,h1,h⟩
theorem FTu.mk{K:W.Frag}{a:Addr}{o:Obj}{its:Array Value}{n:Nat}{xs:List V}(l:K.lookup a=some o)(c:o.cls= .type "tuple")(s:o.data= .seq its n)(r:GG its xs=true)(hx:xs.length<=1000):FTu K a xs:=⟨o,its,n,l,c,s,Nb r hx,HI r⟩
end
theorem UE{x:Addr}{xs ys:List V}{g:TG}{tb:TS}{D:Ends}{σ:L2.St}{H:Hp}(hl:ys.length=xs.length)(Pv:Nat->L2.St->Hp->Prop)(h0:Pv 0 σ H)(ht:∀i σ H',Pv i σ H'->H' x=some (.lst xs))
 (hs:∀i c d T σ H1 H',xs[i]? =some c->ys[i]? =some d->Pv i σ H1->Same H1 H'->H' T=some (.tup [c,d])->g (.ref T) σ H' λσ2 H2=>tb {D with nx:=Pv (i+1),ct:=Pv (i+1),bk:=D.nx} σ2 H2) (hd:∀σ H,Pv xs.length σ H->D.nx σ H):Bg (IzU x ys) g tb D σ H:=by
 refine EZ (n:=xs.length) Pv h0 (λi σ H hi p=>⟨⟨_,ht _ _ _ p,hi⟩,by lia⟩) (λσ H p=>⟨_,ht _ _ _ p, .inl rfl⟩) (λi v σ H1 H' hi p y'=>?_) hd;have a1:=ht _ _ _ p;obtain⟨T,z1,c,d,hT,e1,hc,hd,rfl,rfl⟩:=y';rw[a1]at e1;cases e1;exact hs i c d T σ H1 _ hc hd p (AI hT _) AF
theorem O5{σ:St}{H:Hp}{Q:VK}{x:Addr}{xs ys:List V}{own:List Str}{sel:List Nat}{g:TG}{tt:TT}{te:TE}(hl:ys.length=xs.length)(Pv:Addr->Nat->List V->Hp->Prop)(ht:∀D i zs H',H D=none->Pv D i zs H'->H' x=some (.lst xs))(h0:∀D,H D=none->Pv D 0 [] (upd H D (.lst [])))
 (hst:∀D zs H',H D=none->H' D=some (.lst zs)->Pv D xs.length zs H'->Q (.ref D) H')
 (hs:∀D i c d T zs H1 H',H D=none->xs[i]? =some c->ys[i]? =some d->i<xs.length->H' D=some (.lst zs)->zs.length<=i->Pv D i zs H1->Same H1 H'->H' T=some (.tup [c,d])->g (.ref T) (AT own sel σ) H' λσ4 H4=>tt σ4 H4 λb H5=>
   if b=true then te σ4 H5 λv H6=>∃zs,H6 D=some (.lst zs)/\zs.length<sizeLine/\∃m',m'<xs.length-i/\CW D xs.length (Pv D) (i+1) m' (upd H6 D (.lst (zs++[v])))
   else∃m',m'<xs.length-i/\CW D xs.length (Pv D) (i+1) m' H5):BJ (IzU x ys) own sel σ g tt te Q H:=by
 refine CD (n:=xs.length) Pv h0 (λD i zs H' hD hi _ p=>⟨⟨_,ht _ _ _ _ hD p,hi⟩,by lia⟩) (λD zs H' hD hy _ p=>⟨⟨_,ht _ _ _ _ hD p, .inl rfl⟩,hst D zs H' hD hy p⟩) (λD i zs H1 x' H3 hD hi hy hl2 p y'=>?_);have a1:=ht _ _ _ _ hD p;obtain⟨T,z1,c,d,hT,e1,hc,hd,rfl,rfl⟩:=y';rw[a1]at e1;cases e1;exact hs D i c d T zs H1 _ hD hc hd hi (AI hT _ _ _ hy) hl2 p (AI hT _) AF
end L2
namespace BrS
open L2 PySem PySem.Spec PyProof.Rows BrM BrC BrR BrTx
abbrev Kv:=List (Key×V)
def kyT(a:List Nat):Key:= .inr ⟨a.toArray⟩
theorem Jq{a b:List Nat}(h:kyT a=kyT b):a=b:=by
 have:=Sum.inr.inj h;injection this with e
 simpa using congrArg Array.toList e
def ltr:List Nat:=[97,98,99,100,101,102,103,104,105,106,107,108,109,110,111,112,113,114,115,116,117,118,119,120,121,122]
def fig:List Nat:=[48,49,50,51,52,53,54,55,56,57]
abbrev R3:List Nat:=[107,105,110,100,115]
abbrev VN:List Nat:=[114,111,119]
abbrev UO:List Nat:=[116,117,114,110]
abbrev Qf:List Nat:=[98,101,104,105,110,100]
abbrev UQ:List Nat:=[100,114,111,112]
abbrev UP:List Nat:=[115,104,111,119]
abbrev R1:List Nat:=[110,97,109,101,115]
abbrev CL:List Nat:=[108,105,110,101]
abbrev Dh:List Nat:=[110,117,109,98,101,114]
abbrev DQ:List Nat:=[110,101,119]
abbrev Ai:List Nat:=[110,97,109,101]
abbrev tOk:List Nat:=[111,107]
abbrev tNone:List Nat:=[110,111,110,101]
theorem HK:∀ {l:List Str},sortedS l=true->l.Pairwise λa b=>a.cps.toList<=b.cps.toList
 |[],_=> .nil
 |x::r,h=>by
  have go:∀ (r:List Str) (p:Str),risingS p r=true->(p::r).Pairwise λa b=>a.cps.toList<=b.cps.toList:=by
   intro r
   induction r with
   |nil=>intro p _;exact .cons (λ_ h=>nomatch h) .nil
   |cons y r ih=>
    intro p h;have h:(!ltCps y.cps.toList p.cps.toList&&risingS y r)=true:=h;rw[Bool.and_eq_true,ltCps_eq]at h;have h1:p.cps.toList<=y.cps.toList:=by
     have:=h.1;simp only[Bool.not_eq_true',decide_eq_false_iff_not]at this;exact List.not_lt.mp this
    have h2:=ih y h.2;refine .cons (λz hz=>?_) h2;rcases List.mem_cons.mp hz with rfl|hz
    ·exact h1
    ·exact List.le_trans h1 ((List.pairwise_cons.mp h2).1 z hz)
  exact go r x h
theorem Je:∀ {a b:List Str},(a.Pairwise λa b=>a.cps.toList<=b.cps.toList)->(b.Pairwise λa b=>a.cps.toList<=b.cps.toList)->a.Perm b->a=b
 |[],b,_,_,h=>(List.nil_perm.mp h).symm
 |x::r,[],_,_,h=>absurd h.length_eq (by simp)
 |x::r,y::s,h1,h2,h=>by
  have e:x=y:=by
   have hx:x∈y::s:=h.subset List.mem_cons_self;have hy:y∈x::r:=h.symm.subset List.mem_cons_self;rcases List.mem_cons.mp hx with z|z
   ·exact z
   rcases List.mem_cons.mp hy with z'|z'
   ·exact z'.symm
   have a1:=(List.pairwise_cons.mp h2).1 _ z;have a2:=(List.pairwise_cons.mp h1).1 _ z';have:=List.le_antisymm a2 a1
   cases x;cases y
   congr 1;simpa using this
  subst e;rw[Je (List.pairwise_cons.mp h1).2 (List.pairwise_cons.mp h2).2 h.cons_inv]
theorem M0{a b c:List Str}(h1:sortedS a=true)(h2:sortedS b=true)(p1:a.Perm c)(p2:b.Perm c):a=b:=Je (HK h1) (HK h2) (p1.trans p2.symm)
def FB(bad:List Addr)(H H':Hp):Prop:=∀b o,H b=some o->b∉bad->H' b=some o
theorem FB.refl(bad:List Addr)(H:Hp):FB bad H H:=λ_ _ h _=>h
theorem FB.of{bad:List Addr}{H H1:Hp}(s:Same H H1):FB bad H H1:=λc o h _=>s c o h
theorem FB.s{bad:List Addr}{H H1 H2:Hp}(a:FB bad H H1)(b:Same H1 H2):FB bad H H2:=λc o h n=>b c o (a c o h n)
theorem FB.atU{bad:List Addr}{p:Addr}{o:HO}{H H1:Hp}(a:FB bad H H1)(hp:p∈bad):FB bad H (upd H1 p o):=λc o' h n=>by
 have hc:c≠p:=λz=>n (by rw[z];exact hp);rw[AG hc];exact a c o' h n
theorem FB.new{bad:List Addr}{p:Addr}{o:HO}{H H1:Hp}(a:FB bad H H1)(hp:H p=none):FB bad H (upd H1 p o):=λc o' h n=>by
 rw[AG (λz=>by rw[z,hp]at h;cases h)];exact a c o' h n
theorem FB.trans{bad:List Addr}{H H1 H2:Hp}(a:FB bad H H1)(b:FB bad H1 H2):FB bad H H2:=λc o h n=>b c o (a c o h n) n
theorem FB.mono{bad bad':List Addr}{H H1:Hp}(a:FB bad H H1)(h:∀x∈bad,x∈bad'):FB bad' H H1:=λc o e n=>a c o e λz=>n (h _ z)
theorem FB.free{bad:List Addr}{H H1:Hp}(a:FB bad H H1)(hb:∀x∈bad,∃o,H x=some o){p:Addr}(h:H1 p=none):H p=none\/p∈bad:=by
 cases e:H p with
 |none=>exact .inl rfl
 |some o=>
  by_cases z:p∈bad
  ·exact .inr z
  ·rw[a p o e z]at h;cases h
def Dk(C:Addr)(H:Hp)(d r:Addr)(k:Int)(kvs:Kv):Prop:=(∃dx,H d=some (.ins C dx [("k", .int k),("rows", .ref r)]))/\H r=some (.dK kvs)
theorem Dk.same{C:Addr}{H H':Hp}{d r:Addr}{k:Int}{kvs:Kv}(h:Dk C H d r k kvs)(s:Same H H'):Dk C H' d r k kvs:=let⟨⟨dx,e⟩,f⟩:=h;⟨⟨dx,s _ _ e⟩,s _ _ f⟩
theorem Dk.keep{C:Addr}{H H':Hp}{d r:Addr}{k:Int}{kvs:Kv}{bad:List Addr}(h:Dk C H d r k kvs)(s:FB bad H H')(h1:d∉bad)(h2:r∉bad):Dk C H' d r k kvs:=let⟨⟨dx,e⟩,f⟩:=h;⟨⟨dx,s _ _ e h1⟩,s _ _ f h2⟩
theorem Dk.ne{C:Addr}{H:Hp}{d r:Addr}{k:Int}{kvs:Kv}(h:Dk C H d r k kvs):d≠r:=λe=>by
 obtain⟨⟨dx,z⟩,f⟩:=h;rw[e,f]at z;cases z
def C5(ns:List (List Nat)):List Str:=ns.map λa=>⟨a.toArray⟩
theorem JQ(ns:List (List Nat)):((C5 ns).map λx=>tx x.cps.toList)=ns.map tx:=by
 unfold C5;rw[List.map_map];rfl
def Srt(kvs:Kv)(ns:List (List Nat)):Prop:=∃ss,kvs.map (·.1)=ss.map Sum.inr/\ss.length<64/\(C5 ns).Perm ss/\sortedS (C5 ns)=true
theorem Jt:∀ {a b:List Str},a.map (Sum.inr:Str->Key)=b.map Sum.inr->a=b
 |[],[],_=>rfl
 |[],_::_,h=>by cases h
 |_::_,[],h=>by cases h
 |x::a,y::b,h=>by
  rw[List.map_cons,List.map_cons]at h;injection h with h1 h2
  rw[Sum.inr.inj h1,Jt h2]
theorem Srt.uniq{kvs:Kv}{ns:List (List Nat)}{ss ts:List Str}(h:Srt kvs ns)(hk:kvs.map (·.1)=ss.map Sum.inr)(hp:ts.Perm ss)(hs:sortedS ts=true):ts=C5 ns:=by
 obtain⟨s2,e,_,p,q⟩:=h;have:s2=ss:=Jt (e.symm.trans hk);subst this;exact M0 hs q hp p
def shw(a:List Nat):List Nat:=if a=[]then tNone else a
def wrt(ns:List (List Nat)):List Nat:=if ns=[]then tNone else B9 [32] ns
inductive spShown (vs:List V) (H:Hp) (Q:VK) (E:XK):Prop
 |mk (a:_) (_:vs=[tx a]) (_:a.length<=1000) (_:Q (tx (shw a)) H)
inductive spSayKinds (cs:Cs) (C:Addr) (vs:List V) (H:Hp) (Q:VK) (E:XK):Prop
 |mk (d ws r:Addr) (k:Int) (kvs:Kv) (n:Nat) (_:vs=[.ref d, .ref ws]) (_:Dk C H d r k kvs) (_:H ws=some (.lst [tx (Aj n)])) (_:n<10^9) (_:((1<=n/\n<=4/\∀r' H',H r'=none->FB [d] H H'->Dk C H' d r' n []->Q (tx tOk) H')\/(¬ (1<=n/\n<=4)/\Ref E cs.NoKinds H)))
inductive spSayBehind (cs:Cs) (C:Addr) (vs:List V) (H:Hp) (Q:VK) (E:XK):Prop
 |mk (d ws r:Addr) (k:Int) (kvs:Kv) (nm one two a b:List Nat) (_:vs=[.ref d, .ref ws]) (_:Dk C H d r k kvs) (_:1<=k) (_:k<=4) (_:kvs.length<=100) (_:H ws=some (.lst [tx nm,tx one,tx two])) (_:AR kvs (kyT one)=some (tx a)) (_:AR kvs (kyT two)=some (tx b)) (_:a.length<=40) (_:b.length<=40) (_:((isRow k (a++b)=true/\∀H',FB [r] H H'->Dk C H' d r k (putK kvs (kyT nm) (tx (a++b)))->Q (tx tOk) H')\/(isRow k (a++b)=false/\Ref E cs.NoLine H)))
inductive spSayDrop (C:Addr) (vs:List V) (H:Hp) (Q:VK) (E:XK):Prop
 |mk (d ws r:Addr) (k:Int) (kvs:Kv) (one:List Nat) (v:V) (_:vs=[.ref d, .ref ws]) (_:Dk C H d r k kvs) (_:H ws=some (.lst [tx one])) (_:AR kvs (kyT one)=some v) (_:∀H',FB [r] H H'->Dk C H' d r k (Cc kvs (kyT one))->Q (tx tOk) H')
inductive spSayShow (C:Addr) (vs:List V) (H:Hp) (Q:VK) (E:XK):Prop
 |mk (d ws r:Addr) (k:Int) (kvs:Kv) (one a:List Nat) (_:vs=[.ref d, .ref ws]) (_:Dk C H d r k kvs) (_:H ws=some (.lst [tx one])) (_:AR kvs (kyT one)=some (tx a)) (_:a.length<=1000) (_:∀H',Same H H'->Q (tx (shw a)) H')
inductive spSayNames (C:Addr) (vs:List V) (H:Hp) (Q:VK) (E:XK):Prop
 |mk (d ws r:Addr) (k:Int) (kvs:Kv) (ns:List (List Nat)) (_:vs=[.ref d, .ref ws]) (_:Dk C H d r k kvs) (_:Srt kvs ns) (_:(∀n∈ns,n.length<=8)) (_:∀H',Same H H'->Q (tx (wrt ns)) H')
inductive spDkInit (C:Addr) (vs:List V) (H:Hp) (Q:VK) (E:XK):Prop
 |mk (d dx:_) (_:vs=[.ref d]) (_:H d=some (.ins C dx [])) (_:∀r H',H r=none->FB [d] H H'->Dk C H' d r 4 []->Q .non H')
inductive spDkNames (C:Addr) (vs:List V) (H:Hp) (Q:VK) (E:XK):Prop
 |mk (d r:Addr) (k:Int) (kvs:Kv) (ns:List (List Nat)) (_:vs=[.ref d]) (_:Dk C H d r k kvs) (_:Srt kvs ns) (_:∀p H',H p=none->Same H H'->H' p=some (.lst (ns.map tx))->Q (.ref p) H')
end BrS
namespace L2
open PySem PySem.Spec PyProof.Rows
section
variable{σ:St}{H:Hp}{Q:VK}{td ty:TE}{P:Program}{w:World}{K:W.Frag}
theorem Sw(h:ty σ H λy H1=>td σ H1 λx H2=>∃a o,x= .ref a/\DGet H2 a y o/\Q (.bl (!o.isSome)) H2):JM ty td σ H Q:=h
theorem UZ{t:TE}{R:Bool->Hp->Prop}(h:t σ H λx H1=>∃c,x= .bl c/\R c H1):tB t σ H R:=h
theorem U0(h:td σ H λx H1=>ty σ H1 λy H2=>∃a kvs k v,x= .ref a/\FDc P w K a kvs/\y=kV k/\AR kvs k=some v/\Q v H2):Fu P w K td ty σ H Q:=h
theorem Uz(h:ty σ H λy H1=>td σ H1 λx H2=>∃a kvs k,x= .ref a/\FDc P w K a kvs/\y=kV k/\Q (.bl (!(AR kvs k).isSome)) H2):IU P w K ty td σ H Q:=h
end
end L2
namespace BrS
open L2 PySem PySem.Spec PyProof.Rows BrM BrC BrR BrTx
theorem Kb(c:List Nat):∀ns:List (List Nat),inV (tx c) (ns.map tx)=decide (c∈ns)
 |[]=>rfl
 |x::ns=>by
  have ih:=Kb c ns;unfold inV at ih⊢;rw[List.map_cons,List.any_cons,ih,Ea]
  by_cases h:c=x
  ·subst h;simp
  ·rw[decide_eq_false (λz=>h z.symm)];simp[h]
theorem QZ{α:Type}{a:List α}(h:0<a.length):atI a 0=some a[0]:=by
 cases a with
 |nil=>simp at h
 |cons x r=>exact Dx x r
theorem LI:∀ {ns:List (List Nat)},(∀n∈ns,n.length<=8)->ns.flatten.length<=8*ns.length
 |[],_=>by simp
 |n::r,h=>by
  have h1:=h n List.mem_cons_self;have h2:=LI λx hx=>h x (List.mem_cons_of_mem _ hx);rw[List.flatten_cons,List.length_append,List.length_cons];lia
theorem Srt.len{kvs:Kv}{ns:List (List Nat)}(h:Srt kvs ns):ns.length=kvs.length/\ns.length<64:=by
 obtain⟨ss,hk,h64,hp,_⟩:=h;have l1:=hp.length_eq;have l2:=congrArg List.length hk;rw[List.length_map,List.length_map]at l2;unfold C5 at l1;rw[List.length_map]at l1;lia
abbrev De:List Nat:=[9,78,111,78,97,109,101]
abbrev IT:List Nat:=[9,78,111,75,105,110,100,115]
abbrev Cj:List Nat:=[9,78,111,76,105,110,101]
theorem _root_.L2.SameBut1.free1{p x:Addr}{H H':Hp}(s:SameBut1 p H H')(hp:Po H' p)(h:H' x=none):H x=none:=by
 cases e:H x with
 |none=>rfl
 |some o=>
  by_cases z:x=p
  ·obtain⟨a,b,c,g⟩:=hp;rw[z,g]at h;cases h
  ·rw[s x o e z]at h;cases h
theorem OI{i:Nat}{D:Ends}{σ:L2.St}{H:Hp}(h:D.nx (σ.set i none) H):(ET i D).nx σ H:=h
section
variable{cs:Cs}{C:Addr}{H:Hp}{Q:VK}{E:XK}{d r:Addr}{k:Int}{kvs:Kv}{l:List Nat}{dd:Dd}{args:List (List Nat)}
end
section
variable{C:Addr}{H G G':Hp}{p nl d r o ro st qd ls:Addr}{k:Int}{kd ks:Kv}{ns:List (List Nat)}{nm0:List Nat}{hs:List V}
end
theorem Gx:∀l:List Addr,Paired RelV (l.map V.ref) (l.map Value.ref)
 |[]=> .nil
 |_::l=> .cons rfl (Gx l)
def wd15:List (List Nat):=[[107,105,110,100,115],[114,111,119],[116,117,114,110],[98,101,104,105,110,100],[100,114,111,112],[115,104,111,119],[114,105,103,104,116],[109,97,121],[109,97,110,121],[110,116,104],[110,117,109,98,101,114],[115,117,114,101],[102,101,119,101,115,116],[109,111,114,101],[110,97,109,101,115]]
theorem Qe:(wd15.map λc=>(⟨c.toArray⟩:Str)).Nodup:=by decide +kernel
theorem Ls{P:Program}{w:World}{K:W.Frag}{a:Addr}{o:Obj}{ep:Nat}{x0 x1 x2 x3 x4 x5 x6 x7 x8 x9 x10 x11 x12 x13 x14:Str}{t0 t1 t2 t3 t4 t5 t6 t7 t8 t9 t10 t11 t12 t13 t14:Tok}{a0 a1 a2 a3 a4 a5 a6 a7 a8 a9 a10 a11 a12 a13 a14:Addr}(lk:K.lookup a=some o)(ex:o.ExactDict)(dt:o.data= .dict (([(x0,t0,Value.ref a0),(x1,t1,Value.ref a1),(x2,t2,Value.ref a2),(x3,t3,Value.ref a3),(x4,t4,Value.ref a4),(x5,t5,Value.ref a5),(x6,t6,Value.ref a6),(x7,t7,Value.ref a7),(x8,t8,Value.ref a8),(x9,t9,Value.ref a9),(x10,t10,Value.ref a10),(x11,t11,Value.ref a11),(x12,t12,Value.ref a12),(x13,t13,Value.ref a13),(x14,t14,Value.ref a14)]:List (Str×Tok×Value)).map (DO w)).toArray ep)(h:[x0,x1,x2,x3,x4,x5,x6,x7,x8,x9,x10,x11,x12,x13,x14]=wd15.map λc=>(⟨c.toArray⟩:Str))(m:(a==sysModules)=false):FDc P w K a ((wd15.map kyT).zip [V.ref a0,V.ref a1,V.ref a2,V.ref a3,V.ref a4,V.ref a5,V.ref a6,V.ref a7,V.ref a8,V.ref a9,V.ref a10,V.ref a11,V.ref a12,V.ref a13,V.ref a14]):=by
 have e:=UF (P:=P) (vs:=[V.ref a0,V.ref a1,V.ref a2,V.ref a3,V.ref a4,V.ref a5,V.ref a6,V.ref a7,V.ref a8,V.ref a9,V.ref a10,V.ref a11,V.ref a12,V.ref a13,V.ref a14]) [(x0,t0,Value.ref a0),(x1,t1,Value.ref a1),(x2,t2,Value.ref a2),(x3,t3,Value.ref a3),(x4,t4,Value.ref a4),(x5,t5,Value.ref a5),(x6,t6,Value.ref a6),(x7,t7,Value.ref a7),(x8,t8,Value.ref a8),(x9,t9,Value.ref a9),(x10,t10,Value.ref a10),(x11,t11,Value.ref a11),(x12,t12,Value.ref a12),(x13,t13,Value.ref a13),(x14,t14,Value.ref a14)] lk ex dt (Gx [a0,a1,a2,a3,a4,a5,a6,a7,a8,a9,a10,a11,a12,a13,a14]) (by
  show [x0,x1,x2,x3,x4,x5,x6,x7,x8,x9,x10,x11,x12,x13,x14].Nodup;rw[h];exact Qe) m
 have e2:([(x0,t0,Value.ref a0),(x1,t1,Value.ref a1),(x2,t2,Value.ref a2),(x3,t3,Value.ref a3),(x4,t4,Value.ref a4),(x5,t5,Value.ref a5),(x6,t6,Value.ref a6),(x7,t7,Value.ref a7),(x8,t8,Value.ref a8),(x9,t9,Value.ref a9),(x10,t10,Value.ref a10),(x11,t11,Value.ref a11),(x12,t12,Value.ref a12),(x13,t13,Value.ref a13),(x14,t14,Value.ref a14)]:List (Str×Tok×Value)).map (λx=>(.inr x.1:Key))=wd15.map kyT:=by
  show [x0,x1,x2,x3,x4,x5,x6,x7,x8,x9,x10,x11,x12,x13,x14].map (Sum.inr:Str->Key)=_;rw[h,List.map_map];rfl
 rw[e2]at e;exact e
end BrS
namespace BrS
open L2 PySem BrM BrC BrR
def filB(k:Int)(a b:List Nat):Bool:=isRow k b&&decide (b.length=a.length)&&decide (Rt b)&&(List.range a.length).all λi=>decide (a.getD i 0=63)||decide (a.getD i 0=b.getD i 0)
inductive spIsFillE (K:W.Frag) (vs:List V) (H:Hp) (Q:VK) (E:XK):Prop
 |mk (k:Int) (a:List Nat) (x:V) (_:vs=[.int k,tx a,x]) (_:1<=k) (_:k<=4) (_:isRow k a=true) (_:((∃b,x=tx b/\b.length<=1000/\∀H',Same H H'->Q (.bl (filB k a b)) H')\/∃ty,TyOf K H x (.type ty)/\ty∈B7/\ty≠"str"/\∀H',Same H H'->Q (.bl false) H'))
end BrS
namespace BrS
open L2 PySem PySem.Spec PyProof.Rows BrM BrC BrR BrTx
inductive D15|kinds|row|turn|behind|drop|show|right|may|many|nth|number|sure|fewest|more|names
def D15.word:D15->List Nat
 | .kinds=>R3| .row=>VN| .turn=>UO| .behind=>Qf| .drop=>UQ| .show=>UP| .right=>[114,105,103,104,116]| .may=>[109,97,121]| .many=>[109,97,110,121]| .nth=>[110,116,104]| .number=>[110,117,109,98,101,114]| .sure=>[115,117,114,101]| .fewest=>[102,101,119,101,115,116]| .more=>[109,111,114,101]| .names=>R1
def D15.form:D15->List (List Nat)
 | .kinds=>[Dh]| .row=>[DQ,CL]| .turn=>[DQ,Ai]| .behind=>[DQ,Ai,Ai]| .nth=>[Ai,Dh]| .number=>[Ai,CL]| .names=>[]|_=>[Ai]
def D15.fn:D15->Str
 | .kinds=>"say_kinds"| .row=>"say_row"| .turn=>"say_turn"| .behind=>"say_behind"| .drop=>"say_drop"| .show=>"say_show"| .right=>"say_right"| .may=>"say_may"| .many=>"say_many"| .nth=>"say_nth"| .number=>"say_number"| .sure=>"say_sure"| .fewest=>"say_fewest"| .more=>"say_more"| .names=>"say_names"
def all15:List D15:=[.kinds, .row, .turn, .behind, .drop, .show, .right, .may, .many, .nth, .number, .sure, .fewest, .more, .names]
def D15.of(w:List Nat):Option D15:=all15.find? λd=>decide (d.word=w)
theorem Ra(d:D15):D15.of d.word=some d:=by cases d<;>rfl
theorem Jn{w:List Nat}{d:D15}(h:D15.of w=some d):d.word=w:=by simpa using List.find?_some h
theorem PV:wd15=all15.map D15.word:=rfl
theorem Rb{w:List Nat}(h:D15.of w=none):w∉wd15:=λz=>by
 rw[PV]at z;obtain⟨d,_,rfl⟩:=List.mem_map.mp z;rw[Ra]at h;cases h
theorem D15.len(d:D15):d.form.length<=3:=by cases d<;>decide
def LP(P:Program)(w:World)(K:W.Frag)(aF:Addr):Prop:=∃FK,FDc P w K aF FK/\(∀d:D15,∃t,AR FK (kyT d.word)=some (.ref t)/\FTu K t (d.form.map tx))/\∀v,D15.of v=none->AR FK (kyT v)=none
def LQ(P:Program)(w:World)(K:W.Frag)(mg:Str->Option Value)(aD:Addr):Prop:=∃DK,FDc P w K aD DK/\∃adr:D15->Addr,∀d:D15,AR DK (kyT d.word)=some (.ref (adr d))/\mg d.fn=some (.ref (adr d))
theorem HG{w:List Nat}:∀ {ws:List (List Nat)} {vs:List V},w∉ws->AR ((ws.map kyT).zip vs) (kyT w)=none
 |[],vs,_=>rfl
 |_::_,[],_=>rfl
 |x::ws,v::vs,h=>by
  have ih:=HG (ws:=ws) (vs:=vs) λz=>h (List.mem_cons_of_mem _ z);have hx:¬kyT x=kyT w:=λz=>h (by rw[Jq z];exact List.mem_cons_self);unfold AR at*
  rw[List.map_cons,List.zip_cons_cons,List.find?_cons];rw[decide_eq_false hx];exact ih
def isNm(a:List Nat):Bool:=decide (1<=a.length/\a.length<=8)&&a.all λc=>decide (c∈ltr)
def Gd(a:List Nat):Bool:=decide (1<=a.length/\a.length<=9)&&(a.all λc=>decide (c∈fig))&&(decide (a.length=1)|| !decide (a[0]? =some 48))
def CN(a p:List Nat):Bool:=if p=CL then true else if p=Dh then Gd a else isNm a
def Bq(l:List Nat):List Nat:=((spN 32 1 l).head?).getD []
def wds(l:List Nat)(fm:List (List Nat)):List (List Nat):=if CL∈fm then spN 32 fm.length l else spN 32 (l.length+1) l
def knw(l:List Nat):Option (D15×List (List Nat)):=match D15.of (Bq l)with
 |none=>none
 |some d=>if(wds l d.form).tail.length=d.form.length/\(((wds l d.form).tail).zip d.form).all (λx=>CN x.1 x.2)=true then some (d,(wds l d.form).tail)else none
theorem Hv(l:List Nat):(spN 32 1 l).head?=some (Bq l):=by
 unfold Bq
 cases e:spN 32 1 l with
 |nil=>exact absurd e (CV _ _ _)
 |cons w ws=>rfl
theorem HU(x:Nat)(ws:List (List Nat)):(C3 x ws).head?=some (x::(ws.head?.getD [])):=by cases ws<;>rfl
theorem Fy(c:Nat):∀ (n:Nat) (l:List Nat),(spN c (n+1) l).head?=(spN c 1 l).head?
 |_,[]=>by simp[spN]
 |n,x::r=>by
  rw[spN,spN]
  by_cases z:x=c
  ·rw[if_pos z,if_pos z];rfl
  ·rw[if_neg z,if_neg z,HU,HU,Fy c n r]
theorem IN(l:List Nat)(d:D15):wds l d.form=Bq l::(wds l d.form).tail:=by
 have h:(wds l d.form).head?=some (Bq l):=by
  rw[<-Hv];unfold wds
  split
  ·cases d<;>first|exact Fy 32 _ l|(rename_i z;exact absurd z (by decide))
  ·exact Fy 32 _ l
 cases e:wds l d.form with
 |nil=>rw[e]at h;cases h
 |cons w ws=>rw[e]at h;simp only[List.head?_cons,Option.some.injEq]at h;rw[h];rfl
theorem FH(c:Nat):∀ (n:Nat) (l:List Nat),∀w∈spN c n l,w.length<=l.length
 |n,[],w,h=>by
  have:w=[]:=by cases n<;>simpa[spN]using h
  rw[this];exact Nat.le_refl _
 |0,x::r,w,h=>by
  rw[spN]at h;rw[List.mem_singleton.mp h];exact Nat.le_refl _
 |n+1,x::r,w,h=>by
  rw[spN]at h
  by_cases z:x=c
  ·rw[if_pos z]at h;rcases List.mem_cons.mp h with rfl|h
   ·exact Nat.zero_le _
   ·exact Nat.le_succ_of_le (FH c n r w h)
  ·rw[if_neg z]at h;have ih:=FH c (n+1) r
   cases e:spN c (n+1) r with
   |nil=>exact absurd e (CV _ _ _)
   |cons w0 ws=>
    rw[e]at h ih;rcases List.mem_cons.mp h with rfl|h
    ·rw[List.length_cons,List.length_cons];exact Nat.succ_le_succ (ih w0 List.mem_cons_self)
    ·exact Nat.le_succ_of_le (ih w (List.mem_cons_of_mem _ h))
theorem IM{l:List Nat}{fm:List (List Nat)}{w:List Nat}(h:w∈wds l fm):w.length<=l.length:=by
 unfold wds at h
 split at h<;>exact FH _ _ _ _ h
theorem GA{l:List Nat}{d:D15}{ar:List (List Nat)}(h:knw l=some (d,ar)):Bq l=d.word/\wds l d.form=d.word::ar/\ar.length=d.form.length/\(∀ (i:Nat) (a p:List Nat),ar[i]? =some a->d.form[i]? =some p->CN a p=true)/\∀a∈ar,a.length<=l.length:=by
 unfold knw at h
 cases e:D15.of (Bq l)with
 |none=>rw[e]at h;cases h
 |some d'=>
  rw[e]at h;simp only at h
  split at h
  ·rename_i hc
   simp only[Option.some.injEq,Prod.mk.injEq]at h;obtain⟨rfl,rfl⟩:=h;have hw:=Jn e;refine⟨hw.symm,?_,hc.1,λi a p h1 h2=>?_,λa ha=>?_⟩
   ·rw[hw];exact IN l d'
   ·have:=List.all_eq_true.mp hc.2 (a,p) (List.mem_iff_getElem?.mpr ⟨i,by rw[List.getElem?_zip_eq_some];exact⟨h1,h2⟩⟩);exact this
   ·exact IM (l:=l) (fm:=d'.form) (List.mem_of_mem_tail ha)
  ·cases h
end BrS
namespace L2
open PySem PySem.Spec PyProof.Rows
section
variable{X:Cx}
theorem Jp{n:Nat}(h:n<2^1900):((n:Nat):Int).natAbs.log2<1920:=by
 rw[Int.natAbs_natCast]
 by_cases z:n=0
 ·subst z;decide
 ·exact Nat.lt_of_lt_of_le ((Nat.log2_lt z).mpr h) (by decide)
def rStrB:List V->Hp->VK->Prop:=λxs H Q=>∃n:Nat,xs=[.int (n:Nat)]/\n<2^1900/\Q (tx (Aj n)) H
theorem FE:CallR X (.type "str") rStrB:=by
 intro pins s σ H xs us Q I rv ⟨n,e,hn,q⟩;subst e;obtain⟨u,rfl,t,rfl⟩:=rv.one;refine PySem.P.str_of_int (Jp hn) ?_;rw[Fk];exact⟨tx (Aj n),H,I.tok _,⟨_,rfl⟩,q⟩
def Lc(te:TE):TE:=λσ H Q=>te σ H λx H1=>(∃n:Nat,x= .int (n:Nat)/\n<2^1900/\Q (tx (Aj n)) H1)\/∃z,x=tx z/\z.length<=10000/\Q (tx z) H1
theorem KY{e:Expr}{te:TE}{pos:Pos}(he:PE X e te):PE X (.FormattedValue e (-1) none pos) (Lc te):=by
 intro pins s σ H Q I h;refine FormattedValue_plain (thn (he pins s σ H _ I h) λv s1 z_=>?_);obtain⟨x,H1,I1,r1,q1⟩:=z_;rcases q1 with⟨n,rfl,hn,q⟩|⟨z,rfl,hz,q⟩
 ·obtain⟨t,rfl⟩:=r1;refine wpAny_formatField_int (Jp hn) ?_;rw[Fk];exact⟨tx (Aj n),H1,I1.tok _,⟨_,rfl⟩,q⟩
 ·obtain⟨t,rfl⟩:=r1;refine formatField_str (λt' tk=>⟨tx z,H1,I1.tok _,⟨_,rfl⟩,q⟩) (by rw[Az,sizeLine_eq];lia)
def tJ3(t1 t2 t3:TE):TE:=λσ H Q=>t1 σ H λx H1=>∃a,x=tx a/\a.length<=10000/\t2 σ H1 λy H2=>∃b,y=tx b/\b.length<=10000/\t3 σ H2 λz H3=>∃c,z=tx c/\c.length<=10000/\Q (tx (a++b++c)) H3
theorem Py{e1 e2 e3:Expr}{t1 t2 t3:TE}{pos:Pos}(h1:PE X e1 t1)(h2:PE X e2 t2)(h3:PE X e3 t3):PE X (.JoinedStr [e1,e2,e3] pos) (tJ3 t1 t2 t3):=by
 intro pins s σ H Q I h;refine JoinedStr_many (joinParts_cons (thn (h1 pins s σ H _ I h) λv s1 z_=>?_));obtain⟨x,H1,I1,r1,q1⟩:=z_;obtain⟨a,rfl,ha,q1⟩:=q1;obtain⟨t,rfl⟩:=r1;have e0:(Str.empty++⟨a.toArray⟩:Str)=⟨a.toArray⟩:=by
  show(⟨(#[]:Array Nat)++a.toArray⟩:Str)=_;simp
 show((Str.empty++⟨a.toArray⟩:Str)).length<=sizeLine/\_;rw[e0];refine⟨by rw[Az,sizeLine_eq];lia,joinParts_cons (thn (h2 pins s1 σ H1 _ I1 q1) λv s2 ⟨x,H2,I2,r2,q2⟩=>?_)⟩;obtain⟨b,rfl,hb,q2⟩:=q2;obtain⟨t,rfl⟩:=r2;have e1:(⟨a.toArray⟩++⟨b.toArray⟩:Str)=⟨(a++b).toArray⟩:=by
  show(⟨a.toArray++b.toArray⟩:Str)=_;simp
 show((⟨a.toArray⟩++⟨b.toArray⟩:Str)).length<=sizeLine/\_;rw[e1];refine⟨by rw[Az,sizeLine_eq,List.length_append];lia,joinParts_cons (thn (h3 pins s2 σ H2 _ I2 q2) λv s3 ⟨x,H3,I3,r3,q3⟩=>?_)⟩;obtain⟨c,rfl,hc,q3⟩:=q3;obtain⟨t,rfl⟩:=r3;have e2:(⟨(a++b).toArray⟩++⟨c.toArray⟩:Str)=⟨(a++b++c).toArray⟩:=by
  show(⟨(a++b).toArray++c.toArray⟩:Str)=_;simp
 show((⟨(a++b).toArray⟩++⟨c.toArray⟩:Str)).length<=sizeLine/\_;rw[e2];have hz:(⟨(a++b++c).toArray⟩:Str).length<=sizeLine:=by rw[Az,sizeLine_eq,List.length_append,List.length_append];lia
 exact⟨hz,joinParts_nil ⟨tx (a++b++c),H3,I3.tok _,⟨_,rfl⟩,q3⟩ hz⟩
end
theorem KO{n:Nat}{H:Hp}{Q:VK}(hn:n<2^1900)(q:Q (tx (Aj n)) H):rStrB [.int (n:Nat)] H Q:=⟨n,rfl,hn,q⟩
theorem Uv{te:TE}{σ:St}{H:Hp}{Q:VK}(h:te σ H λx H1=>(∃n:Nat,x= .int (n:Nat)/\n<2^1900/\Q (tx (Aj n)) H1)\/∃z,x=tx z/\z.length<=10000/\Q (tx z) H1):Lc te σ H Q:=h
theorem VX{t1 t2 t3:TE}{σ:St}{H:Hp}{Q:VK}(h:t1 σ H λx H1=>∃a,x=tx a/\a.length<=10000/\t2 σ H1 λy H2=>∃b,y=tx b/\b.length<=10000/\t3 σ H2 λz H3=>∃c,z=tx c/\c.length<=10000/\Q (tx (a++b++c)) H3):tJ3 t1 t2 t3 σ H Q:=h
end L2
namespace BrS
open L2 PySem PySem.Spec PyProof.Rows BrM BrC BrR BrTx BrB
inductive spIsName8 (vs:List V) (H:Hp) (Q:VK) (E:XK):Prop
 |mk (a:_) (_:vs=[tx a]) (_:a.length<=1000) (_:∀H',Same H H'->Q (.bl (isNm a)) H')
inductive spIsNumber8 (vs:List V) (H:Hp) (Q:VK) (E:XK):Prop
 |mk (a:_) (_:vs=[tx a]) (_:a.length<=1000) (_:∀H',Same H H'->Q (.bl (Gd a)) H')
inductive spHasForm8 (vs:List V) (H:Hp) (Q:VK) (E:XK):Prop
 |mk (a p:_) (_:vs=[tx a,tx p]) (_:a.length<=1000) (_:∀H',Same H H'->Q (.bl (CN a p)) H')
inductive spParted8 (K:W.Frag) (vs:List V) (H:Hp) (Q:VK) (E:XK):Prop
 |mk (l:List Nat) (t:Addr) (fm:List (List Nat)) (_:vs=[tx l, .ref t]) (_:FTu K t (fm.map tx)) (_:fm.length<=10) (_:l.length<=1000) (_:∀p H',H p=none->Same H H'->H' p=some (.lst ((wds l fm).map tx))->Q (.ref p) H')
def D7(K:W.Frag)(H:Hp)(v:V):Prop:=(∃l,v=tx l/\l.length<=1000/\knw l=none)\/∃ty,TyOf K H v (.type ty)/\ty∈B7/\ty≠"str"
def Pa(K:W.Frag):Sp:=λvs H Q _=>(∃l d ar,vs=[tx l]/\l.length<=1000/\knw l=some (d,ar)/\∀p H',H p=none->Same H H'->H' p=some (.lst ((d.word::ar).map tx))->Q (.ref p) H')\/∃v,vs=[v]/\D7 K H v/\∀H',Same H H'->Q .non H'
def yn(b:Bool):List Nat:=if b=true then [121,101,115]else [110,111]
inductive spYesNo (vs:List V) (H:Hp) (Q:VK) (E:XK):Prop
 |mk (b:_) (_:vs=[.bl b]) (_:Q (tx (yn b)) H)
inductive spSayRow8 (cs:Cs) (C:Addr) (vs:List V) (H:Hp) (Q:VK) (E:XK):Prop
 |mk (d ws r:Addr) (k:Int) (kvs:Kv) (nm a:List Nat) (_:vs=[.ref d, .ref ws]) (_:Dk C H d r k kvs) (_:1<=k) (_:k<=4) (_:kvs.length<=100) (_:H ws=some (.lst [tx nm,tx a])) (_:a.length<=1000) (_:((isRow k a=true/\∀H',FB [r] H H'->Dk C H' d r k (putK kvs (kyT nm) (tx a))->Q (tx tOk) H')\/(isRow k a=false/\Ref E cs.NoLine H)))
theorem fm_mk8{P:Program}{w:World}{K:W.Frag}{a:Addr}{o:Obj}{ep:Nat}{x0 x1 x2 x3 x4 x5 x6 x7 x8 x9 x10 x11 x12 x13 x14:Str}{t0 t1 t2 t3 t4 t5 t6 t7 t8 t9 t10 t11 t12 t13 t14:Tok}{a0 a1 a2 a3 a4 a5 a6 a7 a8 a9 a10 a11 a12 a13 a14:Addr}(lk:K.lookup a=some o)(ex:o.ExactDict)(dt:o.data= .dict (([(x0,t0,Value.ref a0),(x1,t1,Value.ref a1),(x2,t2,Value.ref a2),(x3,t3,Value.ref a3),(x4,t4,Value.ref a4),(x5,t5,Value.ref a5),(x6,t6,Value.ref a6),(x7,t7,Value.ref a7),(x8,t8,Value.ref a8),(x9,t9,Value.ref a9),(x10,t10,Value.ref a10),(x11,t11,Value.ref a11),(x12,t12,Value.ref a12),(x13,t13,Value.ref a13),(x14,t14,Value.ref a14)]:List (Str×Tok×Value)).map (DO w)).toArray ep)(h:[x0,x1,x2,x3,x4,x5,x6,x7,x8,x9,x10,x11,x12,x13,x14]=wd15.map λc=>(⟨c.toArray⟩:Str))(m:(a==sysModules)=false)(u0:FTu K a0 [tx Dh])(u1:FTu K a1 [tx DQ,tx CL])(u2:FTu K a2 [tx DQ,tx Ai])(u3:FTu K a3 [tx DQ,tx Ai,tx Ai])(u4:FTu K a4 [tx Ai])(u5:FTu K a5 [tx Ai])(u6:FTu K a6 [tx Ai])(u7:FTu K a7 [tx Ai])(u8:FTu K a8 [tx Ai])(u9:FTu K a9 [tx Ai,tx Dh])(u10:FTu K a10 [tx Ai,tx CL])(u11:FTu K a11 [tx Ai])(u12:FTu K a12 [tx Ai])(u13:FTu K a13 [tx Ai])(u14:FTu K a14 []):LP P w K a:=⟨_,Ls lk ex dt h m,λdd=>by
 cases dd
 ·exact⟨_,rfl,u0⟩
 ·exact⟨_,rfl,u1⟩
 ·exact⟨_,rfl,u2⟩
 ·exact⟨_,rfl,u3⟩
 ·exact⟨_,rfl,u4⟩
 ·exact⟨_,rfl,u5⟩
 ·exact⟨_,rfl,u6⟩
 ·exact⟨_,rfl,u7⟩
 ·exact⟨_,rfl,u8⟩
 ·exact⟨_,rfl,u9⟩
 ·exact⟨_,rfl,u10⟩
 ·exact⟨_,rfl,u11⟩
 ·exact⟨_,rfl,u12⟩
 ·exact⟨_,rfl,u13⟩
 ·exact⟨_,rfl,u14⟩,λv hv=>HG (Rb hv)⟩
theorem dd_mk8{mg:Str->Option Value}{P:Program}{w:World}{K:W.Frag}{a:Addr}{o:Obj}{ep:Nat}{x0 x1 x2 x3 x4 x5 x6 x7 x8 x9 x10 x11 x12 x13 x14:Str}{t0 t1 t2 t3 t4 t5 t6 t7 t8 t9 t10 t11 t12 t13 t14:Tok}{a0 a1 a2 a3 a4 a5 a6 a7 a8 a9 a10 a11 a12 a13 a14:Addr}(lk:K.lookup a=some o)(ex:o.ExactDict)(dt:o.data= .dict (([(x0,t0,Value.ref a0),(x1,t1,Value.ref a1),(x2,t2,Value.ref a2),(x3,t3,Value.ref a3),(x4,t4,Value.ref a4),(x5,t5,Value.ref a5),(x6,t6,Value.ref a6),(x7,t7,Value.ref a7),(x8,t8,Value.ref a8),(x9,t9,Value.ref a9),(x10,t10,Value.ref a10),(x11,t11,Value.ref a11),(x12,t12,Value.ref a12),(x13,t13,Value.ref a13),(x14,t14,Value.ref a14)]:List (Str×Tok×Value)).map (DO w)).toArray ep)(h:[x0,x1,x2,x3,x4,x5,x6,x7,x8,x9,x10,x11,x12,x13,x14]=wd15.map λc=>(⟨c.toArray⟩:Str))(m:(a==sysModules)=false)(v0:mg "say_kinds"=some (.ref a0))(v1:mg "say_row"=some (.ref a1))(v2:mg "say_turn"=some (.ref a2))(v3:mg "say_behind"=some (.ref a3))(v4:mg "say_drop"=some (.ref a4))(v5:mg "say_show"=some (.ref a5))(v6:mg "say_right"=some (.ref a6))(v7:mg "say_may"=some (.ref a7))(v8:mg "say_many"=some (.ref a8))(v9:mg "say_nth"=some (.ref a9))(v10:mg "say_number"=some (.ref a10))(v11:mg "say_sure"=some (.ref a11))(v12:mg "say_fewest"=some (.ref a12))(v13:mg "say_more"=some (.ref a13))(v14:mg "say_names"=some (.ref a14)):LQ P w K mg a:=⟨_,Ls lk ex dt h m,(λdd=>match dd with| .kinds=>a0| .row=>a1| .turn=>a2| .behind=>a3| .drop=>a4| .show=>a5| .right=>a6| .may=>a7| .many=>a8| .nth=>a9| .number=>a10| .sure=>a11| .fewest=>a12| .more=>a13| .names=>a14),λdd=>by
 cases dd
 ·exact⟨rfl,v0⟩
 ·exact⟨rfl,v1⟩
 ·exact⟨rfl,v2⟩
 ·exact⟨rfl,v3⟩
 ·exact⟨rfl,v4⟩
 ·exact⟨rfl,v5⟩
 ·exact⟨rfl,v6⟩
 ·exact⟨rfl,v7⟩
 ·exact⟨rfl,v8⟩
 ·exact⟨rfl,v9⟩
 ·exact⟨rfl,v10⟩
 ·exact⟨rfl,v11⟩
 ·exact⟨rfl,v12⟩
 ·exact⟨rfl,v13⟩
 ·exact⟨rfl,v14⟩⟩
theorem RK{k:Nat}(c b:Nat):0<=(plw (ones k) c).getD b 0/\(plw (ones k) c).getD b 0<=1:=by
 have h:∀v∈plw (ones k) c,0<=v/\v<=1:=by
  unfold plw
  split
  ·intro v hv;obtain rfl:=List.eq_of_mem_replicate hv;exact⟨by decide,by decide⟩
  ·intro v hv;obtain⟨x,_,rfl⟩:=List.mem_map.mp hv
   split
   ·exact⟨by decide,by decide⟩
   ·exact⟨by decide,by decide⟩
 rw[List.getD_eq_getElem?_getD]
 cases e:(plw (ones k) c)[b]? with
 |none=>exact⟨by simp,by simp⟩
 |some v=>exact h v (List.mem_of_getElem? e)
theorem JF{k:Nat}{a:List Nat}(hk:k<=4)(ha:a.length<=40):0<=cnt k a/\cnt k a<=5^40:=by
 have hP:∀i b,0<=PP (a.map (plw (ones k))) i b/\PP (a.map (plw (ones k))) i b<=1:=λi b=>by
  unfold PP;rw[List.getD_eq_getElem?_getD (l:=a.map _),List.getElem?_map]
  cases a[i]? with
  |none=>exact⟨by simp,by simp⟩
  |some c=>exact RK c b
 obtain⟨h0,h1⟩:=FU (P:=PP (a.map (plw (ones k)))) (k:=k) (c:=1) (by decide) (λi b=>(hP i b).1) (λi b=>(hP i b).2) a.length 0 [];refine⟨h0,Int.le_trans h1 ?_⟩;rw[Int.mul_one];exact Int.le_trans (EH (by lia) (by lia:((k:Int)+1)<=5) a.length).2 (KS (by decide) ha)
theorem Rv{k:Nat}{a:List Nat}(hk:k<=4)(ha:a.length<=40):((cnt k a).toNat:Int)=cnt k a/\(cnt k a).toNat<2^1900:=by
 obtain⟨h0,h1⟩:=JF hk ha;refine⟨Int.toNat_of_nonneg h0,?_⟩;have h2:(cnt k a).toNat<=5^40:=by
  have:((cnt k a).toNat:Int)<=((5^40:Nat):Int):=by rw[Int.toNat_of_nonneg h0];exact h1
  exact Int.ofNat_le.mp this
 exact Nat.lt_of_le_of_lt h2 (by decide +kernel)
end BrS
namespace L2
open PySem PySem.Spec PyProof.Rows
theorem A9{X:Cx}{st:Stmt}{i j:Nat}{x y:Str}{es:List Expr}{ts:List TE}{pos pos' p p2 py:Pos}(est:st= .Assign [.Name x pos'] (.BinOp (.Name y py) .Add (.List es p) p2) pos)(hN:X.N.Nodup)(hi:X.N[i]? =some x)(hx:Loc X.env.scope x)(hf:X.fn x=true\/X.env.scope.names.lookup x=some .local)
 (hy:PEb X (.Name y py) (A7 j)) (hes:Pl X es ts):PSb X st (Bf (tOp rPlus (A7 j) (C4 (Bz ts))) (Aw i)):=by
 subst est;exact⟨CH hN hi hx (AJ AO hy.pe (AW hes.pa)) (hf:=hf)⟩
end L2
namespace BrS
open L2 PySem PySem.Spec PyProof.Rows BrM BrC BrR BrTx BrB
abbrev Dm:List Nat:=[9,78,111,82,111,119]
abbrev Hf:List Nat:=[9,78,111,78,117,109,98,101,114]
abbrev He:List Nat:=[9,78,111,116,82,105,103,104,116]
abbrev HJ:List Nat:=[9,78,111,70,105,108,108,105,110,103]
inductive Cap8 (cs:Cs):Addr->List Nat->Prop
 |row:Cap8 cs cs.NoRow Dm
 |name:Cap8 cs cs.NoName De
 |kinds:Cap8 cs cs.NoKinds IT
 |line:Cap8 cs cs.NoLine Cj
 |number:Cap8 cs cs.NoNumber Hf
 |right:Cap8 cs cs.NotRight He
 |filling:Cap8 cs cs.NoFilling HJ
theorem Us{c:TT}{t u:TS}{D:Ends}{σ:L2.St}{H:Hp}(P:L2.St->Hp->Prop)(h2:∀σ' H',P σ' H'->D.nx σ' H')(h1:(∀σ' H',P σ' H'->D.nx σ' H')->DN c t u D σ H):DN c t u D σ H:=h1 h2
theorem SameBut1.fresh{p:Addr}{H H1 H2:Hp}(s:Same H H1)(b:SameBut1 p H1 H2)(h:H p=none):Same H H2:=λc o z=>b c o (s c o z) (AQ z h)
theorem Dk.but{C:Addr}{H H':Hp}{d r p:Addr}{k:Int}{kvs:Kv}(h:Dk C H d r k kvs)(s:SameBut1 p H H')(h1:d≠p)(h2:r≠p):Dk C H' d r k kvs:=let⟨⟨dx,e⟩,f⟩:=h;⟨⟨dx,s _ _ e h1⟩,s _ _ f h2⟩
def Ans(t:List Nat):Prop:=t.length<=1000/\t.head?≠some 9/\t≠[111,100,100]
theorem Ans.all{t:List Nat}(h:t.length<=1000)(hc:∀c∈t,c≠9/\c≠111):Ans t:=⟨h,λe=>(hc 9 (List.mem_of_mem_head? e)).1 rfl,λe=>(hc 111 (by rw[e];simp)).2 rfl⟩
theorem Ans.ok:Ans tOk:=⟨by decide,by decide,by decide⟩
theorem Ans.none:Ans tNone:=⟨by decide,by decide,by decide⟩
theorem Ans.shw{t:List Nat}(h:Ans t):Ans (BrS.shw t):=by
 unfold BrS.shw;split
 ·exact .none
 ·exact h
theorem Rz{n:Nat}(h:n<=5^40):Ans (Aj n):=by
 refine .all (Nat.le_trans (Ik 30 n (Nat.lt_of_le_of_lt h (by decide +kernel))) (by decide)) λc hc=>?_;have:=P8 n c hc;lia
theorem ln1{α:Type}{xs:List α}(h:xs.length=1):∃a,xs=[a]:=List.length_eq_one_iff.mp h
theorem ln2{α:Type}{xs:List α}(h:xs.length=2):∃a b,xs=[a,b]:=by
 cases xs with
 |nil=>cases h
 |cons a r=>
  obtain⟨b,rfl⟩:=ln1 (Nat.succ.inj h);exact⟨a,b,rfl⟩
theorem ln3{α:Type}{xs:List α}(h:xs.length=3):∃a b c,xs=[a,b,c]:=by
 cases xs with
 |nil=>cases h
 |cons a r=>
  obtain⟨b,c,rfl⟩:=ln2 (Nat.succ.inj h);exact⟨a,b,c,rfl⟩
theorem K7{xs:List V}{a:Int}(h0:0<=a)(h1:a<(xs.length:Nat)):∃v∈xs,atI xs a=some v:=by
 obtain⟨m,rfl⟩:=Int.eq_ofNat_of_zero_le h0;have hm:m<xs.length:=by lia
 refine⟨xs[m],List.getElem_mem hm,?_⟩;unfold atI;rw[Fm hm];exact List.getElem?_eq_getElem hm
end BrS
namespace L2
open PySem PySem.Spec PyProof.Rows
open PySem.Builtin PySem.Builtin.Str
section
variable{X:Cx}{st:Stmt}{rest:List Stmt}{t u:TS}
end
end L2
namespace BrS
open L2 PySem PySem.Spec PyProof.Rows BrM BrC BrR BrTx BrB
end BrS
namespace L2
open PySem PySem.Spec PyProof.Rows
theorem pxt{X:Cx}{x:Str}{j:Nat}{pos:Pos}(l:List Nat)(h:x=⟨l.toArray⟩:=by decide +kernel):PE X (.Constant (.str x) j pos) (tC (tx l)):=U7 h
theorem IC{X:Cx}{osc sc:Scope}{N:List Str}{own own':List Str}{sel sel':List Nat}{scope:Scope}{cl:List (Str×Addr)}{C:Addr}{s2:Shared}{H2:Hp}{fp:List Addr}
 (e:X.env.scope=osc) (eN:(Be X own' sel' sc cl C s2 H2 fp).N=N) (h:FV (Pk sc osc) N own sel scope=true):CompOkC (Be X own' sel' sc cl C s2 H2 fp).env.scope (Be X own' sel' sc cl C s2 H2 fp).N own sel scope:=by
 subst e;subst eN;exact A2 h
def Unr(J:It)(g:TG)(tb:TS)(D:Ends):Nat->Nat->St->Hp->Prop
 |0,i,σ,H=>J.stop i H/\D.nx σ H
 |r+1,i,σ,H=>J.go i H/\∀x H',J.yld i H x H'->g x σ H' λσ2 H2=>tb {D with nx:=Unr J g tb D r (i+1),ct:=Unr J g tb D r (i+1),bk:=D.nx} σ2 H2
section
variable{J:It}{g:TG}{tb:TS}{D:Ends}{σ:St}{H:Hp}{r i n:Nat}{lo c:Int}
theorem unr(r:Nat)(h:Unr J g tb D r 0 σ H):Bg J g tb D σ H:=by
 refine⟨λi m σ H=>Unr J g tb D m i σ H,⟨r,h⟩,λi m σ H w=>?_⟩
 cases m with
 |zero=>exact .inl w
 |succ m=>exact .inr ⟨w.1,_,λσ' H' z=>⟨m,Nat.lt_succ_self _,z⟩,w.2⟩
theorem Cy(hi:i<n)(h:g (.int (lo+i*c)) σ H λσ2 H2=>tb {D with nx:=Unr (B0 lo c n) g tb D r (i+1),ct:=Unr (B0 lo c n) g tb D r (i+1),bk:=D.nx} σ2 H2):Unr (B0 lo c n) g tb D (r+1) i σ H:=⟨hi,λx H' y=>by obtain⟨rfl,rfl⟩:=y;exact h⟩
end
end L2
namespace BrS
open L2 PySem PySem.Spec PyProof.Rows BrM BrC BrR BrTx BrB BrI
section
variable{k j:Nat}{a:List Nat}{L:List (List Int)}
end
theorem Fj{K:W.Frag}{D:Ends}{σ:L2.St}{H H1 H':Hp}{s':Addr}{ad:Nat->Addr}{n st:Nat}{T:Nat->Nat->V}(e2:σ[2]? =some (some (.ref s')))(e3:σ[3]? =some (some (.int (st:Int))))(hst:st<=n)(tb:Tv H H1 H' s' ad n T)
 (q:∀v H'',Tv H H1 H'' s' ad n (λa b=>if a=st then(if b=st then v else T a b)else T a b)->Bt (λb=>H1 b=none) H'' v (some (1,[]))->(∀b x,H1 b=none->H' b=some x->H'' b=some x)->D.nx σ H''):
 Bf (GU (Bd (tC (.int 1)) (Bd (C4 tNil) tNil))) (Gf (tOp (Cd K) (A7 2) (A7 3)) (A7 3) rSetL) D σ H':=by
 refine⟨small (show 0<=1000 by decide),λa ha=>⟨small (show 2<=1000 by decide),λT1 hT=>?_⟩⟩;have t1:=AI ha (.lst []);have t2:=AI hT (.tup [.int 1, .ref a]);have t:=tb.same (t1.trans t2);refine⟨_,e2,_,e3,AN (SqL.of t.top) (Av (t.at hst)) ⟨_,e3,CG (t.row st hst) (Fm (by rw[Jb];lia)) (q (.ref T1) _ (t.set hst) ?_ λb x f z=>t.keep hst b x f (t2 _ _ (t1 _ _ z)))⟩⟩;exact⟨T1,a,rfl,tb.gr _ (t1.free hT),tb.gr _ ha,t.keep hst _ _ (tb.gr _ (t1.free hT)) AF,t.keep hst _ _ (tb.gr _ ha) (t2 _ _ AF)⟩
def Ep(K:W.Frag)(cs:Cs)(C:Addr)(i:Nat):Bool:=
 W.mroIn K C (.ref cs.RowError)==some true&&W.kitOne K (.ref C) (.type "ValueError")==some true&&W.kitAny K (.ref C) ([cs.NoPlace,cs.NoTree,cs.NoWeights,cs.TooMany].map Value.ref)==some false&&
 ([cs.NoRow,cs.NoName,cs.NoKinds,cs.NoLine,cs.NoNumber,cs.NotRight,cs.NoFilling].map λc=>W.kitOne K (.ref C) (.ref c))==(List.range 7).map λj=>some (j==i)
def LA(K:W.Frag)(cs:Cs):Bool:=(List.range 7).all λi=>Ep K cs ([cs.NoRow,cs.NoName,cs.NoKinds,cs.NoLine,cs.NoNumber,cs.NotRight,cs.NoFilling].getD i 0) i
inductive Fct (K:W.Frag) (cs:Cs) (C:Addr) (nm:List Nat):Prop
 |mk (b1 b2 b3 b4 b5 b6 b7:Bool) (j:Nat) (wd:List Nat) (_:W.mroIn K C (.ref cs.RowError)=some true) (_:W.kitOne K (.ref C) (.ref cs.NoRow)=some b1) (_:W.kitOne K (.ref C) (.ref cs.NoName)=some b2) (_:W.kitOne K (.ref C) (.ref cs.NoKinds)=some b3) (_:W.kitOne K (.ref C) (.ref cs.NoLine)=some b4) (_:W.kitOne K (.ref C) (.ref cs.NoNumber)=some b5) (_:W.kitOne K (.ref C) (.ref cs.NotRight)=some b6) (_:W.kitOne K (.ref C) (.ref cs.NoFilling)=some b7) (_:W.kitAny K (.ref C) ([cs.NoPlace,cs.NoTree,cs.NoWeights,cs.TooMany].map Value.ref)=some false) (_:W.kitOne K (.ref C) (.type "ValueError")=some true) (_:[b1,b2,b3,b4,b5,b6,b7].count true=1) (_:[b1,b2,b3,b4,b5,b6,b7][j]? =some true) (_:(∀m,m<j->[b1,b2,b3,b4,b5,b6,b7][m]? ≠some true)) (_:atI [tx [78,111,82,111,119],tx [78,111,78,97,109,101],tx [78,111,75,105,110,100,115],tx [78,111,76,105,110,101],tx [78,111,78,117,109,98,101,114],tx [78,111,116,82,105,103,104,116],tx [78,111,70,105,108,108,105,110,103]] (j:Int)=some (tx wd)) (_:nm=9::wd) (_:wd.length<=10)
theorem O8{K:W.Frag}{cs:Cs}(h:LA K cs=true){C:Addr}{nm:List Nat}(hC:Cap8 cs C nm):Fct K cs C nm:=by
 have k:∀i,i<7->Ep K cs ([cs.NoRow,cs.NoName,cs.NoKinds,cs.NoLine,cs.NoNumber,cs.NotRight,cs.NoFilling].getD i 0) i=true:=λi hi=>List.all_eq_true.mp h i (List.mem_range.mpr hi);have f:∀ (C:Addr) (i:Nat) (wd:List Nat),Ep K cs C i=true->[0==i,1==i,2==i,3==i,4==i,5==i,6==i].count true=1/\[0==i,1==i,2==i,3==i,4==i,5==i,6==i][i]? =some true/\(∀m,m<i->[0==i,1==i,2==i,3==i,4==i,5==i,6==i][m]? ≠some true)->atI [tx [78,111,82,111,119],tx [78,111,78,97,109,101],tx [78,111,75,105,110,100,115],tx [78,111,76,105,110,101],tx [78,111,78,117,109,98,101,114],tx [78,111,116,82,105,103,104,116],tx [78,111,70,105,108,108,105,110,103]] (i:Int)=some (tx wd)->wd.length<=10->Fct K cs C (9::wd):=by
  intro C i wd hk hc hw hl;unfold Ep at hk;simp only[Bool.and_eq_true,beq_iff_eq,List.map_cons,List.map_nil,List.range,List.range.loop,List.cons.injEq,and_true]at hk;obtain⟨⟨⟨a1,a2⟩,a3⟩,a4,a5,a6,a7,a8,a9,a10⟩:=hk;exact⟨_,_,_,_,_,_,_,i,wd,a1,a4,a5,a6,a7,a8,a9,a10,a3,a2,hc.1,hc.2.1,hc.2.2,hw,rfl,hl⟩
 cases hC
 ·exact f _ 0 _ (k 0 (by decide)) (by decide) rfl (by decide)
 ·exact f _ 1 _ (k 1 (by decide)) (by decide) rfl (by decide)
 ·exact f _ 2 _ (k 2 (by decide)) (by decide) rfl (by decide)
 ·exact f _ 3 _ (k 3 (by decide)) (by decide) rfl (by decide)
 ·exact f _ 4 _ (k 4 (by decide)) (by decide) rfl (by decide)
 ·exact f _ 5 _ (k 5 (by decide)) (by decide) rfl (by decide)
 ·exact f _ 6 _ (k 6 (by decide)) (by decide) rfl (by decide)
end BrS
namespace L2
open PySem PySem.Spec PyProof.Rows
def AllP{β:Type}(Q:Str->β->Prop):List (Str×β)->Prop
 |[]=>True
 |(x,b)::r=>Q x b/\AllP Q r
theorem AllP.map{β:Type}{Q R:Str->β->Prop}(h:∀x b,Q x b->R x b):∀ {l:List (Str×β)},AllP Q l->AllP R l
 |[],_=>trivial
 |(_,_)::_,z=>⟨h _ _ z.1,AllP.map h z.2⟩
theorem AllP.at{β:Type}{Q:Str->β->Prop}:∀ {l:List (Str×β)},AllP Q l->∀ (i:Nat) {x:Str} {b:β} (_:l[i]? =some (x,b):=by rfl),Q x b
 |(_,_)::_,z,0,_,_,e=>by cases e;exact z.1
 |(_,_)::_,z,i+1,_,_,e=>AllP.at z.2 i e
section
variable{P:Program}{w:World}{K:W.Frag}{mg:Str->Option Value}{base h:Heap}{x q:Str}{st:Stmt}{N ps:List Str}{sp:Sp}{k:Nat}{C f:Addr}{fd:FuncData}{c:Addr×Str×Stmt}
def FnN(K:W.Frag)(x:Str)(st:Stmt):Prop:=∃f fd,W.nsIn K mainGlobals x=some (some (.ref f))/\Fun K x x st f fd
def FnA(K:W.Frag)(mg:Str->Option Value)(x:Str)(st:Stmt):Prop:=∃f fd,mg x=some (.ref f)/\Fun K x x st f fd
def MtA(K:W.Frag)(q:Str)(c:Addr×Str×Stmt):Prop:=∃f fd,Meth K c.1 c.2.1 f/\Fun K c.2.1 q c.2.2 f fd
def ClN(K:W.Frag)(x:Str)(a:Addr):Prop:=W.nsIn K mainGlobals x=some (some (.ref a))/\Ei K a=true
abbrev ClA(K:W.Frag)(mg:Str->Option Value)(x:Str)(a:Addr):Prop:=mg x=some (.ref a)/\ECls K a
def GlN(K:W.Frag)(x:Str)(v:V):Prop:=∃u,W.nsIn K mainGlobals x=some (some u)/\RelV v u
abbrev GlA(mg:Str->Option Value)(x:Str)(v:V):Prop:=∃u,mg x=some u/\RelV v u
section
variable{oc:Value}{od an:Option Addr}{osl:Array (Option Value)}{kV doc pm cdv ct:Value}{F:List (Str×Stmt)}{M:List (Str×Addr×Str×Stmt)}{R:List (Str×Addr)}{G:List (Str×V)}{m:Str}{a:Addr}
theorem AllP.fn(i:W.nsIn K mainGlobals x=some (some (.ref f)))(l:K.lookup f=some ⟨oc,od, .func (W.fnOf x x (CU st) (Bl st) (AU st) .none kV doc pm an cdv ct),osl⟩)(c:W.codeIn K cdv x=true)(k:W.keepIn K (.ref f)=true)(t:AllP (FnN K) F):AllP (FnN K) ((x,st)::F):=⟨⟨f,_,i,Kc l c k⟩,t⟩
theorem AllP.mt(i:W.findIn K (.ref C) m=some (some (.ref f)))(n:W.isFn K (.ref f)=true)(l:K.lookup f=some ⟨oc,od, .func (W.fnOf m q (CU st) (Bl st) (AU st) .none kV doc pm an cdv ct),osl⟩)(c:W.codeIn K cdv q=true)(k:W.keepIn K (.ref f)=true)(t:AllP (MtA K) M):AllP (MtA K) ((q,C,m,st)::M):=⟨⟨f,_,⟨i,n,k⟩,Kc l c k⟩,t⟩
theorem AllP.cl(i:W.nsIn K mainGlobals x=some (some (.ref a)))(e:Ei K a=true)(t:AllP (ClN K) R):AllP (ClN K) ((x,a)::R):=⟨⟨i,e⟩,t⟩
theorem AllP.tx{s:Str}{u:Tok}{b:List Nat}(i:W.nsIn K mainGlobals x=some (some (.str s u)))(e:s=⟨b.toArray⟩)(t:AllP (GlN K) G):AllP (GlN K) ((x,tx b)::G):=⟨⟨_,i,by rw[e];exact⟨_,rfl⟩⟩,t⟩
theorem AllP.int{s b:Int}{u:Tok}(i:W.nsIn K mainGlobals x=some (some (.int s u)))(e:s=b)(t:AllP (GlN K) G):AllP (GlN K) ((x, .int b)::G):=⟨⟨_,i,by rw[e];exact⟨_,rfl⟩⟩,t⟩
theorem AllP.ref(i:W.nsIn K mainGlobals x=some (some (.ref a)))(t:AllP (GlN K) G):AllP (GlN K) ((x, .ref a)::G):=⟨⟨_,i,rfl⟩,t⟩
theorem fnA(X:K.In h)(G:h.Ns mainGlobals mg)(z:AllP (FnN K) F):AllP (FnA K mg) F:=z.map λ_ _ ⟨f,fd,i,F⟩=>⟨f,fd,W.mg_of X G i,F⟩
theorem clA(X:K.In h)(G:h.Ns mainGlobals mg)(z:AllP (ClN K) R):AllP (ClA K mg) R:=z.map λ_ _ ⟨i,e⟩=>⟨W.mg_of X G i,Rq e⟩
theorem glA(X:K.In h)(G':h.Ns mainGlobals mg)(z:AllP (GlN K) G):AllP (GlA mg) G:=z.map λ_ _ ⟨u,i,e⟩=>⟨u,W.mg_of X G' i,e⟩
end
def nbB(K:W.Frag)(l:List Str):Bool:=l.all λx=>W.nsIn K mainGlobals x==some none
theorem nbA{l:List Str}(X:K.In h)(G:h.Ns mainGlobals mg)(z:nbB K l=true):∀x∈l,mg x=none:=λx hx=>W.mg_none_of X G (beq_iff_eq.mp (List.all_eq_true.mp z x hx))
def Ll(K:W.Frag)(C:Addr)(l:List Str):Bool:=W.plainGet K C Str.empty&&W.hasDictIn K C&&W.plainOver K C&&(W.findIn K (.ref C) "__setattr__"==some (some (.builtin "object.__setattr__")))&&W.makesIn K C&&W.keepIn K (.ref C)&&
 l.all λx=>W.findIn K (.ref C) x==some none
structure Own (K:W.Frag) (mg:Str->Option Value) (x:Str) (C:Addr) (l:List Str):Prop where
 c:mg x=some (.ref C)
 cl:Cls K C
 ma:W.makesIn K C=true
 kp:W.keepIn K (.ref C)=true
 n:∀f∈l,NoAttr K C f
theorem Own.at{l:List Str}(o:Own K mg x C l)(i:Nat){f:Str}(h:l[i]? =some f:=by rfl):NoAttr K C f:=o.n f (List.mem_of_getElem? h)
theorem Own.fl{l:List Str}(o:Own K mg x C l)(i:Nat){d dx:Addr}{fs:List (Str×V)}{f:Str}{v:V}{H:Hp}{R:V->Prop}(ob:H d=some (.ins C dx fs))(q:R v)(h:l[i]? =some f:=by rfl)(e:fs.lookup f=some v:=by rfl):
 ∃a C' dx' fs' v',V.ref d= .ref a/\H a=some (.ins C' dx' fs')/\Cls K C'/\NoAttr K C' f/\fs'.lookup f=some v'/\R v':=⟨d,C,dx,fs,v,rfl,ob,o.cl,o.at i h,e,q⟩
theorem ownA{l:List Str}(X:K.In h)(G:h.Ns mainGlobals mg)(y:W.nsIn K mainGlobals x=some (some (.ref C)))(z:Ll K C l=true):Own K mg x C l:=by
 unfold Ll at z;simp only[Bool.and_eq_true,beq_iff_eq,List.all_eq_true]at z;obtain⟨⟨⟨⟨⟨⟨a,b⟩,c⟩,d⟩,e⟩,f⟩,g⟩:=z;exact⟨W.mg_of X G y,⟨a,b,c,d⟩,e,f,g⟩
theorem scN{sc:Scope}(N:List Str)(a:sc.kind= .function:=by rfl)(b:sc.isCoroutine=false:=by rfl)(c:sc.isGenerator=false:=by rfl)(d:N.Nodup:=by decide +kernel)(e:N.take ps.length=ps:=by rfl)(f:∀x∈ps,sc.names.lookup x=some .local\/sc.names.lookup x=some .cell:=by decide +kernel)(g:∀y∈sc.names,y.2≠ .free:=by decide +kernel):FnScope N ps sc:=⟨a,b,c,d,e,f,g⟩
theorem us0{P:List Value->Prop}(h:P []):∀us,us.length=0->P us:=λus e=>by cases us with|nil=>exact h|cons a r=>cases e
theorem usS{n:Nat}{P:List Value->Prop}(h:∀a us,us.length=n->P (a::us)):∀us,us.length=n+1->P us:=λus e=>by cases us with|nil=>cases e|cons a r=>exact h a r (Nat.succ.inj e)
theorem us1{P:List Value->Prop}(h:∀a,P [a]):∀us,us.length=1->P us:=usS λa=>us0 (h a)
theorem us2{P:List Value->Prop}(h:∀a b,P [a,b]):∀us,us.length=2->P us:=usS λa=>us1 (h a)
theorem us3{P:List Value->Prop}(h:∀a b c,P [a,b,c]):∀us,us.length=3->P us:=usS λa=>us2 (h a)
theorem us4{P:List Value->Prop}(h:∀a b c d,P [a,b,c,d]):∀us,us.length=4->P us:=usS λa=>us3 (h a)
def Ln(ps:List Str)(sp:Sp):Sp:=λvs H Q E=>vs.length=ps.length/\sp vs H Q E
theorem VW{vs:List V}{H:Hp}{Q:VK}{E:XK}(e:vs.length=ps.length)(h:sp vs H Q E):Ln ps sp vs H Q E:=⟨e,h⟩
abbrev FuV(P:Program)(w:World)(K:W.Frag)(mg:Str->Option Value)(base:Heap)(k:Nat)(x:Str)(ps:List Str)(sp:Sp):Prop:=FnU P w K mg base k x ps (Ln ps sp)
abbrev Aa(P:Program)(w:World)(K:W.Frag)(mg:Str->Option Value)(base:Heap)(k:Nat)(x:Str)(ps:List Str)(sp:Sp):Prop:=FnUE P w K mg base k x ps (Ln ps sp)
abbrev MeV(P:Program)(w:World)(K:W.Frag)(mg:Str->Option Value)(base:Heap)(k:Nat)(C:Addr)(x:Str)(ps:List Str)(sp:Sp):Prop:=MeU P w K mg base k C x ps (Ln ps sp)
abbrev Lz(P:Program)(w:World)(K:W.Frag)(mg:Str->Option Value)(base:Heap)(k:Nat)(C:Addr)(x:Str)(ps:List Str)(sp:Sp):Prop:=MeUE P w K mg base k C x ps (Ln ps sp)
abbrev MkV(P:Program)(w:World)(K:W.Frag)(mg:Str->Option Value)(base:Heap)(k:Nat)(C:Addr)(ps:List Str)(sp:Sp):Prop:=MkU P w K mg base k C ps (Ln ps sp)
def Bnd(x q:Str)(st:Stmt)(ps:List Str):Prop:=∀ (kV doc pm:Value) (an:Option Addr) (cdv ct:Value) (us:List Value),us.length=ps.length->bindArgs (W.fnOf x q (CU st) (Bl st) (AU st) .none kV doc pm an cdv ct) ⟨us,[]⟩=pure (ps.zip us)
def Bdy(P:Program)(w:World)(K:W.Frag)(mg:Str->Option Value)(base:Heap)(N:List Str)(q:Str)(st:Stmt)(k:Nat)(sp:Sp):Prop:=
 ∀ (nd:N.Nodup) (f:Addr) (cdv:Value) (A:Around) (outer:List Env) (s:Shared) (H:Hp) (vs:List V) (Q:VK) (E:XK),Room k (A.deeper (envOfC q (AU st) s.heap.objs.size f cdv))->sp vs H Q E->
   ∃t,PSs (Cf CX0 P w K mg base N q (AU st) f cdv A outer s H E).nox (Bl st) t/\t {nx:=λ_ H'=>Q .non H',rt:=Q} (start N vs) H
def L7(P:Program)(w:World)(K:W.Frag)(mg:Str->Option Value)(base:Heap)(N:List Str)(q:Str)(st:Stmt)(k:Nat)(sp:Sp):Prop:=
 ∀ (nd:N.Nodup) (f:Addr) (cdv:Value) (A:Around) (outer:List Env) (s:Shared) (H:Hp) (vs:List V) (Q:VK) (E:XK),Room k (A.deeper (envOfC q (AU st) s.heap.objs.size f cdv))->sp vs H Q E->
   ∃t,PSs (cxE P w K mg base N q st f cdv A outer s H E) (Bl st) t/\t {nx:=λ_ H'=>Q .non H',rt:=Q} (start N vs) H
theorem FnA.u(p:FnA K mg x st)(S:FnScope N ps (AU st))(b:Bdy P w K mg base N x st k sp)
 (hb:Bnd x x st ps:=by and_intros):FuV P w K mg base (k+1) x ps sp:=
 let⟨f,fd,m,F⟩:=p;⟨f,fd,F.ok S (λ_ _ _ _ h=>h.1) λcdv A outer s H vs Q E r h=>b S.nd f cdv A outer s H vs Q E r h.2,m,F.kp,F.binds hb⟩
theorem FnA.uE(p:FnA K mg x st)(S:FnScope N ps (AU st))(b:L7 P w K mg base N x st k sp)
 (hb:Bnd x x st ps:=by and_intros):Aa P w K mg base (k+1) x ps sp:=
 let⟨f,fd,m,F⟩:=p;⟨f,fd,F.okE S (λ_ _ _ _ h=>h.1) λcdv A outer s H vs Q E r h=>b S.nd f cdv A outer s H vs Q E r h.2,m,F.kp,F.binds hb⟩
theorem MtA.u{m:Str}(p:MtA K q (C,m,st))(S:FnScope N ps (AU st))(b:Bdy P w K mg base N q st k sp)
 (hb:Bnd m q st ps:=by and_intros):MeV P w K mg base (k+1) C m ps sp:=
 let⟨f,fd,m,F⟩:=p;⟨f,fd,F.ok S (λ_ _ _ _ h=>h.1) λcdv A outer s H vs Q E r h=>b S.nd f cdv A outer s H vs Q E r h.2,m,F.binds hb⟩
theorem MtA.uE{m:Str}(p:MtA K q (C,m,st))(S:FnScope N ps (AU st))(b:L7 P w K mg base N q st k sp)
 (hb:Bnd m q st ps:=by and_intros):Lz P w K mg base (k+1) C m ps sp:=
 let⟨f,fd,m,F⟩:=p;⟨f,fd,F.okE S (λ_ _ _ _ h=>h.1) λcdv A outer s H vs Q E r h=>b S.nd f cdv A outer s H vs Q E r h.2,m,F.binds hb⟩
theorem MtA.m{l:List Str}(p:MtA K q (C,"__init__",st))(o:Own K mg x C l)(S:FnScope N ps (AU st))(b:Bdy P w K mg base N q st k sp)
 (hb:Bnd "__init__" q st ps:=by and_intros):MkV P w K mg base (k+2) C ps sp:=
 let⟨f,fd,m,F⟩:=p;⟨⟨_,f,fd,Nat.le_refl _,F.ok S (λ_ _ _ _ h=>h.1) λcdv A outer s H vs Q E r h=>b S.nd f cdv A outer s H vs Q E r h.2,⟨o.ma,m.at_,m.fn,o.kp⟩,F.binds hb⟩⟩
theorem Vl(F:Fun K x q st f fd)(S:FnScope N ps (AU st))(b:Bdy P w K mg base N q st k sp):FnOk P w K mg base CX0 (k+1) f fd ps (Ln ps sp):=
 F.ok S (λ_ _ _ _ h=>h.1) λcdv A outer s H vs Q E r h=>b S.nd f cdv A outer s H vs Q E r h.2
theorem Tr{fa:Addr}{n:Nat}(p:FnA K mg "law" st)(hfa:mg "law"=some (.ref fa))(hb:∀ (s:Shared) (kV doc pm:Value) (an:Option Addr) (cdv ct v:Value),BindsTo s (W.fnOf "law" "law" (CU st) (Bl st) (AU st) .none kV doc pm an cdv ct) ⟨[v],[]⟩ [("script",v)])
 (ok:∀ (base:Heap) {f fd},Fun K "law" "law" st f fd->FnOk P w K mg base CX0 n f fd ["script"] sp):∃fd:FuncData,(∀ (s:Shared) (v:Value),BindsTo s fd ⟨[v],[]⟩ [("script",v)])/\∀base:Heap,K.In base->base.Ns mainGlobals mg->FnOk P w K mg base CX0 n fa fd ["script"] sp:=by
 obtain⟨f,fd,m,F⟩:=p
 cases hfa.symm.trans m
 have F0:=F;obtain⟨oc,od,kV,doc,pm,an,cdv,ct,osl,rfl,lk,hcd⟩:=F.ex;exact⟨_,λs v=>hb s kV doc pm an cdv ct v,λbase _ _=>ok base F0⟩
end
section
variable{X:Cx}{x:Str}{e o i a b:Expr}{es:List Expr}{te td ty ta tb:TE}{t:TA}{pos pos' p:Pos}{r:R2}{op:CmpOp}
theorem AM(i:Nat)(he:PE X e te)(nd:X.N.Nodup:=by assumption)(hi:X.N[i]? =some x:=by rfl)(hx:Loc X.env.scope x:=by exact Or.inl rfl)(hs:swapsWith e (some (.Name x pos')) pos.line X.env=pure false:=by rfl)
 (hf:X.fn x=true\/X.env.scope.names.lookup x=some .local:=by first|exact .inl rfl|exact .inr rfl|assumption):PS X (.Assign [.Name x pos'] e pos) (Bf te (Aw i)):=CH nd hi hx he hs hf
theorem Af(i:Nat)(nd:X.N.Nodup:=by assumption)(hi:X.N[i]? =some x:=by rfl)(hx:Loc X.env.scope x:=by exact Or.inl rfl)(hf:X.fn x=true\/X.env.scope.names.lookup x=some .local:=by first|exact .inl rfl|exact .inr rfl|assumption):PG X (.Name x pos) (Aw i):=Ah nd hi hx hf
theorem AH(K:W.Frag)(ha:PE X a ta)(hb:PE X b tb)(hs:KC b:=by exact λ_ _=>rfl)(hK:X.K=K:=by rfl):PE X (.Subscript a b pos) (tOp (Cd K) ta tb):=U8 (Vi K hK) ha hb hs
theorem Bx(hu:X.A.units+1<cLine)(ho:PE X o td)(hi:PE X i ty)(hs:D8 i:=by exact λ_ _=>rfl):PE X (.Subscript o i pos) (GJ td ty):=RT hu ho hi hs
theorem F7(P:Program)(w:World)(K:W.Frag)(ho:PE X o td)(hi:PE X i ty)(hs:D8 i:=by exact λ_ _=>rfl)(hP:X.prog=P:=by rfl)(hw:X.w=w:=by rfl)(hK:X.K=K:=by rfl):PE X (.Subscript o i pos) (Fu P w K td ty):=P0 P w K ho hi hs hP hw hK
theorem BM(ho:OpR X (compareOp op) r)(ha:PE X a ta)(hb:PE X b tb)(hm:behindInMarks op b=false:=by exact Ka _):PE X (.Compare a [op] [b] pos) (tOp r ta tb):=RU ho ha hb hm
theorem AS(ho:OpR X (compareOp op) r)(ha:PE X a ta)(hb:PE X b tb)(hm:behindInMarks op b=false:=by exact Ka _):PT X (.Compare a [op] [b] pos) (DI (tOp r ta tb)):=RH ho ha hb hm
theorem Ar(K:W.Frag)(hm:X.mg "len"=none)(ha:PA X [e] t)(hg:Gl X "len":=by rfl)(hs:starEach [e] X.env=(false,eval e X.env)::starEach [] X.env:=by rfl)(hp:(backTo pos (starEach [] X.env)).any (·.1)=false:=by rfl)(hK:X.K=K:=by rfl):PE X (.Call (.Name "len" p) [e] [] pos) (tCB (D3 K) t):=Ag (PJ K hK) hg hm PySem.boot_len ha (by decide) (by decide) hs hp
end
theorem Vk{G:Prop}(k:∀R:Prop,(G->R)->R):G:=k G id
section
variable{σ:St}{H:Hp}{Q:VK}{R:List V->Hp->Prop}{D:Ends}{i j:Nat}{v w c:V}{r:R2}{ta tb te:TE}{tr:TA}{u a b:TS}
theorem Ua(h:te σ H λx H1=>u D (σ.set i (some x)) H1):Dy (Bf te (Aw i)) u D σ H:=h
theorem U4(h:te σ H λx H1=>D.nx (σ.set i (some x)) H1):Bf te (Aw i) D σ H:=h
theorem SR(e:σ[i]? =some (some v))(f:σ[j]? =some (some w))(h:r v w H Q):tOp r (A7 i) (A7 j) σ H Q:=⟨v,e,w,f,h⟩
theorem SS(e:σ[i]? =some (some v))(h:r v c H Q):tOp r (A7 i) (tC c) σ H Q:=⟨v,e,h⟩
theorem Ug(e:σ[i]? =some (some v))(h:tb σ H λy H2=>r v y H2 Q):tOp r (A7 i) tb σ H Q:=⟨v,e,h⟩
theorem SU(h:ta σ H λx H1=>r x c H1 Q):tOp r ta (tC c) σ H Q:=h
theorem U1(e:σ[i]? =some (some v))(h:R [v] H):Bd (A7 i) tNil σ H R:=⟨v,e,h⟩
theorem Vb(e:σ[i]? =some (some v))(h:tr σ H λxs H2=>R (v::xs) H2):Bd (A7 i) tr σ H R:=⟨v,e,h⟩
theorem Vc(h:ta σ H λx H1=>R [x] H1):Bd ta tNil σ H R:=h
theorem Ur(h:te σ H λx H1=>∃k,x= .bl k/\if k=true then a D σ H1 else b D σ H1):DN (DI te) a b D σ H:=h
end
def D9(U R:St->Hp->Prop):Prop:=∀σ H,U σ H->R σ H
def L5(U R:VK):Prop:=∀v H,U v H->R v H
def Opn(U B:St->Hp->Prop)(V:VK)(G:Ends->Prop):Prop:=∀R S T,D9 U R->D9 B S->L5 V T->G ⟨R,T,S,R⟩
theorem Tq{U R:St->Hp->Prop}{σ:St}{H:Hp}(i:D9 U R)(h:U σ H):R σ H:=i _ _ h
section
variable{U B:St->Hp->Prop}{V':VK}{G:Ends->Prop}{g:TG}{tb:TS}{D:Ends}{σ:St}{H:Hp}{lo c:Int}{n:Nat}{K:W.Frag}{a:Addr}{xs:List V}{l:List Nat}
theorem Ue(h:∀R S T,D9 U R->D9 B S->L5 V' T->G ⟨R,T,S,R⟩):Opn U B V' G:=h
theorem Opn.go(h:Opn U B V' G):G ⟨U,V',B,U⟩:=h _ _ _ (λ_ _ z=>z) (λ_ _ z=>z) λ_ _ z=>z
theorem Ir(Pv:Nat->St->Hp->Prop)(h0:Pv 0 σ H)(hs:∀i σ H,i<n->Pv i σ H->Opn (Pv (i+1)) D.nx D.rt λD=>g (.int (lo+i)) σ H λσ2 H2=>tb D σ2 H2)(hd:∀σ H,Pv n σ H->D.nx σ H):Bg (Itr lo n) g tb D σ H:=Rm Pv h0 (λi σ H hi p=>(hs i σ H hi p).go) hd
theorem QN(Pv:Nat->St->Hp->Prop)(h0:Pv 0 σ H)(hl:∀i σ H,i<=xs.length->Pv i σ H->SqL K H a xs)(hs:∀i x σ H,xs[i]? =some x->Pv i σ H->Opn (Pv (i+1)) D.nx D.rt λD=>g x σ H λσ2 H2=>tb D σ2 H2)(hd:∀σ H,Pv xs.length σ H->D.nx σ H):Bg (Itl K a) g tb D σ H:=Rn Pv h0 hl (λi x σ H e p=>(hs i x σ H e p).go) hd
theorem QL{a:List Nat}(Pv:Nat->St->Hp->Prop)(h0:Pv 0 σ H)(hs:∀i c σ H,a[i]? =some c->Pv i σ H->Opn (Pv (i+1)) D.nx D.rt λD=>g (tx [c]) σ H λσ2 H2=>tb D σ2 H2)(hd:∀σ H,Pv a.length σ H->D.nx σ H):Bg (Its ⟨a.toArray⟩) g tb D σ H:=Rk Pv h0 (λi c σ H e p=>(hs i c σ H e p).go) hd
theorem FD(Pv:Nat->St->Hp->Prop)(h0:Pv 0 σ H)(hs:∀i σ H,i<n->Pv i σ H->Opn (Pv (i+1)) D.nx D.rt λD=>g (.int (lo+i*c)) σ H λσ2 H2=>tb D σ2 H2)(hd:∀σ H,Pv n σ H->D.nx σ H):Bg (B0 lo c n) g tb D σ H:=QM Pv h0 (λi σ H hi p=>(hs i σ H hi p).go) hd
theorem PU{Pv:St->Hp->Prop}{μ:St->Hp->Nat}{m:Nat}(h:Opn (WN Pv μ m) D.nx D.rt λD=>tb D σ H):
 ∃N:St->Hp->Prop,(∀σ' H',N σ' H'->∃m',m'<m/\(m'=μ σ' H'/\Pv σ' H'))/\tb {D with nx:=N,ct:=N,bk:=D.nx} σ H:=Qd h.go
end
def tNever9:TE:=λ_ _ _=>False
theorem Ii{X:Cx}{e:Expr}:PE X e tNever9:=λ_ _ _ _ _ _ h=>h.elim
def ttNever9:TT:=λ_ _ _=>False
theorem Pn{X:Cx}{e:Expr}:PT X e ttNever9:=λ_ _ _ _ _ _ h=>h.elim
section
variable{J:It}{own:List Str}{sel:List Nat}{σ:St}{g:TG}{tt:TT}{te:TE}{Q:VK}{H:Hp}
theorem JE(hst:∀H',Same H H'->J.stop 0 H')(h:∀D H',H D=none->Same H H'->H' D=some (.lst [])->Q (.ref D) H'):BJ J own sel σ g tt te Q H:=by
 intro D hD;refine⟨λi m H'=>i=0/\H'=upd H D (.lst []),⟨0,rfl,rfl⟩,?_⟩;rintro i m H2 ⟨rfl,rfl⟩;exact .inl ⟨hst _ (AI hD _),h D _ hD (AI hD _) AF⟩
end
end L2
namespace BrS
open L2 PySem PySem.Spec PyProof.Rows BrM BrC BrR BrTx BrB BrI
def rW:List Nat:=[41,40]
def rF:List Nat:=List.replicate 40 40
structure Ask9 (C:Addr) (H:Hp) (vs:List V) (d ws r:Addr) (kvs:Kv) (one:List Nat) (more:List V) (a:List Nat):Prop where
 vs:vs=[.ref d, .ref ws]
 dk:Dk C H d r 2 kvs
 ws:H ws=some (.lst (tx one::more))
 val:AR kvs (kyT one)=some (tx a)
 row:isRow 2 a=true
inductive spMay9 (C:Addr) (vs:List V) (H:Hp) (Q:VK) (E:XK):Prop
 |mk (d ws r kvs one:_) (_:Ask9 C H vs d ws r kvs one [] rW) (_:∀H',Same H H'->Q (tx (yn false)) H')
inductive spMany9 (C:Addr) (vs:List V) (H:Hp) (Q:VK) (E:XK):Prop
 |mk (d ws r kvs one a:_) (_:Ask9 C H vs d ws r kvs one [] a) (_:∀H',Same H H'->Q (tx (Aj (cnt 2 a).toNat)) H')
inductive spNth9 (cs:Cs) (C:Addr) (vs:List V) (H:Hp) (Q:VK) (E:XK):Prop
 |mk (d ws r kvs one a n:_) (_:Ask9 C H vs d ws r kvs one [tx (Aj n)] a) (_:n<10^9) (_:(a=[]/\n=0/\∀H',Same H H'->Q (tx tNone) H')\/(cnt 2 a<=n/\Ref E cs.NoNumber H))
inductive spNumber9 (cs:Cs) (C:Addr) (vs:List V) (H:Hp) (Q:VK) (E:XK):Prop
 |mk (d ws r kvs one a b:_) (_:Ask9 C H vs d ws r kvs one [tx b] a) (_:b.length<=1000) (_:(isRow 2 b=false/\Ref E cs.NoLine H)\/(isRow 2 b=true/\filB 2 a b=false/\Ref E cs.NotRight H))
inductive spSure9 (cs:Cs) (C:Addr) (vs:List V) (H:Hp) (Q:VK) (E:XK):Prop
 |mk (d ws r kvs one a:_) (_:Ask9 C H vs d ws r kvs one [] a) (_:(a=[]/\∀H',Same H H'->Q (tx tNone) H')\/(cnt 2 a=0/\Ref E cs.NoFilling H))
inductive spSayFew9 (C:Addr) (vs:List V) (H:Hp) (Q:VK) (E:XK):Prop
 |mk (d ws r kvs one:_) (_:Ask9 C H vs d ws r kvs one [] rW) (_:∀H',Same H H'->Q (tx [50,32,40,41]) H')
inductive spMore9 (C:Addr) (vs:List V) (H:Hp) (Q:VK) (E:XK):Prop
 |mk (d ws r kvs one:_) (_:Ask9 C H vs d ws r kvs one [] rF) (_:∀H',Same H H'->Q (tx [52,48]) H')
def Dz(cs:Cs)(C:Addr):D15->Sp
 | .kinds=>spSayKinds cs C| .row=>spSayRow8 cs C| .turn=>Ej| .behind=>spSayBehind cs C| .drop=>spSayDrop C| .show=>spSayShow C| .right=>Ej| .may=>spMay9 C| .many=>spMany9 C| .nth=>spNth9 cs C| .number=>spNumber9 cs C| .sure=>spSure9 cs C| .fewest=>spSayFew9 C| .more=>spMore9 C| .names=>spSayNames C
inductive spSayG (D:D15->Sp) (K:W.Frag) (cs:Cs) (C:Addr) (vs:List V) (H:Hp) (Q:VK) (E:XK):Prop
 |mk (d r:Addr) (k:Int) (kvs:Kv) (v:V) (_:vs=[.ref d,v]) (_:Dk C H d r k kvs) (_:((D7 K H v/\Ref E cs.NoRow H)\/∃ (l:List Nat) (dd:D15) (args:List (List Nat)),v=tx l/\l.length<=1000/\knw l=some (dd,args)/\((∃ (i:Nat) (a:List Nat),args[i]? =some a/\dd.form[i]? =some Ai/\AR kvs (kyT a)=none/\Ref E cs.NoName H)\/((∀ (i:Nat) (a:List Nat),args[i]? =some a->dd.form[i]? =some Ai->(AR kvs (kyT a)).isSome=true)/\∀E' ws H',(∀c,Ref E c H->Ref E' c H')->Same H H'->H ws=none->H' ws=some (.lst (args.map tx))->D dd [.ref d, .ref ws] H' Q E'))))
inductive spSaidG (D:D15->Sp) (K:W.Frag) (cs:Cs) (C:Addr) (vs:List V) (H:Hp) (Q:VK) (E:XK):Prop
 |mk (d r:Addr) (k:Int) (kvs:Kv) (v:V) (_:vs=[.ref d,v]) (_:Dk C H d r k kvs) (_:∀ (Q':VK) (E':XK),(∀b H',b.length<=1000->b.head?≠some 9->(∀G,Same H' G->Q (tx b) G)->Q' (tx b) H')->(∀c nm,Cap8 cs c nm->(∀H',Same H H'->Q (tx nm) H')->Ref E' c H)->spSayG D K cs C [.ref d,v] H Q' E')
inductive spManyN (vs:List V) (H:Hp) (Q:VK) (E:XK):Prop
 |mk (a:_) (_:vs=[.int 2,tx a]) (_:isRow 2 a=true) (_:∀H',Same H H'->Q (.int (cnt 2 a)) H')
inductive spNthN (cs:Cs) (vs:List V) (H:Hp) (Q:VK) (E:XK):Prop
 |mk (a n:_) (_:vs=[.int 2,tx a, .int (n:Nat)]) (_:isRow 2 a=true) (_:(a=[]/\n=0/\∀H',Same H H'->Q (tx []) H')\/(cnt 2 a<=n/\Ref E cs.NoNumber H))
inductive spNumberN (cs:Cs) (vs:List V) (H:Hp) (Q:VK) (E:XK):Prop
 |mk (a b:_) (_:vs=[.int 2,tx a,tx b]) (_:isRow 2 a=true) (_:isRow 2 b=true) (_:filB 2 a b=false) (_:Ref E cs.NotRight H)
inductive spPairsN (vs:List V) (H:Hp) (Q:VK) (E:XK):Prop
 |mk (p s:Addr) (_:vs=[.ref p, .ref s]) (_:H p=some (.lst [])) (_:∀ (F:Addr) (H':Hp),Same H H'->H' F=some (.lst [])->Q (.ref F) H')
inductive spSureN (cs:Cs) (vs:List V) (H:Hp) (Q:VK) (E:XK):Prop
 |mk (a:_) (_:vs=[.int 2,tx a]) (_:isRow 2 a=true) (_:(a=[]/\∀ (F:Addr) (H':Hp),Same H H'->H' F=some (.lst [])->Q (.ref F) H')\/(cnt 2 a=0/\Ref E cs.NoFilling H))
def dl9(a:List Nat)(i:Nat):List Int:=if a=rF then [(i:Int)]else if i=0 then [0]else []
def Two9(a:List Nat):Prop:=a=rF\/a=rW
theorem Two9.row{a:List Nat}(h:Two9 a):isRow 2 a=true:=by rcases h with rfl|rfl<;>decide
abbrev tb9(a:List Nat):Nat->Nat->Int:=tbl (PP (a.map (plw (ones 2)))) 2
inductive spBefore9 (vs:List V) (H:Hp) (Q:VK) (E:XK):Prop
 |mk (pp sp sh:Addr) (a:List Nat) (H0:Hp) (ad:Nat->Addr) (j:Nat) (L:List (List Int)) (_:vs=[.ref pp, .ref sp, .ref sh, .int j]) (_:Two9 a) (_:Pls H pp (a.map (plw (ones 2)))) (_:Tb H0 H sp ad a.length (tb9 a)) (_:Pls H sh L) (_:L=(List.range j).map (dl9 a)) (_:j<=a.length) (_:∀p H',H p=none->Same H H'->H' p=some (iL (dl9 a j))->Q (.ref p) H')
inductive spByStop9 (vs:List V) (H:Hp) (Q:VK) (E:XK):Prop
 |mk (a:List Nat) (_:vs=[.int 2,tx a]) (_:Two9 a) (_:∀r H' ad,PlA H H' r ad ((List.range (a.length+1)).map (dl9 a))->Q (.ref r) H')
inductive spDepths9 (vs:List V) (H:Hp) (Q:VK) (E:XK):Prop
 |mk (a:List Nat) (_:vs=[.int 2,tx a]) (_:Two9 a) (_:∀p H',H p=none->Same H H'->H' p=some (iL (dl9 a a.length))->Q (.ref p) H')
inductive spGoOn9 (vs:List V) (H:Hp) (Q:VK) (E:XK):Prop
 |mk (_:vs=[.int 2,tx rW]) (_:∀H',Same H H'->Q (.bl false) H')
inductive spFewMore9 (vs:List V) (H:Hp) (Q:VK) (E:XK):Prop
 |mk (_:vs=[.int 2,tx rF]) (_:∀H',Same H H'->Q (.int 40) H')
theorem Jz{P:Nat->Nat->Int}{k:Nat}(h:∀j p,P j (2*p+1)=0)(m i:Nat):cv P k (m+1) i []=0:=by
 rw[Kk];refine BrC.sm_zero m λe _=>?_;have:pr P k i (i+1+e)=0:=BrC.sm_zero k λp _=>by rw[h,Int.mul_zero]
 rw[this,Int.zero_mul,Int.zero_mul]
theorem PPF(j p:Nat):PP (rF.map (plw (ones 2))) j (2*p+1)=0:=by
 have e:plw (ones 2) 40=[1,0,0,0]:=by decide
 unfold PP rF;rw[List.map_replicate,e,List.getD_eq_getElem?_getD (l:=List.replicate 40 _),List.getElem?_replicate]
 split
 ·match p with
  |0=>rfl
  |1=>rfl
  |p+2=>rw[Option.getD_some,List.getD_eq_getElem?_getD,List.getElem?_eq_none (by simp only[List.length_cons,List.length_nil];lia)];rfl
 ·rfl
theorem tbF{i j:Nat}:tb9 rF i j=if i=j then 1 else 0:=by
 show tbl _ _ _ _=_;unfold tbl
 by_cases e:i=j
 ·subst e;rw[if_pos (Nat.le_refl _),Nat.sub_self,if_pos rfl];rfl
 ·rw[if_neg e]
  split
  ·rename_i h
   obtain⟨m,hm⟩:∃m,j-i=m+1:=⟨j-i-1,by lia⟩;rw[hm];exact Jz PPF m i
  ·rfl
theorem Lu:cnt 2 rF=0:=by
 unfold cnt;rw[show rF.length=39+1 from rfl];exact Jz PPF 39 0
theorem Gh:cnt 2 rW=0:=by decide
theorem Lv:cnt 2 []=1:=by decide
def fT9(a:List Nat)(j:Nat)(L:List (List Int))(i:Nat):List Int:=if((A1 (plw (ones 2) (a.getD i 0))).any λn=>n !=0)=true/\0<tb9 a (i+1) j then(L.getD i []).map (· +1)else []
theorem U6{n:Nat}(h:n<40):rF.getD n 0=40:=by
 unfold rF;rw[List.getD_eq_getElem?_getD,List.getElem?_replicate,if_pos h];rfl
theorem LK{a:List Nat}{i j:Nat}(h:i<j):((List.range j).map (dl9 a)).getD i []=dl9 a i:=by
 rw[List.getD_eq_getElem?_getD,List.getElem?_map,List.getElem?_range h];rfl
theorem fl9{a:List Nat}{j:Nat}(h:Two9 a)(hj:j<=a.length):∀n,n<=j->(List.range n).flatMap (fT9 a j ((List.range j).map (dl9 a)))=if a=rF/\n=j/\0<j then [(j:Int)]else []:=by
 rcases h with rfl|rfl
 ·intro n
  induction n with
  |zero=>intro _;rw[if_neg (by lia)];rfl
  |succ n ih=>
   intro hn;have h40:j<=40:=hj;rw[List.range_succ,List.flatMap_append,ih (by lia),if_neg (by lia),List.nil_append,List.flatMap_singleton];unfold fT9;rw[U6 (by lia),LK (by lia),tbF]
   by_cases e:n+1=j
   ·rw[if_pos ⟨by decide,by rw[if_pos e];decide⟩,if_pos ⟨rfl,e,by lia⟩];unfold dl9;rw[if_pos rfl,<-e];rfl
   ·rw[if_neg (λz=>by rw[if_neg e]at z;exact absurd z.2 (by decide)),if_neg (λz=>e z.2.1)]
 ·have:∀j,j<3->∀n,n<j+1->(List.range n).flatMap (fT9 rW j ((List.range j).map (dl9 rW)))=if rW=rF/\n=j/\0<j then [(j:Int)]else []:=by decide
  exact λn hn=>this j (by have:j<=2:=hj;lia) n (by lia)
theorem UR{a:List Nat}{j:Nat}(h:Two9 a)(hj:j<=a.length):tb9 a 0 j=if j=0 then 1 else 0:=by
 rcases h with rfl|rfl
 ·rw[tbF]
  by_cases e:j=0
  ·rw[if_pos e.symm,if_pos e]
  ·rw[if_neg (λz=>e z.symm),if_neg e]
 ·have:∀j,j<3->tb9 rW 0 j=if j=0 then 1 else 0:=by decide
  exact this j (by have:j<=2:=hj;lia)
theorem Kq{ns l:List Int}(hp:ns.Pairwise (· < ·))(hm:∀x,x∈ns↔x∈l)(h1:l.length<=1):ns=l:=by
 match l,h1 with
 |[],_=>
  match ns with
  |[]=>rfl
  |x::_=>exact absurd ((hm x).mp List.mem_cons_self) (λz=>nomatch z)
 |[y],_=>
  have hy:y∈ns:=(hm y).mpr List.mem_cons_self;have all:∀x∈ns,x=y:=λx hx=>List.mem_singleton.mp ((hm x).mp hx)
  match ns,hp,hy,all with
  |[x],_,_,all=>rw[all x List.mem_cons_self]
  |x::z::r,hp,_,all=>
   have h1:=all x List.mem_cons_self;have h2:=all z (by simp);have:=(List.pairwise_cons.mp hp).1 z List.mem_cons_self;lia
theorem VP{a:List Nat}{j:Nat}(h:Two9 a)(hj:j<=a.length):(List.range j).flatMap (fT9 a j ((List.range j).map (dl9 a)))++(if 0<tb9 a 0 j then [0]else [])=dl9 a j:=by
 rw[fl9 h hj j (Nat.le_refl _),UR h hj];unfold dl9
 by_cases e:j=0
 ·subst e;rw[if_neg (by lia),if_pos rfl,if_pos (by decide),if_pos rfl]
  split<;>rfl
 ·rw[if_neg e,if_neg (show¬ (0:Int)<0 by decide),List.append_nil]
  by_cases z:a=rF
  ·rw[if_pos ⟨z,rfl,by lia⟩,if_pos z]
  ·rw[if_neg (λy=>z y.1),if_neg z,if_neg e]
theorem Di(a:List Nat)(j:Nat):(dl9 a j).length<=1:=by unfold dl9;split;exact Nat.le_refl _;split<;>simp
theorem Jv{a:List Nat}{j:Nat}{x:Int}(h:x∈dl9 a j):0<=x/\x<=j:=by
 unfold dl9 at h
 split at h
 ·rw[List.mem_singleton.mp h];lia
 ·split at h
  ·rw[List.mem_singleton.mp h];lia
  ·exact nomatch h
abbrev oW:O:=some (1,[0,1])
abbrev psW:List (List Int):=[[1,2,1,1],[2,1,1,1]]
inductive spLPair9 (vs:List V) (H:Hp) (Q:VK) (E:XK):Prop
 |mk (p1 p2:Addr) (_:vs=[.ref p1, .ref p2]) (_:H p1=some (iL [1,2,1,1])) (_:H p2=some (iL [2,1,1,1])) (_:∀v H',Same H H'->Bt (λb=>H b=none) H' v oW->Q v H')
inductive spSpansL9 (vs:List V) (H:Hp) (Q:VK) (E:XK):Prop
 |mk (p:Addr) (_:vs=[.ref p]) (_:Pls H p psW) (_:∀ (s r:Addr) (rs:List V) (xs:List V) (v:V) (H':Hp),Same H H'->H' s=some (.lst (.ref r::rs))->H' r=some (.lst (xs++[v]))->Bt Any H' v oW->Q (.ref s) H')
inductive spFirstL9 (vs:List V) (H:Hp) (Q:VK) (E:XK):Prop
 |mk (p:Addr) (_:vs=[.ref p]) (_:Pls H p psW) (_:∀ (T:Addr) (H':Hp),Same H H'->H' T=some (.tup [.int 1,tx [40,41]])->Q (.ref T) H')
inductive spFew9 (vs:List V) (H:Hp) (Q:VK) (E:XK):Prop
 |mk (_:vs=[.int 2,tx rW]) (_:∀ (T:Addr) (H':Hp),Same H H'->H' T=some (.tup [.int 2,tx [40,41]])->Q (.ref T) H')
theorem D6:(1:Int).natAbs<big:=by unfold big;decide +kernel
def kv9(a:List Nat):Kv:=[(kyT [97],tx a),(kyT [119],tx rW),(kyT [102],tx rF),(kyT [101],tx [])]
section
variable{K:W.Frag}{cs:Cs}{C:Addr}{H:Hp}{d r:Addr}{k:Int}{kvs:Kv}{l:List Nat}{dd:D15}{args:List (List Nat)}{Q:VK}{E:XK}{a:List Nat}
abbrev Sd9(K:W.Frag)(cs:Cs)(C:Addr)(d:Addr)(v:V)(H:Hp)(Q:VK)(E:XK):Prop:=spSaidG (Dz cs C) K cs C ([.ref d,v]++[]) H Q E
theorem no9{v:V}(hd:Dk C H d r k kvs)(hno:D7 K H v)(q:∀H',Same H H'->Q (tx Dm) H'):Sd9 K cs C d v H Q E:=
 ⟨d,r,k,kvs,v,rfl,hd,λQ' E' hQ hE=>⟨d,r,k,kvs,v,rfl,hd, .inl ⟨hno,hE _ _ .row q⟩⟩⟩
def bNm(kvs:Kv)(l:List Nat):Bool:=decide (l.length<=1000)&&match knw l with
 |none=>false
 |some (d,ar)=>(ar.zip d.form).any λx=>decide (x.2=Ai)&&(AR kvs (kyT x.1)).isNone
theorem K9(hd:Dk C H d r k kvs)(h:bNm kvs l=true)(q:∀H',Same H H'->Q (tx De) H'):Sd9 K cs C d (tx l) H Q E:=by
 unfold bNm at h;rw[Bool.and_eq_true,decide_eq_true_eq]at h;obtain⟨hl,h⟩:=h
 cases hk:knw l with
 |none=>rw[hk]at h;cases h
 |some x=>
  obtain⟨dd,ar⟩:=x;rw[hk]at h;obtain⟨⟨b,p⟩,hm,hx⟩:=List.any_eq_true.mp h;obtain⟨i,hi⟩:=List.mem_iff_getElem?.mp hm;obtain⟨h1,h2⟩:=List.getElem?_zip_eq_some.mp hi;rw[Bool.and_eq_true,decide_eq_true_eq]at hx;obtain⟨hp,hv⟩:=hx;exact⟨d,r,k,kvs,_,rfl,hd,λQ' E' hQ hE=>⟨d,r,k,kvs,_,rfl,hd, .inr ⟨l,dd,ar,rfl,hl,hk, .inl ⟨i,b,h1,by rw[h2];exact congrArg some hp,Option.isNone_iff_eq_none.mp hv,hE _ _ .name q⟩⟩⟩⟩
def CP(kvs:Kv)(dd:D15)(args:List (List Nat)):Bool:=(args.zip dd.form).all λx=> !decide (x.2=Ai)||(AR kvs (kyT x.1)).isSome
theorem do9(hd:Dk C H d r k kvs)(hk:knw l=some (dd,args))(hl:l.length<=1000)(ha:CP kvs dd args=true)
 (q:∀ (Q':VK) (E':XK) ws H',Same H H'->Dk C H' d r k kvs->H' ws=some (.lst (args.map tx))->H ws=none->(∀b G,Ans b->(∀G',Same G G'->Q (tx b) G')->Q' (tx b) G)->(∀c nm,Cap8 cs c nm->(∀G,Same H G->Q (tx nm) G)->Ref E' c H')->Dz cs C dd [.ref d, .ref ws] H' Q' E'):Sd9 K cs C d (tx l) H Q E:=
 ⟨d,r,k,kvs,_,rfl,hd,λQ' E' hQ hE=>⟨d,r,k,kvs,_,rfl,hd, .inr ⟨l,dd,args,rfl,hl,hk, .inr ⟨λi b h1 h2=>by
   have:=List.all_eq_true.mp ha (b,Ai) (List.mem_iff_getElem?.mpr ⟨i,List.getElem?_zip_eq_some.mpr ⟨h1,h2⟩⟩);simpa using this,λE2 ws H' hR sm hw hws=>q Q' E2 ws H' sm (hd.same sm) hws hw (λb G ha qq=>hQ b G ha.1 ha.2.1 qq) λc nm hc qq=>hR c (hE c nm hc qq)⟩⟩⟩⟩
def qs9(a:List Nat):List (List Nat×List Nat):=[([110,97,109,101,115],[97,32,101,32,102,32,119]),([115,104,111,119,32,97],shw a),([115,104,111,119,32,119],rW),([115,104,111,119,32,102],rF),([115,104,111,119,32,101],tNone),([109,97,121,32,119],[110,111]),([109,97,110,121,32,97],Aj (cnt 2 a).toNat),([102,101,119,101,115,116,32,119],[50,32,40,41]),([109,111,114,101,32,102],[52,48]),([115,117,114,101,32,101],tNone),([110,116,104,32,101,32,48],tNone)]
theorem Le:Srt (kv9 a) [[97],[101],[102],[119]]:=⟨[⟨[97].toArray⟩,⟨[119].toArray⟩,⟨[102].toArray⟩,⟨[101].toArray⟩],rfl,by decide,by decide,by decide⟩
theorem Ry(h:isRow 2 a=true):Ans a:=by
 have e:∀c∈sgn 2,c≠9/\c≠111:=by decide
 exact .all (Nat.le_trans (Ay h) (by decide)) λc hc=>e c (FC h c hc)
theorem Lw(hd:Dk C H d r 2 (kv9 a))(ha:isRow 2 a=true){x:List Nat×List Nat}(hx:x∈qs9 a)(q:∀H',Same H H'->Q (tx x.2) H'):Sd9 K cs C d (tx x.1) H Q E:=by
 have qq:∀ {H1 G},Same H H1->Same H1 G->∀G',Same G G'->Q (tx x.2) G':=λa b G' c=>q G' ((a.trans b).trans c);have a2:Ans (shw a):=(Ry ha).shw;have a7:Ans (Aj (cnt 2 a).toNat):=by
  obtain⟨h0,h1⟩:=JF (k:=2) (by decide) (Ay ha);exact Rz (by
   have:((cnt 2 a).toNat:Int)<=((5^40:Nat):Int):=by rw[Int.toNat_of_nonneg h0];exact h1
   exact Int.ofNat_le.mp this)
 simp only[qs9,List.mem_cons,List.not_mem_nil,or_false]at hx;rcases hx with rfl|rfl|rfl|rfl|rfl|rfl|rfl|rfl|rfl|rfl|rfl
 ·exact do9 (dd:= .names) (args:=[]) hd (by with_unfolding_all rfl) (Nat.le_of_ble_eq_true rfl) rfl λQ' E' ws H' sm hd' hw _ hQ _=>⟨d,ws,r,2,kv9 a,_,rfl,hd',Le,by decide,λG s=>hQ _ G ⟨by decide,by decide,by decide⟩ (qq sm s)⟩
 ·exact do9 (dd:= .show) (args:=[[97]]) hd (by with_unfolding_all rfl) (Nat.le_of_ble_eq_true rfl) rfl λQ' E' ws H' sm hd' hw _ hQ _=>⟨d,ws,r,2,kv9 a,[97],a,rfl,hd',hw,rfl,Nat.le_trans (Ay ha) (by decide),λG s=>hQ _ G a2 (qq sm s)⟩
 ·exact do9 (dd:= .show) (args:=[[119]]) hd (by with_unfolding_all rfl) (Nat.le_of_ble_eq_true rfl) rfl λQ' E' ws H' sm hd' hw _ hQ _=>⟨d,ws,r,2,kv9 a,[119],rW,rfl,hd',hw,rfl,by decide,λG s=>hQ _ G ⟨by decide,by decide,by decide⟩ (qq sm s)⟩
 ·exact do9 (dd:= .show) (args:=[[102]]) hd (by with_unfolding_all rfl) (Nat.le_of_ble_eq_true rfl) rfl λQ' E' ws H' sm hd' hw _ hQ _=>⟨d,ws,r,2,kv9 a,[102],rF,rfl,hd',hw,rfl,by decide,λG s=>hQ _ G ⟨by decide,by decide,by decide⟩ (qq sm s)⟩
 ·exact do9 (dd:= .show) (args:=[[101]]) hd (by with_unfolding_all rfl) (Nat.le_of_ble_eq_true rfl) rfl λQ' E' ws H' sm hd' hw _ hQ _=>⟨d,ws,r,2,kv9 a,[101],[],rfl,hd',hw,rfl,by decide,λG s=>hQ _ G .none (qq sm s)⟩
 ·exact do9 (dd:= .may) (args:=[[119]]) hd (by with_unfolding_all rfl) (Nat.le_of_ble_eq_true rfl) rfl λQ' E' ws H' sm hd' hw _ hQ _=>⟨d,ws,r,kv9 a,[119],⟨rfl,hd',hw,rfl,by decide⟩,λG s=>hQ _ G ⟨by decide,by decide,by decide⟩ (qq sm s)⟩
 ·exact do9 (dd:= .many) (args:=[[97]]) hd (by with_unfolding_all rfl) (Nat.le_of_ble_eq_true rfl) rfl λQ' E' ws H' sm hd' hw _ hQ _=>⟨d,ws,r,kv9 a,[97],a,⟨rfl,hd',hw,rfl,ha⟩,λG s=>hQ _ G a7 (qq sm s)⟩
 ·exact do9 (dd:= .fewest) (args:=[[119]]) hd (by with_unfolding_all rfl) (Nat.le_of_ble_eq_true rfl) rfl λQ' E' ws H' sm hd' hw _ hQ _=>⟨d,ws,r,kv9 a,[119],⟨rfl,hd',hw,rfl,by decide⟩,λG s=>hQ _ G ⟨by decide,by decide,by decide⟩ (qq sm s)⟩
 ·exact do9 (dd:= .more) (args:=[[102]]) hd (by with_unfolding_all rfl) (Nat.le_of_ble_eq_true rfl) rfl λQ' E' ws H' sm hd' hw _ hQ _=>⟨d,ws,r,kv9 a,[102],⟨rfl,hd',hw,rfl,by decide⟩,λG s=>hQ _ G ⟨by decide,by decide,by decide⟩ (qq sm s)⟩
 ·exact do9 (dd:= .sure) (args:=[[101]]) hd (by with_unfolding_all rfl) (Nat.le_of_ble_eq_true rfl) rfl λQ' E' ws H' sm hd' hw _ hQ _=>⟨d,ws,r,kv9 a,[101],[],⟨rfl,hd',hw,rfl,by decide⟩, .inl ⟨rfl,λG s=>hQ _ G .none (qq sm s)⟩⟩
 ·exact do9 (dd:= .nth) (args:=[[101],[48]]) hd (by with_unfolding_all rfl) (Nat.le_of_ble_eq_true rfl) rfl λQ' E' ws H' sm hd' hw _ hQ _=>⟨d,ws,r,kv9 a,[101],[],0,⟨rfl,hd',hw,rfl,by decide⟩,by decide, .inl ⟨rfl,rfl,λG s=>hQ _ G .none (qq sm s)⟩⟩
def st9(o:List Nat):Bool:=decide (o∈[[97],[119],[102],[101]])
theorem Qi{o:List Nat}(h:st9 o=true):∃x,AR (kv9 a) (kyT o)=some (tx x)/\(x=a\/x=rW\/x=rF\/x=[]):=by
 unfold st9 at h;have h:=of_decide_eq_true h;simp only[List.mem_cons,List.not_mem_nil,or_false]at h;rcases h with rfl|rfl|rfl|rfl
 ·exact⟨_,rfl, .inl rfl⟩
 ·exact⟨_,rfl, .inr (.inl rfl)⟩
 ·exact⟨_,rfl, .inr (.inr (.inl rfl))⟩
 ·exact⟨_,rfl, .inr (.inr (.inr rfl))⟩
def bLn(l:List Nat):Bool:=decide (l.length<=1000)&&match knw l with
 |none=>false
 |some (d,ar)=>match d with
  | .row=> !isRow 2 (ar.getD 1 [])
  | .number=>st9 (ar.getD 0 [])&& !isRow 2 (ar.getD 1 [])
  | .behind=>decide ((ar.getD 1 [],ar.getD 2 [])∈[([102],[97]),([102],[102]),(([119]:List Nat),([102]:List Nat))])
  |_=>false
theorem Ph{k:Int}{b:List Nat}(h:40<b.length):isRow k b=false:=by
 cases e:isRow k b with
 |false=>rfl
 |true=>have:=Ay e;lia
theorem VC(hd:Dk C H d r 2 (kv9 a))(ha:isRow 2 a=true)(h1:1<=a.length)(h:bLn l=true)(q:∀H',Same H H'->Q (tx Cj) H'):Sd9 K cs C d (tx l) H Q E:=by
 unfold bLn at h;rw[Bool.and_eq_true,decide_eq_true_eq]at h;obtain⟨hl,h⟩:=h
 cases hk:knw l with
 |none=>rw[hk]at h;cases h
 |some x=>
  obtain⟨dd,ar⟩:=x;rw[hk]at h;obtain⟨_,_,hlen,_,hsz⟩:=GA hk;have ha4:=Ay ha
  cases dd<;>first|(cases h;done)|skip
  ·obtain⟨nm,b,rfl⟩:=ln2 hlen;have hb:isRow 2 b=false:=by simpa using h
   exact do9 hd hk hl rfl λQ' E' ws H' sm hd' hw _ _ hE=>⟨d,ws,r,2,kv9 a,nm,b,rfl,hd',by decide,by decide,show 4<=100 by decide,hw,Nat.le_trans (hsz b (by simp)) hl, .inr ⟨hb,hE _ _ .line q⟩⟩
  ·obtain⟨nm,x,y,rfl⟩:=ln3 hlen;have h:=of_decide_eq_true h;simp only[List.getD_cons_succ,List.getD_cons_zero,List.mem_cons,List.not_mem_nil,or_false,Prod.mk.injEq]at h;have fin:∀u v,AR (kv9 a) (kyT x)=some (tx u)->AR (kv9 a) (kyT y)=some (tx v)->u.length<=40->v.length<=40->40<u.length+v.length->Sd9 K cs C d (tx l) H Q E:=λu v e1 e2 l1 l2 l3=>
    do9 hd hk hl (by unfold CP;simp[D15.form,e1,e2]) λQ' E' ws H' sm hd' hw _ _ hE=>⟨d,ws,r,2,kv9 a,nm,x,y,u,v,rfl,hd',by decide,by decide,show 4<=100 by decide,hw,e1,e2,l1,l2, .inr ⟨Ph (by rw[List.length_append];exact l3),hE _ _ .line q⟩⟩
   rcases h with⟨rfl,rfl⟩|⟨rfl,rfl⟩|⟨rfl,rfl⟩
   ·exact fin rF a rfl rfl (by decide) ha4 (by show 40<40+a.length;lia)
   ·exact fin rF rF rfl rfl (by decide) (by decide) (by decide)
   ·exact fin rW rF rfl rfl (by decide) (by decide) (by decide)
  ·obtain⟨o,b,rfl⟩:=ln2 hlen;have h:st9 o=true/\isRow 2 b=false:=by simpa using h
   obtain⟨x,e,hx⟩:=Qi (a:=a) h.1;have hx:isRow 2 x=true:=by rcases hx with rfl|rfl|rfl|rfl;exact ha;all_goals decide
   exact do9 hd hk hl (by unfold CP;simp[D15.form,e]) λQ' E' ws H' sm hd' hw _ _ hE=>⟨d,ws,r,kv9 a,o,x,b,⟨rfl,hd',hw,e,hx⟩,Nat.le_trans (hsz b (by simp)) hl, .inl ⟨h.2,hE _ _ .line q⟩⟩
def bEl(du l:List Nat):Bool:=decide (l.length<=1000)&&match knw l with
 |none=>false
 |some (d,ar)=>match d with
  | .kinds=>decide (du=IT)&&decide (ar.getD 0 []∈[[48],[53],[49,48],[57,57,57,57,57,57,57,57,57]])
  | .sure=>decide (du=HJ)&&decide (ar.getD 0 []∈[[119],[102]])
  | .nth=>decide (du=Hf)&&decide ((ar.getD 0 [],ar.getD 1 [])∈[([119],[48]),([119],[57,57,57,57,57,57,57,57,57]),([102],[48]),(([101]:List Nat),([49]:List Nat))])
  | .number=>decide (du=He)&&(isRow 2 (ar.getD 1 [])&&(decide (ar.getD 0 []=[119])&& !filB 2 rW (ar.getD 1 [])||(decide (ar.getD 0 []=[102])&& !filB 2 rF (ar.getD 1 [])||(decide (ar.getD 0 []=[101])&& !filB 2 [] (ar.getD 1 [])||decide (ar.getD 0 []=[97])&&decide (25<(ar.getD 1 []).length)))))
  |_=>false
theorem VG{du:List Nat}(hd:Dk C H d r 2 (kv9 a))(ha:isRow 2 a=true)(h1:a.length<=25)(h:bEl du l=true)(q:∀H',Same H H'->Q (tx du) H'):Sd9 K cs C d (tx l) H Q E:=by
 unfold bEl at h;rw[Bool.and_eq_true,decide_eq_true_eq]at h;obtain⟨hl,h⟩:=h
 cases hk:knw l with
 |none=>rw[hk]at h;cases h
 |some x=>
  obtain⟨dd,ar⟩:=x;rw[hk]at h;obtain⟨_,_,hlen,_,hsz⟩:=GA hk
  cases dd<;>first|(cases h;done)|skip
  ·obtain⟨w,rfl⟩:=ln1 hlen;simp only[Bool.and_eq_true,decide_eq_true_eq,List.getD_cons_zero,List.mem_cons,List.not_mem_nil,or_false]at h;obtain⟨rfl,h⟩:=h;obtain⟨n,hn,rfl,hb⟩:∃n,¬ (1<=n/\n<=4)/\w=Aj n/\n<10^9:=by
    rcases h with rfl|rfl|rfl|rfl
    ·exact⟨0,by decide,rfl,by decide⟩
    ·exact⟨5,by decide,rfl,by decide⟩
    ·exact⟨10,by decide,rfl,by decide⟩
    ·exact⟨999999999,by decide,rfl,by decide⟩
   exact do9 hd hk hl rfl λQ' E' ws H' sm hd' hw _ _ hE=>⟨d,ws,r,2,kv9 a,n,rfl,hd',hw,hb, .inr ⟨hn,hE _ _ .kinds q⟩⟩
  ·obtain⟨o,w,rfl⟩:=ln2 hlen;simp only[Bool.and_eq_true,decide_eq_true_eq,List.getD_cons_zero,List.getD_cons_succ,List.mem_cons,List.not_mem_nil,or_false,Prod.mk.injEq]at h;obtain⟨rfl,h⟩:=h;have fin:∀x n,AR (kv9 a) (kyT o)=some (tx x)->w=Aj n->isRow 2 x=true->n<10^9->cnt 2 x<=n->Sd9 K cs C d (tx l) H Q E:=λx n e1 e2 l1 l2 l3=>by
    subst e2;exact do9 hd hk hl (by unfold CP;simp[D15.form,e1]) λQ' E' ws H' sm hd' hw _ _ hE=>⟨d,ws,r,kv9 a,o,x,n,⟨rfl,hd',hw,e1,l1⟩,l2, .inr ⟨l3,hE _ _ .number q⟩⟩
   rcases h with⟨rfl,rfl⟩|⟨rfl,rfl⟩|⟨rfl,rfl⟩|⟨rfl,rfl⟩
   ·exact fin rW 0 rfl rfl (by decide) (by decide) (by rw[Gh];decide)
   ·exact fin rW 999999999 rfl rfl (by decide) (by decide) (by rw[Gh];decide)
   ·exact fin rF 0 rfl rfl (by decide) (by decide) (by rw[Lu];decide)
   ·exact fin [] 1 rfl rfl (by decide) (by decide) (by rw[Lv];decide)
  ·obtain⟨o,b,rfl⟩:=ln2 hlen;simp only[Bool.and_eq_true,Bool.or_eq_true,Bool.not_eq_true',decide_eq_true_eq,List.getD_cons_zero,List.getD_cons_succ]at h;obtain⟨rfl,hb,h⟩:=h;have fin:∀x,AR (kv9 a) (kyT o)=some (tx x)->isRow 2 x=true->filB 2 x b=false->Sd9 K cs C d (tx l) H Q E:=λx e1 l1 l2=>
    do9 hd hk hl (by unfold CP;simp[D15.form,e1]) λQ' E' ws H' sm hd' hw _ _ hE=>⟨d,ws,r,kv9 a,o,x,b,⟨rfl,hd',hw,e1,l1⟩,Nat.le_trans (hsz b (by simp)) hl, .inr ⟨hb,l2,hE _ _ .right q⟩⟩
   rcases h with⟨rfl,h⟩|⟨rfl,h⟩|⟨rfl,h⟩|⟨rfl,h⟩
   ·exact fin rW rfl (by decide) h
   ·exact fin rF rfl (by decide) h
   ·exact fin [] rfl (by decide) h
   ·refine fin a rfl ha ?_
    cases e:filB 2 a b with
    |false=>rfl
    |true=>
     unfold filB at e;simp only[Bool.and_eq_true,decide_eq_true_eq]at e;lia
  ·obtain⟨o,rfl⟩:=ln1 hlen;simp only[Bool.and_eq_true,decide_eq_true_eq,List.getD_cons_zero,List.mem_cons,List.not_mem_nil,or_false]at h;obtain⟨rfl,h⟩:=h;have fin:∀x,AR (kv9 a) (kyT o)=some (tx x)->isRow 2 x=true->cnt 2 x=0->Sd9 K cs C d (tx l) H Q E:=λx e1 l1 l3=>
    do9 hd hk hl (by unfold CP;simp[D15.form,e1]) λQ' E' ws H' sm hd' hw _ _ hE=>⟨d,ws,r,kv9 a,o,x,⟨rfl,hd',hw,e1,l1⟩, .inr ⟨l3,hE _ _ .filling q⟩⟩
   rcases h with rfl|rfl
   ·exact fin rW rfl (by decide) Gh
   ·exact fin rF rfl (by decide) Lu
theorem DP{nm b:List Nat}(hd:Dk C H d r k kvs)(hk:knw l=some (.row,[nm,b]))(hl:l.length<=1000)(h1:1<=k)(h4:k<=4)(hn:kvs.length<=100)(hb:isRow k b=true)(q:∀H',FB [r] H H'->Dk C H' d r k (putK kvs (kyT nm) (tx b))->Q (tx tOk) H'):Sd9 K cs C d (tx l) H Q E:=
 do9 hd hk hl rfl λQ' E' ws H' sm hd' hw _ hQ _=>⟨d,ws,r,k,kvs,nm,b,rfl,hd',h1,h4,hn,hw,Nat.le_trans (Ay hb) (by decide), .inl ⟨hb,λG f dk=>hQ _ G .ok λG' s=>q G' ((FB.of sm).trans (f.s s)) (dk.same s)⟩⟩
end
end BrS
namespace L2
open PySem PySem.Spec PyProof.Rows
theorem Iw{x:V}(h:Am x=true):eqV x x=true:=by cases x<;>simp_all[eqV,Am]
def Alk(K:W.Frag)(H:Hp)(x y:V):Prop:=(Am x=true/\x=y)\/∃l m zs,x= .ref l/\y= .ref m/\l≠m/\SqL K H l zs/\SqL K H m zs/\zs.all Am=true
section
variable{X:Cx}
end
end L2
namespace BrS
open L2 PySem BrM BrC BrR
end BrS
namespace L2
open PySem PySem.Spec PyProof.Rows
section
variable{X:Cx}
def K3(K:W.Frag):R2:=λx y H Q=>∃a b xs ys,x= .ref a/\y= .ref b/\SqT K H a xs/\SqT K H b ys/\xs.length=ys.length/\(∀ (i:Nat) x y,xs[i]? =some x->ys[i]? =some y->Alk K H x y)/\Q (.bl false) H
theorem Jk(K:W.Frag){k:Nat}(hr:Room k X.A)(hK:X.K=K:=by rfl):OpR X (compareOp .NotEq) (K3 K):=by
 subst hK;intro pins s σ H x y v u Q I rx ry ⟨a,b,xs,ys,e1,e2,q1,q2,hl,hal,q⟩;subst e1 e2
 cases rx
 cases ry
 have hu:=hr.units;obtain⟨us,r1,p1,z1⟩:=I.tuple q1;obtain⟨ws,r2,p2,z2⟩:=I.tuple q2;have l1:=r1.length;have l2:=r2.length;refine SeqAt.RcNeAt.tuples (e:=λ_=>true) p1 p2 (by lia) (λj h1 h2=>?_) _ _ _ _ ⟨.bl false,H,I,?_,q⟩
 ·have hj:j<xs.length:=by simpa[l1]using h1
  obtain⟨u1,g1,ru⟩:=r1.get (i:=j) (x:=xs[j]) (List.getElem?_eq_getElem hj);obtain⟨u2,g2,rw2⟩:=r2.get (i:=j) (x:=ys[j]'(by lia)) (List.getElem?_eq_getElem _);have e1:us.toArray[j]=u1:=by
   obtain⟨hh,e⟩:=List.getElem?_eq_some_iff.mp g1;simpa using e
  have e2:ws.toArray[j]=u2:=by
   obtain⟨hh,e⟩:=List.getElem?_eq_some_iff.mp g2;simpa using e
  rw[e1,e2];have h:=hal j _ _ (List.getElem?_eq_getElem hj) (List.getElem?_eq_getElem (show j<ys.length by lia));rcases h with⟨hf,he⟩|⟨l,m,zs,hx,hy,hlm,h3,h4,hfl⟩
  ·rw[<-he]at rw2;have:=GD (A:=X.A.in1) (s:=s) ru rw2 hf hf;rw[Iw hf]at this;exact this
  ·rw[hx]at ru;rw[hy]at rw2
   cases ru
   cases rw2
   obtain⟨us3,r3,p3,z3⟩:=I.list h3;obtain⟨us4,r4,p4,z4⟩:=I.list h4;have l3:=r3.length;have l4:=r4.length;refine SeqAt.EqAt.of_refs hlm ?_;have:=SeqAt.RcAt.lists (A:=X.A.in1) p3.isList p4.isList (by simp;lia) (show X.A.units+1<cLine by lia) (ES r3 r4 hfl hfl);rw[List.size_toArray,<-l3,ED zs zs rfl]at this;have er:∀zs:List V,zs.all Am=true->eqVs zs zs=true:=by
    intro zs
    induction zs with
    |nil=>intro _;rfl
    |cons z r ih=>intro h;simp only[List.all_cons,Bool.and_eq_true]at h;simp only[eqVs,Iw h.1,ih h.2,Bool.and_true]
   rw[er zs hfl]at this;exact this
 ·show Value.bool (!(((List.range (min us.toArray.size ws.toArray.size)).all λ_=>true)&&us.toArray.size==ws.toArray.size))=Value.bool false;simp;lia
end
end L2
namespace BrS
open L2 PySem PySem.Spec PyProof.Rows BrM BrC BrR BrTx BrB BrI
def Al(Pr:V->Prop)(xs:List V):Prop:=∀v∈xs,Pr v
section
variable{Pr:V->Prop}{p a:Addr}{H0 H H':Hp}{n m:Nat}{xs ys:List V}{v:V}
theorem Al.nil:Al Pr []:=λ_ h=>nomatch h
theorem Al.cons(h:Pr v)(r:Al Pr xs):Al Pr (v::xs):=λx hx=>(List.mem_cons.mp hx).elim (λe=>e▸h) (r x)
theorem Al.app(h:Al Pr xs)(r:Al Pr ys):Al Pr (xs++ys):=λv hv=>(List.mem_append.mp hv).elim (h v) (r v)
def OdG(Pr:V->Prop)(p:Addr)(H0:Hp)(n:Nat)(a:Addr)(H:Hp):Prop:=∃xs,xs.length=n/\n<=100/\Al Pr xs/\H a=some (.lst xs)/\a≠p/\Po H p/\SameBut1 p H0 H/\H0 a=none
theorem OdG.mk(po:Po H p)(s:SameBut1 p H0 H)(h:H a=none)(ht:Al Pr xs)(hn:xs.length=n)(hc:n<=100):OdG Pr p H0 n a (upd H a (.lst xs)):=⟨xs,hn,hc,ht,AF,po.ne h,po.same (AI h _),s.trans (SameBut1.of (AI h _)),SameBut1.free1 s po h⟩
theorem OdG.po(o:OdG Pr p H0 n a H):Po H p:=let⟨_,_,_,_,_,_,h,_⟩:=o;h
theorem OdG.but(o:OdG Pr p H0 n a H)(s:SameBut1 p H H')(po:Po H' p):OdG Pr p H0 n a H':=let⟨xs,h1,h2,h3,h4,h5,_,h7,h8⟩:=o;⟨xs,h1,h2,h3,s _ _ h4 h5,h5,po,h7.trans s,h8⟩
theorem OdG.add{l:Addr}{Q:VK}(o:OdG Pr p H0 n a H)(hl:H l=none)(hy:Al Pr ys)(hm:n+ys.length=m)(hc:m<=100)(q:∀l3 H3,OdG Pr p H0 m l3 H3->Q (.ref l3) H3):rPlus (.ref a) (.ref l) (upd H l (.lst ys)) Q:=by
 obtain⟨xs,h1,_,h2,h3,h4,h5,h6,_⟩:=o;have t1:=AI hl (.lst ys);exact Ct (t1 _ _ h3) AF (small (by lia)) λl3 hl3=>q l3 _ (OdG.mk (h5.same t1) (h6.trans (SameBut1.of t1)) hl3 (h2.app hy) (by rw[List.length_append];lia) hc)
theorem OdG.pick{i:Int}{Q:VK}{K:W.Frag}(o:OdG Pr p H0 n a H)(s:SameBut1 p H H')(i0:0<=i)(i1:i<n)(q:∀v,Pr v->SameBut1 p H0 H'->Q v H'):Cd K (.ref a) (.int i) H' Q:=by
 obtain⟨xs,h1,_,h2,h3,h4,h5,h6,_⟩:=o;obtain⟨v,hv,he⟩:=K7 (xs:=xs) i0 (by rw[h1];exact i1);exact AN (SqL.of (s _ _ h3 h4)) he (q v (h2 v hv) (h6.trans s))
end
theorem OdG.of{Pr:V->Prop}{p a:Addr}{H0 H G:Hp}{xs:List V}{n:Nat}(e:upd H a (.lst xs)=G)(po:Po H p)(s:SameBut1 p H0 H)(h:H a=none)(ht:Al Pr xs)(hn:xs.length=n)(hc:n<=100):OdG Pr p H0 n a G:=e▸OdG.mk po s h ht hn hc
def bNo(l:List Nat):Bool:=decide (l.length<=1000)&&(knw l).isNone
theorem UM{K:W.Frag}{H:Hp}{l:List Nat}(h:bNo l=true):D7 K H (tx l):=by
 unfold bNo at h;rw[Bool.and_eq_true,decide_eq_true_eq]at h;exact .inl ⟨l,rfl,h.1,Option.isNone_iff_eq_none.mp h.2⟩
def Nr9(a0:Addr)(v:V):Prop:=(∃l,v=tx l/\bNo l=true)\/v= .non\/v= .int 7\/v= .ref a0
def Tx9(b:List Nat->Bool)(v:V):Prop:=∃l,v=tx l/\b l=true
inductive spNoRow9 (K:W.Frag) (vs:List V) (H:Hp) (Q:VK) (E:XK):Prop
 |mk (p:Addr) (_:vs=[.ref p]) (_:Po H p) (_:∀v H',Po H' p->SameBut1 p H H'->D7 K H' v->Q v H')
inductive spTx9 (b:List Nat->Bool) (vs:List V) (H:Hp) (Q:VK) (E:XK):Prop
 |mk (p:Addr) (_:vs=[.ref p]) (_:Po H p) (_:∀l H',Po H' p->SameBut1 p H H'->b l=true->Q (tx l) H')
def bNn(l:List Nat):Bool:=decide (l.length<=1000)&&match knw l with
 |none=>false
 |some (d,ar)=>(ar.zip d.form).any λx=>decide (x.2=Ai)&&decide (x.1∈[[121,121],[113]])
theorem Km{kvs:Kv}{l:List Nat}(h:bNn l=true)(h1:AR kvs (kyT [121,121])=none)(h2:AR kvs (kyT [113])=none):bNm kvs l=true:=by
 unfold bNn at h;unfold bNm;rw[Bool.and_eq_true]at h⊢;refine⟨h.1,?_⟩;have h:=h.2
 cases e:knw l with
 |none=>rw[e]at h;cases h
 |some x=>
  rw[e]at h;obtain⟨x,hx,hc⟩:=List.any_eq_true.mp h;rw[Bool.and_eq_true]at hc;refine List.any_eq_true.mpr ⟨x,hx,?_⟩;rw[Bool.and_eq_true];have h3:=of_decide_eq_true hc.2;simp only[List.mem_cons,List.not_mem_nil,or_false]at h3;refine⟨hc.1,?_⟩;rcases h3 with e|e
  ·rw[e,h1];rfl
  ·rw[e,h2];rfl
def El9(p:Addr)(H:Hp)(v:V):Prop:=∃T du l,v= .ref T/\H T=some (.tup [tx du,tx l])/\(bEl (9::du) l&&decide (du.length<=100))=true/\T≠p
theorem El9.keep{p:Addr}{H H':Hp}{v:V}(h:El9 p H v)(s:SameBut1 p H H'):El9 p H' v:=let⟨T,du,l,e,g,b,n⟩:=h;⟨T,du,l,e,s _ _ g n,b,n⟩
theorem El9.of{p T:Addr}{H G:Hp}{du l:List Nat}(e:upd H T (.tup [tx du,tx l])=G)(po:Po H p)(h:H T=none)(b:(bEl (9::du) l&&decide (du.length<=100))=true):El9 p G (.ref T)/\Po G p/\Same H G:=by
 subst e;exact⟨⟨T,du,l,rfl,AF,b,po.ne h⟩,po.same (AI h _),AI h _⟩
def OdE(p:Addr)(H0:Hp)(n:Nat)(a:Addr)(H:Hp):Prop:=∃xs,xs.length=n/\n<=100/\(∀v∈xs,El9 p H v)/\H a=some (.lst xs)/\a≠p/\Po H p/\SameBut1 p H0 H/\H0 a=none
section
variable{p a:Addr}{H0 H H' G:Hp}{n m:Nat}{xs ys:List V}
theorem OdE.of(e:upd H a (.lst xs)=G)(po:Po H p)(s:SameBut1 p H0 H)(h:H a=none)(ht:∀v∈xs,El9 p H v)(hn:xs.length=n)(hc:n<=100):OdE p H0 n a G:=by
 subst e;exact⟨xs,hn,hc,λv hv=>(ht v hv).keep (SameBut1.of (AI h _)),AF,po.ne h,po.same (AI h _),s.trans (SameBut1.of (AI h _)),SameBut1.free1 s po h⟩
theorem OdE.but(o:OdE p H0 n a H)(s:SameBut1 p H H')(po:Po H' p):OdE p H0 n a H':=let⟨xs,h1,h2,h3,h4,h5,_,h7,h8⟩:=o;⟨xs,h1,h2,λv hv=>(h3 v hv).keep s,s _ _ h4 h5,h5,po,h7.trans s,h8⟩
theorem OdE.po(o:OdE p H0 n a H):Po H p:=let⟨_,_,_,_,_,_,h,_⟩:=o;h
theorem OdE.add{l:Addr}{Q:VK}(o:OdE p H0 n a H)(hl:H l=none)(hy:∀v∈ys,El9 p H v)(hm:n+ys.length=m)(hc:m<=100)(q:∀l3 H3,OdE p H0 m l3 H3->Q (.ref l3) H3):rPlus (.ref a) (.ref l) (upd H l (.lst ys)) Q:=by
 obtain⟨xs,h1,_,h2,h3,h4,h5,h6,_⟩:=o;have t1:=AI hl (.lst ys);exact Ct (t1 _ _ h3) AF (small (by lia)) λl3 hl3=>q l3 _ (OdE.of rfl (h5.same t1) (h6.trans (SameBut1.of t1)) hl3 (λv hv=>((List.mem_append.mp hv).elim (h2 v) (hy v)).keep (SameBut1.of t1)) (by rw[List.length_append];lia) hc)
theorem OdE.pick{i:Int}{Q:VK}{K:W.Frag}(o:OdE p H0 n a H)(s:SameBut1 p H H')(i0:0<=i)(i1:i<n)(q:∀v,El9 p H' v->SameBut1 p H0 H'->Q v H'):Cd K (.ref a) (.int i) H' Q:=by
 obtain⟨xs,h1,_,h2,h3,h4,h5,h6,_⟩:=o;obtain⟨v,hv,he⟩:=K7 (xs:=xs) i0 (by rw[h1];exact i1);exact AN (SqL.of (s _ _ h3 h4)) he (q v ((h2 v hv).keep s) (h6.trans s))
theorem CF:∀v∈([]:List V),El9 p H v:=λ_ h=>nomatch h
theorem BB{v:V}(h:El9 p H v)(r:∀v∈xs,El9 p H v):∀x∈v::xs,El9 p H x:=λx hx=>(List.mem_cons.mp hx).elim (λe=>e▸h) (r x)
end
inductive spElse9 (vs:List V) (H:Hp) (Q:VK) (E:XK):Prop
 |mk (p:Addr) (_:vs=[.ref p]) (_:Po H p) (_:∀T du l H',Po H' p->SameBut1 p H H'->H' T=some (.tup [tx du,tx l])->bEl du l=true->Q (.ref T) H')
def Lx(a q:List Nat):List Nat:=((qs9 a).lookup q).getD []
theorem Ft{a:List Nat}{x:List Nat×List Nat}(h:x∈qs9 a):Lx a x.1=x.2:=by
 simp only[qs9,List.mem_cons,List.not_mem_nil,or_false]at h;rcases h with rfl|rfl|rfl|rfl|rfl|rfl|rfl|rfl|rfl|rfl|rfl<;>rfl
def Std9(H:Hp)(T n l:Addr)(a:List Nat):Prop:=H T=some (.tup [.ref n, .ref l])/\H n=some (.lst ([[97],[101],[102],[119]].map tx))/\H l=some (.lst ((qs9 a).map λx=>tx x.2))
theorem Std9.same{H H':Hp}{T n l:Addr}{a:List Nat}(h:Std9 H T n l a)(s:Same H H'):Std9 H' T n l a:=⟨s _ _ h.1,s _ _ h.2.1,s _ _ h.2.2⟩
inductive spStands9 (K:W.Frag) (C:Addr) (vs:List V) (H:Hp) (Q:VK) (E:XK):Prop
 |mk (d r:Addr) (a:List Nat) (i:Int) (_:vs=[.ref d, .int i]) (_:Dk C H d r 2 (kv9 a)) (_:isRow 2 a=true) (_:0<=i) (_:i<2) (_:∀T n l H',Same H H'->H n=none->H l=none->Std9 H' T n l a->Q (.ref T) H')
theorem Std9.ne{K:W.Frag}{H:Hp}{T n l T' n' l':Addr}{a:List Nat}{Q:VK}(h:Std9 H T n l a)(g:Std9 H T' n' l' a)(h1:n≠n')(h2:l≠l')(q:Q (.bl false) H):K3 K (.ref T) (.ref T') H Q:=by
 refine⟨T,T',_,_,rfl,rfl,SqT.of h.1,SqT.of g.1,rfl,λi x y hx hy=>?_,q⟩
 match i,hx,hy with
 |0,hx,hy=>cases hx;cases hy;exact .inr ⟨n,n',_,rfl,rfl,h1,SqL.of h.2.1,SqL.of g.2.1,rfl⟩
 |1,hx,hy=>cases hx;cases hy;exact .inr ⟨l,l',_,rfl,rfl,h2,SqL.of h.2.2,SqL.of g.2.2,rfl⟩
 |i+2,hx,hy=>simp at hx
section
variable{K:W.Frag}{cs:Cs}{C:Addr}{H:Hp}{d r:Addr}{k:Int}{kvs:Kv}{l:List Nat}{Q:VK}{E:XK}{a:List Nat}
theorem Ts{n:Nat}{w:List Nat}(hd:Dk C H d r k kvs)(hk:knw l=some (.kinds,[w]))(hw:w=Aj n)(hl:l.length<=1000)(h1:1<=n)(h4:n<=4)(q:∀r' H',H r'=none->FB [d] H H'->Dk C H' d r' n []->Q (tx tOk) H'):Sd9 K cs C d (tx l) H Q E:=
 do9 hd hk hl rfl λQ' E' ws H' sm hd' hws _ hQ _=>⟨d,ws,r,k,kvs,n,rfl,hd',by rw[hws,hw];rfl,by lia, .inl ⟨h1,h4,λr' G hr f dk=>hQ _ G .ok λG' s=>q r' G' (sm.free hr) ((FB.of sm).trans (f.s s)) (dk.same s)⟩⟩
theorem Vn{nm x y u v:List Nat}(hd:Dk C H d r k kvs)(hk:knw l=some (.behind,[nm,x,y]))(hl:l.length<=1000)(h1:1<=k)(h4:k<=4)(hn:kvs.length<=100)(ex:AR kvs (kyT x)=some (tx u))(ey:AR kvs (kyT y)=some (tx v))(hu:u.length<=40)(hv:v.length<=40)(hb:isRow k (u++v)=true)(q:∀H',FB [r] H H'->Dk C H' d r k (putK kvs (kyT nm) (tx (u++v)))->Q (tx tOk) H'):Sd9 K cs C d (tx l) H Q E:=
 do9 hd hk hl (by unfold CP;simp[D15.form,ex,ey]) λQ' E' ws H' sm hd' hw _ hQ _=>⟨d,ws,r,k,kvs,nm,x,y,u,v,rfl,hd',h1,h4,hn,hw,ex,ey,hu,hv, .inl ⟨hb,λG f dk=>hQ _ G .ok λG' s=>q G' ((FB.of sm).trans (f.s s)) (dk.same s)⟩⟩
theorem VI{x:List Nat}{v:V}(hd:Dk C H d r k kvs)(hk:knw l=some (.drop,[x]))(hl:l.length<=1000)(ex:AR kvs (kyT x)=some v)(q:∀H',FB [r] H H'->Dk C H' d r k (Cc kvs (kyT x))->Q (tx tOk) H'):Sd9 K cs C d (tx l) H Q E:=
 do9 hd hk hl (by unfold CP;simp[D15.form,ex]) λQ' E' ws H' sm hd' hw _ hQ _=>⟨d,ws,r,k,kvs,x,v,rfl,hd',hw,ex,λG f dk=>hQ _ G .ok λG' s=>q G' ((FB.of sm).trans (f.s s)) (dk.same s)⟩
theorem US{x u:List Nat}(hd:Dk C H d r k kvs)(hk:knw l=some (.show,[x]))(hl:l.length<=1000)(ex:AR kvs (kyT x)=some (tx u))(hu:u.length<=1000)(ha:Ans (shw u))(q:∀H',Same H H'->Q (tx (shw u)) H'):Sd9 K cs C d (tx l) H Q E:=
 do9 hd hk hl (by unfold CP;simp[D15.form,ex]) λQ' E' ws H' sm hd' hw _ hQ _=>⟨d,ws,r,k,kvs,x,u,rfl,hd',hw,ex,hu,λG s=>hQ _ G ha λG' s'=>q G' ((sm.trans s).trans s')⟩
theorem S8{nm b:List Nat}(hd:Dk C H d r k kvs)(hk:knw l=some (.row,[nm,b]))(hl:l.length<=1000)(h1:1<=k)(h4:k<=4)(hn:kvs.length<=100)(hb:isRow k b=false)(hbl:b.length<=1000)(q:∀H',Same H H'->Q (tx Cj) H'):Sd9 K cs C d (tx l) H Q E:=
 do9 hd hk hl rfl λQ' E' ws H' sm hd' hw _ _ hE=>⟨d,ws,r,k,kvs,nm,b,rfl,hd',h1,h4,hn,hw,hbl, .inr ⟨hb,hE _ _ .line q⟩⟩
end
def kAt(i:Nat):Int:=if i=0 then 4 else 2
structure Up9 (C:Addr) (a:List Nat) (H:Hp) (d r0 D:Addr) (i:Nat) (H':Hp):Prop where
 ex:∃r,Dk C H' d r (kAt i) ((kv9 a).take (i-1))/\(i=0->r=r0)/\(i≠0->H r=none)
 fb:FB [d,r0] H H'
 ls:H' D=some (.lst [])
section
variable{C:Addr}{a:List Nat}{H G G':Hp}{d r r' r0 D:Addr}{i:Nat}
theorem Up9.kinds(u:Up9 C a H d r0 D 0 G)(hr:G r'=none)(f:FB [d] G G')(dk:Dk C G' d r' 2 [])(hd:∃o,H d=some o)(h0:∃o,H r0=some o):Up9 C a H d r0 D 1 G':=by
 obtain⟨r,dk0,e0,_⟩:=u.ex;obtain rfl:=e0 rfl;have nD:D≠d:=λz=>by
  obtain⟨⟨_,e⟩,_⟩:=dk0;rw[<-z,u.ls]at e;cases e
 have hn:H r'=none:=by
  rcases FB.free u.fb (by simp only[List.mem_cons,List.not_mem_nil,or_false,forall_eq_or_imp,forall_eq];exact⟨hd,h0⟩) hr with z|z
  ·exact z
  ·rcases List.mem_cons.mp z with z|z
   ·obtain⟨⟨_,e⟩,_⟩:=dk0;rw[<-z,hr]at e;cases e
   ·have e:=dk0.2;rw[<-List.mem_singleton.mp z,hr]at e;cases e
 exact⟨⟨r',dk,(λz=>nomatch z),λ_=>hn⟩,(u.fb.trans (f.mono (by simp))),f _ _ u.ls (by simpa using nD)⟩
theorem Up9.row(u:Up9 C a H d r0 D i G)(hr:H r=none)(dk0:Dk C G d r 2 ((kv9 a).take (i-1)))(f:FB [r] G G')(dk:Dk C G' d r 2 ((kv9 a).take i))(hi:i≠0):Up9 C a H d r0 D (i+1) G':=by
 have nD:D≠r:=λz=>by
  have e:=dk0.2;rw[<-z,u.ls]at e;cases e
 have ek:kAt (i+1)=2:=by unfold kAt;rw[if_neg (by lia)]
 exact⟨⟨r,by rw[ek];exact dk,(λz=>nomatch z),λ_=>hr⟩,λb o z nb=>f b o (u.fb b o z nb) (by simpa using AQ z hr),f _ _ u.ls (by simpa using nD)⟩
end
def VO(ln:List Nat):List V:=[tx [107,105,110,100,115,32,50],tx ([114,111,119,32,97,32,40]++ln),tx [114,111,119,32,119,32,41,40],tx ([114,111,119,32,102,32]++rF),tx [114,111,119,32,101,32]]
def duF(w:Int):List Nat:=if w=0 then Dm else if w=1 then De else if w=2 then Cj else []
theorem UJ{w:Int}(h0:0<=w)(h1:w<5):atI [tx Dm,tx De,tx Cj,tx [],tx []] w=some (tx (duF w)):=by
 have:w=0\/w=1\/w=2\/w=3\/w=4:=by lia
 rcases this with rfl|rfl|rfl|rfl|rfl<;>rfl
def VL(K:W.Frag)(cs:Cs)(C d:Addr)(G:Hp)(v:V)(du:List Nat):Prop:=∀ (Q:VK) (E:XK),(∀H',Same G H'->Q (tx du) H')->Sd9 K cs C d v G Q E
def res9:List (List Nat):=[tOk,tOk,[91,41,40],tOk,Cj,[97,32,101,32,102,32,119]]
def Gg:List V:=[tx [114,111,119,32,113,32,91],tx [98,101,104,105,110,100,32,113,32,113,32,119],tx [115,104,111,119,32,113],tx [100,114,111,112,32,113],tx [114,111,119,32,113,32,123,125],tx [110,97,109,101,115]]
def kvE(a:List Nat)(i:Nat):Kv:=kv9 a++(if i=1 then [(kyT [113],tx [91])]else if i=2\/i=3 then [(kyT [113],tx [91,41,40])]else [])
theorem VQ{v:V}:Srt [(kyT [113],v)] [[113]]:=⟨[⟨[113].toArray⟩],rfl,by decide,by decide,by decide⟩
end BrS
namespace Bk
open PySem L2 BrM BrR BrS BrC BrTx BrB BrI
def top(i:Nat):Stmt:=PySem.Challenge.pw_bracketrows_k49_refused_in_order.main.body.getD i (.Pass ⟨0,0,0,0⟩)
def LF:List (Str×Stmt):=("is_whole",top 20)::("check_kinds",top 21)::("is_line",top 22)::("check_line",top 23)::("matched",top 24)::("is_right",top 25)::("weighed_places",top 27)::("counted_places",top 28)::("pair_sum",top 29)::("no_sums",top 30)::("span_sums",top 31)::("whole_sum",top 32)::("check_filling",top 33)::("pairs_with_rest",top 34)::("bracket_sums",top 35)::("how_many",top 37)::("may_open",top 39)::("depths_before",top 40)::("depths_by_stop",top 41)::("depths",top 42)::("may_go_on",top 43)::("fewest_more",top 44)::("nth_filling",top 48)::("is_right_filling",top 49)::("number_of",top 50)::("likelier",top 52)::("likeliest_pair",top 53)::("round_about",top 54)::("one_behind_the_other",top 55)::("likeliest_spans",top 56)::("first_likeliest",top 57)::("needs_change",top 61)::("places_to_change",top 62)::("fewest_changes",top 63)::("filled",top 68)::("sure_places",top 69)::("is_name",top 79)::("is_number",top 80)::("has_form",top 81)::("parted",top 82)::("known_words",top 83)::("yes_or_no",top 84)::("shown",top 85)::("say_kinds",top 86)::("say_row",top 87)::("say_turn",top 88)::("say_behind",top 89)::("say_drop",top 90)::("say_show",top 91)::("say_right",top 92)::("say_may",top 93)::[("say_many",top 94),("say_nth",top 95),("say_number",top 96),("say_sure",top 97),("say_fewest",top 98),("say_more",top 99),("say_names",top 100),("_law_pool",top 104),("_law_draw",top 105),("_law_right_row",top 106),("_law_signs",top 107),("_law_bent",top 108),("_law_line",top 109),("_law_said",top 110),("_law_no_row",top 113),("_law_no_name",top 114),("_law_no_line",top 115),("_law_else",top 116),("_law_stands",top 117),("law",top 118)]
def LM(aC aE:Addr):List (Str×Addr×Str×Stmt):=[("Course.__init__",aC,"__init__",inClass (top 47) 0),("Course.many_in_all",aC,"many_in_all",inClass (top 47) 1),("Desk.__init__",aE,"__init__",inClass (top 102) 0),("Desk.say",aE,"say",inClass (top 102) 1),("Desk.names",aE,"names",inClass (top 102) 2)]
def LN:List Str:=["ValueError","all","any","bool","enumerate","int","isinstance","len","list","max","min","range","set","sorted","str","sum","zip"]
def LG(aK aF aD:Addr):List (Str×V):=[("OPENING",tx [40,91,123,60]),("CLOSING",tx [41,93,125,62]),("KINDS", .ref aK),("BRACKETS",tx [40,41,91,93,123,125,60,62]),("UNKNOWN",tx [63]),("MOST_SIGNS", .int 40),("KEPT", .int 2),("CHANGED", .int 1),("DONE",tx [111,107]),("NOTHING",tx [110,111,110,101]),("FIRST_KINDS", .int 4),("LETTERS",tx [97,98,99,100,101,102,103,104,105,106,107,108,109,110,111,112,113,114,115,116,117,118,119,120,121,122]),("MOST_LETTERS", .int 8),("FIGURES",tx [48,49,50,51,52,53,54,55,56,57]),("MOST_FIGURES", .int 9),("FORMS", .ref aF),("DEEDS", .ref aD)]
def LC(cs:Cs):List (Str×Addr):=[("RowError",cs.RowError),("NoKinds",cs.NoKinds),("NoLine",cs.NoLine),("NotRight",cs.NotRight),("NoTree",cs.NoTree),("NoNumber",cs.NoNumber),("NoWeights",cs.NoWeights),("NoPlace",cs.NoPlace),("NoFilling",cs.NoFilling),("TooMany",cs.TooMany),("NoName",cs.NoName),("NoRow",cs.NoRow)]
structure Txt (P:Program) (w:World) (K:W.Frag) (mg:Str->Option Value) (aK:Addr) (cs:Cs) (aC aE aF aD:Addr):Prop where
 f:AllP (FnA K mg) LF
 m:AllP (MtA K) (LM aC aE)
 n:∀x∈LN,mg x=none
 g:AllP (GlA mg) (LG aK aF aD)
 c:AllP (ClA K mg) (LC cs)
 k:FTu K aK [tx [40,41],tx [91,93],tx [123,125],tx [60,62]]
 F:LP P w K aF
 D:LQ P w K mg aD
 C:Own K mg "Course" aC ["at","closings","places","rests","sums"]
 E:Own K mg "Desk" aE ["k","rows"]
 t:LA K cs=true
section
variable{P:Program}{w:World}{K:W.Frag}{mg:Str->Option Value}{base:Heap}{aK aC aE aF aD:Addr}{cs:Cs}{k:Nat}(T:Txt P w K mg aK cs aC aE aF aD)
local macro_rules | `(tactic| walk_at"s") => `(tactic| first
  | with_reducible first | apply U4 | apply U3 | apply Qp | apply UX | apply Ui | apply UW | apply Sy | apply Sn | apply Sl | apply VR | apply Uj | apply Ut | apply U5 | apply S6 | apply Ud | apply SV | apply Q7 | apply Uy | apply Uw | apply Ul | apply Uk | apply Uq | apply VS | apply Pf | apply SQ | apply Qr | apply Uo | apply Um | apply Si | apply U2 | apply Q2 | apply Q1 | apply S5 | apply Q3 | apply Sf | apply Qw | apply Sj | apply Q4 | apply Sk | apply Ub | apply SN | apply UU | apply Kw | apply Qs | apply Sx | apply Su | apply Sv | apply Sw | apply UZ | apply Sb | apply U0 | apply Uz | apply Qm | apply UV | apply Q6 | apply Uv | apply VX | apply Se | apply Sd | apply SZ | apply Sa | apply Sr | apply Kz
  | ((with_reducible apply Qz); exact rfl)
  | ((with_reducible apply VT); (first | (exact (show (0 : Int) < _ by lia)) | (exact ⟨by lia, by lia⟩) | (exact ⟨by decide, by decide, by decide⟩)))
  | ((with_reducible apply SY); (first | exact .inl ⟨by lia, by lia⟩ | exact .inr ⟨by lia, by lia⟩))
  | ((with_reducible apply F3); (first | assumption | exact small (by lia)))
  | ((with_reducible apply BD); (first | exact small (by lia) | exact small (by simp only [List.length_append, List.length_cons, List.length_nil]; lia)))
  | ((with_reducible apply GN); (first | assumption | exact small (by lia) | exact small (by simp only [List.length_append, List.length_cons, List.length_nil]; lia)))
  | (with_reducible apply Ue; intro _ _ _ _ _ _)
  | refine Tq (by assumption) ?_
  | fail)
local macro_rules | `(tactic| walk_at"s") => `(tactic| first
  | ((with_reducible apply SR); exact rfl; exact rfl)
  | ((with_reducible apply Ug); exact rfl)
  | with_reducible first | apply SU | apply VV | apply S4 | apply Va | apply SX | apply Sq | apply S7 | apply SW | apply SK | apply Up | apply Q9 | apply Ur | apply VZ | apply Ss | apply UY | apply SJ | apply Uu | apply SL | apply Vd | apply VU | apply Uh | apply S3 | apply Q5 | apply Q0
  | ((with_reducible apply VY); exact rfl)
  | fail)
local macro_rules | `(tactic| walk_at"s") => `(tactic| first
  | with_reducible apply s_c
  | ((with_reducible first | apply UT | apply U1 | apply Vb | apply SS | apply VW); exact rfl)
  | with_reducible first | apply Vc | apply S0 | apply Ua | apply Ky | apply Uc | apply B8
  | ((with_reducible refine AN (xs := ?xs) (v := ?v) ?h ?e ?_); (case h => assumption); (case e => exact rfl))
  | fail)
local macro_rules | `(tactic| ext) => `(tactic| skip)
local macro_rules | `(tactic| ext) => `(tactic| first|(walk_at"s";ext)|fail)
local macro_rules | `(tactic| show $e:term) => `(tactic| (ext;refine $e))
local macro_rules | `(tactic| obtain ⟨$a, $b, $c, $x,*⟩ := $e:term) => `(tactic| (refine Vk λR out => ?_; rcases $e:term with ⟨$a, $b, $c, $x,*⟩ <;> (refine out ?_; clear out R)))
local macro_rules | `(tactic| and_intros) => `(tactic| exact λ_ _ _ _ _ _ => by first | exact us2 λ_ _ => rfl | exact us1 λ_ => rfl | exact us3 λ_ _ _ => rfl | exact us4 λ_ _ _ _ => rfl | exact us0 rfl)
include T
theorem Txt.N(i:Nat){x:Str}(h:LN[i]? =some x:=by rfl):mg x=none:=T.n x (List.mem_of_getElem? h)
theorem HA:FuV P w K mg base (k+1) "is_whole" ["thing"] (spWhole K):=FnA.u (T.f.at 0) (scN ["thing"]) λnd _ _ _ _ _ _ _ _ _ _ h=>by
 obtain⟨x,ty,rfl,hT,hp,q⟩:=h;refine⟨_,(AE (AK (F8 (Ag (DC K) rfl (T.N 6) PyProof.Rows.boot_isinstance (AA (pv 0) (AA (DJ (T.N 5) PyProof.Rows.boot_int) AB))) (Dq (KW (Ag (DC K) rfl (T.N 6) PyProof.Rows.boot_isinstance (AA (pv 0) (AA (DJ (T.N 3) PyProof.Rows.boot_bool) AB)))))))),?_⟩;ext;have hp':ty="NoneType"\/ty="bool"\/ty="int"\/ty="str"\/ty="list"\/ty="tuple"\/ty="dict":=by simpa[B7]using hp
 rcases hp' with rfl|rfl|rfl|rfl|rfl|rfl|rfl
 ·refine BV (b:=false) hT (by with_unfolding_all rfl) (B8 (D5 ?_));exact q
 ·refine BV (b:=true) hT (by with_unfolding_all rfl) (B8 (Ce ?_));show BV (b:=true) hT (by with_unfolding_all rfl) (B8 ?_);exact q
 ·refine BV (b:=true) hT (by with_unfolding_all rfl) (B8 (Ce ?_));show BV (b:=false) hT (by with_unfolding_all rfl) (B8 ?_);exact q
 ·refine BV (b:=false) hT (by with_unfolding_all rfl) (B8 (D5 ?_));exact q
 ·refine BV (b:=false) hT (by with_unfolding_all rfl) (B8 (D5 ?_));exact q
 ·refine BV (b:=false) hT (by with_unfolding_all rfl) (B8 (D5 ?_));exact q
 ·refine BV (b:=false) hT (by with_unfolding_all rfl) (B8 (D5 ?_));exact q
theorem Gr:Aa P w K mg base (k+2) "check_kinds" ["k"] (Pb K cs):=FnA.uE (T.f.at 1) (scN ["k"]) λnd _ _ _ _ _ H _ _ _ hr h=>by
 refine⟨_,(AE (AV (PW.pt (BL (BU (A5 K (AL (HA T) hr (AA (pv 0) AB)))) (BX (BU (FM Cz Cz AC (pv 0) (Ar K (T.N 7) (AA (AY (T.g.at 2)) AB))))))) (AE (Cg (T.c.at 1).2 (T.c.at 1).1 hr.hd Cv (AA CZ AB))) AX)),?_⟩;rcases h with⟨x,rfl,h1,h2,q⟩|⟨v,rfl,⟨ty,hT,hp,hi⟩,r⟩
 ·show HZ ?_;show ifq rfl ?_;show ifp (decide_eq_true h1) ?_;show BS (.inr T.k.sq) ?_;show ifq (by simp;lia) ?_;ext;exact q
 ·show⟨v,ty,rfl,hT,hp,?_⟩;ext
  by_cases e:ty="int"
  ·subst e;obtain⟨i,rfl⟩:=hT.int_of rfl
   ·have hi:=hi i rfl;rw[decide_eq_true rfl];refine ifq rfl ?_;ext
    by_cases h1:1<=i
    ·refine ifp (decide_eq_true h1) ?_;show BS (.inr T.k.sq) ?_;show ifp (by simp;lia) ?_;ext;exact⟨small (by decide),λy hy=>r y H (Same.refl H) hy⟩
    ·refine ifq (decide_eq_false h1) ?_;show ifp rfl ?_;ext;exact⟨small (by decide),λy hy=>r y H (Same.refl H) hy⟩
  ·rw[decide_eq_false e];refine ifp rfl ?_;show ifp rfl ?_;ext;exact⟨small (by decide),λy hy=>r y H (Same.refl H) hy⟩
theorem HP:Aa P w K mg base (k+3) "is_line" ["k","thing"] (JT K cs):=FnA.uE (T.f.at 2) (scN ["k","thing","signs"]) λnd _ _ _ _ _ H _ _ _ hr h=>by
 refine⟨_,(AD (BC (Ak (Gr T) hr BE (AA (pv 0) AB))) (AD (AV (PW.pt (BL (BU (A5 K (Ag (DC K) rfl (T.N 6) PyProof.Rows.boot_isinstance (AA (pv 1) (AA (DJ (T.N 14) PyProof.Rows.boot_str) AB))))) (BX (AS CM (Ar K (T.N 7) (AA (pv 1) AB)) (AY (T.g.at 5)))))) (AE (AK Bp)) AX) (AD (CH (i:=2) nd rfl (Or.inr rfl) (AJ AO (AJ AO (BP (BW K) (AY (T.g.at 0)) BR (BQ (pv 0))) (BP (BW K) (AY (T.g.at 1)) BR (BQ (pv 0)))) (AY (T.g.at 4)))) (AE (AK (Ag (Da K rfl) rfl (T.N 1) PyProof.Rows.boot_all (AA (BA (own:=["sign"]) (sel:=[2]) (A2 (osc:=(AU (top 22))) (N:=["k","thing","signs"]) (by decide +kernel)) rfl (CY (pv 1)) (λ_ _ _ _ _=>(Ah (i:=0) (show(["sign","signs"]:List Str).Nodup from by decide +kernel) rfl (Or.inl rfl))) (Aq (by decide)) (λ_ _ _ _ _=>A3) (λ_ _ _ _ _=>(BM (DF K) (pv 0) (pv 1) (by with_unfolding_all rfl)))) AB))))))),?_⟩;rcases h with⟨kk,x,rfl,h1,h2,hx⟩|⟨kv,v,rfl,hk,r⟩
 rotate_left
 ·ext;exact .inr ⟨kv,rfl,hk,r.pass (Same.refl H)⟩
 ·show .inl (Hr h1 h2 ?_);ext;rcases hx with⟨a,rfl,ha,q⟩|⟨ty,hT,hp,hs,q⟩
  ·refine BV (b:=true) (TyOf.str _) (by with_unfolding_all rfl) ?_;show ifq rfl ?_;show ifd (λhc=>?_) (λhc=>?_)
   ·ext;have e:isRow kk a=false:=by unfold isRow;rw[decide_eq_false (by lia),Bool.false_and]
    have:=q H (Same.refl H);rw[e]at this;exact this
   ·ext;rw[CJ _ (by lia),CJ _ (by lia)];have l1:((([40,91,123,60]:List Nat)).take kk.toNat).length<=4:=by rw[List.length_take];exact Nat.min_le_right _ _
    have l2:((([41,93,125,62]:List Nat)).take kk.toNat).length<=4:=by rw[List.length_take];exact Nat.min_le_right _ _
    first|refine BD (small (by lia)) ?_ |skip
    ext
    first|refine BD (small (by rw[List.length_append,List.length_singleton];lia)) ?_ |skip
    show CD (n:=a.length) (λD i ys H'=>ys=((a.take i).map λc=>V.bl (decide (c∈sgn kk)))/\SameBut1 D H H') (λD hD=>⟨rfl,SameBut1.of (AI hD _)⟩) (λD i ys H' _ hi _ _=>by simpa[Its]using hi) (λD ys H' hD hD' hl ⟨e,sH⟩=>⟨by simp[Its],?_⟩) ?_
    ·rw[List.take_length]at e;subst e;have hS:SqL K H' D ((a.map λc=>decide (c∈sgn kk)).map V.bl):=by
      rw[List.map_map];exact SqL.of hD'
     refine Dv hS ?_;have e2:((a.map λc=>decide (c∈sgn kk)).all id)=isRow kk a:=by
      unfold isRow;rw[decide_eq_true (by lia),Bool.true_and,List.all_map]
      rfl
     rw[e2];exact q H' λb o z=>sH b o z (AQ z hD)
    ·rintro D i ys H' x H3 hD hi hD' hl ⟨e,sH⟩ ⟨rfl,c,ec,rfl⟩;have ec':a[i]? =some c:=by simpa using ec
     show Aw 0 (tx [c]) _ _ _;show Ce ?_;show CA hi (small (by lia)) hD' hl ⟨?_,sH.trans SameBut1.upd⟩;rw[e,List.take_add_one,ec'];simp only[Option.toList_some,List.map_append,List.map_cons,List.map_nil]
     rfl
  ·have hp':ty="NoneType"\/ty="bool"\/ty="int"\/ty="list"\/ty="tuple"\/ty="dict":=by
    have:ty="NoneType"\/ty="bool"\/ty="int"\/ty="str"\/ty="list"\/ty="tuple"\/ty="dict":=by simpa[B7]using hp
    rcases this with z|z|z|z|z|z|z
    ·exact .inl z
    ·exact .inr (.inl z)
    ·exact .inr (.inr (.inl z))
    ·exact absurd z hs
    ·exact .inr (.inr (.inr (.inl z)))
    ·exact .inr (.inr (.inr (.inr (.inl z))))
    ·exact .inr (.inr (.inr (.inr (.inr z))))
   have fin:W.kitOne K (.type ty) (.type "str")=some false:=by
    rcases hp' with rfl|rfl|rfl|rfl|rfl|rfl<;>with_unfolding_all rfl
   refine BV (b:=false) hT fin ?_;show ifp rfl ?_;show ifp rfl ?_;ext;exact q
theorem B1:Aa P w K mg base (k+4) "check_line" ["k","row"] (JU K cs spCheckLine):=FnA.uE (T.f.at 3) (scN ["k","row"]) λnd _ _ _ _ _ H _ _ _ hr h=>by
 refine⟨_,(AE (AV (BU (A5 K (Ak (HP T) hr BE (AA (pv 0) (AA (pv 1) AB))))) (AE (Cg (T.c.at 2).2 (T.c.at 2).1 hr.hd Cv (AA CZ AB))) AX)),?_⟩;rcases h with⟨kk,a,rfl,h1,h2,ha,q⟩|⟨kv,v,rfl,⟨hk,r⟩|⟨kk,rfl,h1,h2,hn,r⟩⟩
 ·have hl:=Ay ha;show .inl (Io h1 h2 (by lia) (λH' sH=>?_));show ifq (by rw[ha];rfl) ?_;ext;exact q H' sH
 ·ext;exact .inr ⟨kv,v,rfl,hk,r.pass (Same.refl H)⟩
 ·show Nv h1 h2 hn (λH1 s1=>?_);show ifp rfl ?_;ext;exact⟨small (by decide),λy hy=>r y H1 s1 (s1.free hy)⟩
theorem Nr:FuV P w K mg base (k+1) "matched" ["row"] (spMatched):=FnA.u (T.f.at 4) (scN ["row","found","waiting","at","sign","start"]) λnd _ _ _ _ _ H _ _ _ hr h=>by
 obtain⟨a,rfl,ha,q,q'⟩:=h;have hu:=hr.units0;refine⟨_,(AD (AM 1 (AJ A6 (AW (AA AC AB)) (Ar K (T.N 7) (AA (pv 0) AB)))) (AD (AM 2 (AW AB)) (AD (BI PassesOwn.never rfl (Pq rfl (T.N 4) (AA (pv 0) AB)) (Bu (n:=2) K rfl (Ao (Af 3) (Ao (Af 4) Bi))) (AD (AV (AS (DF K) (pv 4) (AY (T.g.at 0)) (by with_unfolding_all rfl)) (AD (BC (BZ K PySem.F.plainAttrs_list PySem.F.slot_list_append PySem.F.type_list_append DB (pv 2) (AA (pv 3) AB))) (AE M6)) AX) (AD (AV (PW.pt (BL (BU (A5 K (pv 2))) (BX (AS (Hm K) (AJ AO (AH K (pv 0) (AH K (pv 2) (Bo Bm AC))) (pv 4)) (AY (T.g.at 2)) (by with_unfolding_all rfl))))) (AE (AK Ae)) AX) (AD (AM 5 (RW K PySem.F.plainAttrs_list PySem.F.slot_list_pop PySem.F.type_list_pop Tp (pv 2))) (AD (BY (pv 3) (CI (pv 1) (pv 5) B4)) (AE (BY (pv 5) (CI (pv 1) (pv 3) B4)))))))) (AE (AK (BK (A5 K (pv 2)) Ae (pv 1))))))),?_⟩;show⟨small (show 1<=1000 by decide),λp0 hp0=>?_⟩;show Ed AF (by lia) (by lia) (small (by simp;lia)) (λfo hfo=>?_);rw[Int.toNat_natCast,VF];show⟨small (show 0<=1000 by decide),λwa hwa=>?_⟩;ext;have sH:Same H (upd (upd (upd H p0 (.lst [.int 0])) fo (.lst (List.replicate a.length (V.int 0)))) wa (.lst [])):=(AI hp0 _).trans ((AI hfo _).trans (AI hwa _));have hfw:fo≠wa:=AQ AF hwa;have hHf:H fo=none:=(AI hp0 _).free hfo;have hHw:H wa=none:=(AI hp0 _).free ((AI hfo _).free hwa);refine Ro (λi σ H'=>∃ (st ws:List Nat) (xs:List V) (o3 o4 o5:Option V),σ=[some (tx a),some (.ref fo),some (.ref wa),o3,o4,o5]/\MI a i st ws xs/\H' fo=some (.lst xs)/\H' wa=some (.lst (ws.reverse.map fun(w:Nat)=>V.int w))/\Same H H') ⟨[],[],List.replicate a.length (V.int 0),_,_,_,rfl,MI.start a (by simp),?_,AF,sH⟩ ?_ ?_
 ·rw[AG hfw,AF]
 ·intro i c σ H1 tt hc ht z_;obtain⟨st,ws,xs,o3,o4,o5,rfl,m,hf1,hw1,s1⟩:=z_;have hi:i<a.length:=(List.getElem?_eq_some_iff.mp hc).1;have s2:Same H1 (upd H1 tt (.tup [.int i,tx [c]])):=AI ht _;have hf2:=s2 _ _ hf1;have hw2:=s2 _ _ hw1;have hwl:ws.length<=40:=by
   have e1:=m.wk.len;have e2:=GT m.rn;have:∀l:List Nat,hg l<=l.length:=by
    intro l
    induction l with
    |nil=>simp[hg]
    |cons d r ih=>rw[hg,List.length_cons];unfold sg;split<;>lia
   have e3:=this (a.take i);unfold BrM.ht at e2;rw[List.length_take]at e3;lia
  refine EW (SqT.of AF) rfl ?_;show ifd (λho=>?_) (λho=>?_)
  ·show⟨.inl ⟨rfl,_,SqL.of hw2⟩,?_⟩;show⟨wa,_, .int i,rfl,rfl,hw2,EE (by simp;lia),?_⟩;show⟨_,i::ws,xs,_,_,_,rfl,m.opens hc ho,?_,?_,?_⟩
   ·rw[AG hfw];exact hf2
   ·rw[AF];simp
   ·intro b o z;rw[AG (AQ z hHw)];exact s2 b o (s1 b o z)
  ·show F2 (SqL.of hw2) ?_;have ho:c∉opn:=ho;have hne:∀ (hn:¬ (∃w wr r,ws=w::wr/\st=c::r)),¬Rt a:=by
    intro hn hR;obtain⟨s',e⟩:=Pg hR (i+1);rw[FL m.rn hc]at e;unfold BrM.stp at e;rw[if_neg ho]at e
    cases st with
    |nil=>cases e
    |cons d r=>
     simp only at e
     split at e
     ·rename_i hd
      cases ws with
      |nil=>have:=m.wk.len;simp at this
      |cons w wr=>exact hn ⟨w,wr,r,rfl,by rw[hd]⟩
     ·cases e
   cases ws with
   |nil=>
    refine ifp rfl ?_;ext;exact q' (hne (by rintro⟨_,_,_,z,_⟩;cases z)) _ (s1.trans s2)
   |cons w wr=>
    refine ifq (by simp) ?_;obtain⟨cw,r,hcw,hcwo,rfl,hwi⟩:=m.top;have hwa':w<a.length:=by lia
    have elast:((w::wr).reverse.map fun(w:Nat)=>V.int w)=(wr.reverse.map fun(w:Nat)=>V.int w)++[V.int w]:=by simp
    have hl2:atI ((w::wr).reverse.map fun(w:Nat)=>V.int w) (-1)=some (.int w):=by rw[elast];exact Qa _ _
    walk_at"s";walk_at"s";walk_at"s";walk_at"s";walk_at"s";walk_at"s";show AN (SqL.of hw2) hl2 ?_;refine Bw (small (by lia)) (Av hcw) ?_;show Pe (.inr T.k.sq) rfl rfl ?_;have ek:inV (tx ([cw]++[c])) [tx [40,41],tx [91,93],tx [123,125],tx [60,62]]=decide (c=clo cw):=QE hcwo;rw[ek];show ifn (λhcc=>?_) (λhcc=>?_)
    ·ext;exact q' (hne (by rintro⟨_,_,_,_,z⟩;injection z with z _;exact hcc z.symm)) _ (s1.trans s2)
    ·show⟨.inl ⟨rfl,_,SqL.of hw2⟩,?_⟩;refine⟨wa,_, .int w,rfl,rfl,hw2,?_,?_⟩
     ·rw[elast];simp
     ·ext;have hf3:(upd (upd H1 tt (.tup [.int i,tx [c]])) wa (.lst ((w::wr).reverse.map fun(w:Nat)=>V.int w).dropLast)) fo=some (.lst xs):=by rw[AG hfw];exact hf2
      have hxl:=m.len;refine CG (j:=w) hf3 (by simp[ixN];lia) ?_;show CG (j:=i) AF (by simp[ixN];lia) ?_;show⟨r,wr,_,_,_,_,rfl,MI.closes (c:=c) (by rw[hcc];exact m) hc ho,AF,?_,?_⟩
      ·rw[AG hfw.symm,AG hfw.symm,AF,elast];simp
      ·intro b o z;rw[AG (AQ z hHf),AG (AQ z hHf),AG (AQ z hHw)];exact s2 b o (s1 b o z)
 ·intro σ H1 z_;obtain⟨st,ws,xs,o3,o4,o5,rfl,m,hf1,hw1,s1⟩:=z_;have hrun:=m.rn;rw[List.take_length]at hrun;show F2 (SqL.of hw1) ?_;have hl:=m.wk.len
  cases ws with
  |nil=>
   refine ifq rfl ?_;ext
   cases st with
   |nil=>exact q hrun fo xs H1 hHf s1 hf1 m.fin
   |cons d r=>simp at hl
  |cons w wr=>
   refine ifp (by simp) ?_;show q' (λhR=>?_) H1 s1;have hR':run [] a=some []:=hR;rw[hrun]at hR'
   cases hR'
   simp at hl
theorem NJ:Aa P w K mg base (k+5) "is_right" ["k","row"] (JU K cs spRightP):=FnA.uE (T.f.at 5) (scN ["k","row"]) λnd _ _ _ _ _ H _ _ _ hr h=>by
 refine⟨_,(AD (BC (Ak (B1 T) hr BE (AA (pv 0) (AA (pv 1) AB)))) (AE (AK (BM OU (AL (Nr T) hr (AA (pv 1) AB)) Ae)))),?_⟩;rcases h with⟨kk,a,rfl,h1,h2,ha,q⟩|⟨kv,v,rfl,g⟩
 rotate_left
 ·ext;exact .inr ⟨kv,v,rfl,g.pass (Same.refl H)⟩
 have hl:=Ay ha;show .inl (B2 h1 h2 ha (λH1 s1=>?_));show NP hl (λhR r xs H2 hr2 s2 hx hP=>?_) (λhn H2 s2=>?_)
 ·ext;have:=q H2 (s1.trans s2);rw[decide_eq_true hR]at this;exact this
 ·ext;have:=q H2 (s1.trans s2);rw[decide_eq_false hn]at this;exact this
theorem MG:FuV P w K mg base (k+1) "weighed_places" ["row","weights"] (spWeighed K):=FnA.u (T.f.at 6) (scN ["row","weights"]) λnd _ _ _ _ _ _ _ _ _ hr h=>by
 obtain⟨a,p,w',rfl,ha,hp,hw,q⟩:=h;have hu:=hr.units0;refine⟨_,(AE (AK (BA (own:=["sign"]) (sel:=[1]) (A2 (osc:=(AU (top 27))) (N:=["row","weights"]) (by decide +kernel)) rfl (CY (pv 0)) (λ_ _ _ _ _=>(Ah (i:=0) (show(["sign","weights"]:List Str).Nodup from by decide +kernel) rfl (Or.inr rfl))) (Aq (by decide)) (λ_ _ _ _ _=>A3) (λ_ _ _ _ _=>(BK (AS (Ax K hu) (pv 0) (AY (T.g.at 4))) (Bh (N7 K) rfl (T.N 8) PyProof.Rows.boot_list (AA (pv 1) AB)) (BA (own:=["bracket"]) (sel:=[0]) (IC (osc:=(AU (top 27))) (N:=["sign","weights"]) rfl rfl (by decide +kernel)) rfl (CY (BP (BW K) (AY (T.g.at 3)) BR (BQ (Ar K (T.N 7) (AA (pv 1) AB))))) (λ_ _ _ _ _=>(Ah (i:=0) (show(["bracket","sign"]:List Str).Nodup from by decide +kernel) rfl (Or.inl rfl))) (Aq (by decide)) (λ_ _ _ _ _=>A3) (λ_ _ _ _ _=>(Bh DZ rfl (T.N 5) PyProof.Rows.boot_int (AA (BM (Ax K hu) (pv 1) (pv 0)) AB))))))))),?_⟩;show FY (small (by lia)) (λD i ys H'=>∃ad:Nat->Addr,ys=(List.range i).map (λj=>V.ref (ad j))/\∀j,j<i->H' (ad j)=some (iL (plw w' (a.getD j 0)))/\ad j≠D)
  (λD _=>⟨λ_=>D,rfl,λj hj=>absurd hj (by lia)⟩) (λD i ys H1 H2 _ ⟨ad,e,h1⟩ s12=>⟨ad,e,λj hj=>⟨s12 _ _ (h1 j hj).1 (h1 j hj).2,(h1 j hj).2⟩⟩)
  (λD ys H' hD hy _ sH ⟨ad,e,h1⟩=>?_) ?_
 ·subst e;refine q D H' hD sH ⟨ad,by rw[List.length_map];exact hy,λi hi=>?_⟩;rw[List.length_map]at hi;have eg:(a.map (plw w')).getD i []=plw w' (a.getD i 0):=by
   simp only[List.getD_eq_getElem?_getD,List.getElem?_map,List.getElem?_eq_getElem hi];rfl
  rw[eg];exact(h1 i hi).1
 ·rintro D i ys H' R hD hi hy hl sH ⟨ad,e,h1⟩ r;have fin:∀l H6,H' l=none->Same H' H6->H6 l=some (iL (plw w' (a.getD i 0)))->R (.ref l) H6:=by
   intro l H6 hl' s6 h6;have hlD:l≠D:=λz=>by rw[z,hy]at hl';cases hl'
   refine r _ _ s6 ⟨λj=>if j=i then l else ad j,?_,λj hj=>?_⟩
   ·subst e;rw[List.range_succ,List.map_append];congr 1
    ·refine List.map_congr_left λj hj=>?_;have:=List.mem_range.mp hj;show V.ref (ad j)=V.ref (if j=i then l else ad j);rw[if_neg (by lia)]
    ·simp
   ·by_cases ej:j=i
    ·subst ej;simp only[if_true];exact⟨h6,hlD⟩
    ·simp only[if_neg ej];obtain⟨a1,a2⟩:=h1 j (by lia);exact⟨s6 _ _ a1,a2⟩
  show ifd (λhc=>?_) (λhc=>?_)
  ·show Qu (sH.seq hp) (λl hl'=>?_);refine fin l _ hl' (AI hl' _) ?_;have e63:a.getD i 0=63:=by simpa using hc
   rw[AF];unfold plw;rw[if_pos e63]
  ·have n63:¬ (a.getD i 0=63):=by simpa using hc
   show BS (.inl (sH.seq hp)) ?_;ext;have el:(((w'.map V.int).length:Nat):Int)=(w'.length:Int):=by rw[List.length_map]
   rw[el,CJ _ (by lia),Int.toNat_natCast];show IQ (λb=> .int (if a.getD i 0=b then 1 else 0)) (small (by rw[List.length_take];exact Nat.le_trans (Nat.min_le_right _ _) (by decide))) (λD2 H2 hD2 s2 h2=>?_) (λi2 c H2 R2 hc2 s2 r2=>?_)
   ·refine fin D2 H2 hD2 s2 ?_;rw[h2];unfold plw;rw[if_neg n63];show some (HO.lst _)=some (HO.lst (List.map V.int (List.map _ _)));rw[List.map_map]
    rfl
   ·ext;have eb:(if(decide ([a.getD i 0]=[c]))=true then(1:Int)else 0)=if a.getD i 0=c then 1 else 0:=by
     by_cases z:a.getD i 0=c<;>simp[z]
    rw[eb];exact r2 H2 (Same.refl _)
theorem EA:FuV P w K mg base (k+2) "counted_places" ["k","row"] (spCounted):=FnA.u (T.f.at 7) (scN ["k","row"]) λnd _ _ _ _ _ H _ _ _ hr h=>by
 obtain⟨kk,a,rfl,h1,h2,ha,q⟩:=h;refine⟨_,(AE (AK (AL (MG T) hr (AA (pv 1) (AA (AJ A6 (AW (AA AC AB)) (AJ A6 AC (pv 0))) AB))))),?_⟩;show⟨small (show 1<=1000 by decide),λz hz=>?_⟩;ext;have e2:(2*kk).toNat=2*kk.toNat:=by lia
 refine Ed (xs:=[.int 1]) AF (by lia) (by lia) (small (by rw[List.length_singleton,e2];lia)) (λp hp=>?_);ext;have ew:(List.replicate (2*kk).toNat [V.int 1]).flatten=(ones kk.toNat).map V.int:=by rw[e2,Pj]
 rw[ew]at*
 have sp:Same H (upd (upd H z (.lst [.int 1])) p (.lst ((ones kk.toNat).map V.int))):=(AI hz _).trans (AI hp _);refine My ha (SqL.of AF) (by rw[List.length_replicate];lia) (λr H' hr' sH hP=>?_);exact q r H' (sp.free hr') (sp.trans sH) hP
theorem NE:FuV P w K mg base (k+1) "pair_sum" ["first","last"] (spPair):=FnA.u (T.f.at 8) (scN ["first","last"]) λnd _ _ _ _ _ _ _ _ _ hr h=>by
 obtain⟨p,q,x,y,kk,rfl,hp,hq,lx,ly,hk,sx,sy,r⟩:=h;have hu:=hr.units0;refine⟨_,(AE (AK (Ag (ID K rfl) rfl (T.N 15) PyProof.Rows.boot_sum (AA (BA (own:=["opening"]) (sel:=[0,1]) (A2 (osc:=(AU (top 29))) (N:=["first","last"]) (by decide +kernel)) rfl (CS rfl (T.N 11) (AA AC (AA (Ar K (T.N 7) (AA (pv 0) AB)) (AA AC AB)))) (λ_ _ _ _ _=>(Ah (i:=0) (show(["opening","first","last"]:List Str).Nodup from by decide +kernel) rfl (Or.inl rfl))) (Aq (by decide)) (λ_ _ _ _ _=>A3) (λ_ _ _ _ _=>(AJ DA (AH K (pv 1) (pv 0)) (AH K (pv 2) (AJ AO (pv 0) AC))))) AB)))),?_⟩;show BS (.inl (SqL.of hp)) ?_;ext;have el:(((x.map V.int).length:Nat):Int)=((2*kk:Nat):Int):=by rw[List.length_map,lx]
 rw[el];refine⟨0,((2*kk:Nat):Int),2,rfl,⟨by decide,by decide,E6 (by decide) (by decide) (by lia) (by lia)⟩,?_⟩;have er:rN 0 ((2*kk:Nat):Int) 2=kk:=by rw[F6];lia
 rw[er];refine OC (λi=> .int (x.getD (2*i) 0*y.getD (2*i+1) 0)) (small (by lia)) (λD H' hD sH hy=>?_) (λi H' R hi sH r'=>?_)
 ·have ns:SqL K H' D (((List.range kk).map λi=>x.getD (2*i) 0*y.getD (2*i+1) 0).map V.int):=by rw[List.map_map];exact SqL.of hy
  refine Kx ns ?_;rw[Hg];exact r H' sH
 ·ext;have e1:(0+((i:Nat):Int)*2)=((2*i:Nat):Int):=by lia
  rw[e1];refine AN (SqL.of (sH _ _ hp)) (v:= .int (x.getD (2*i) 0)) (Av (int_at (by lia))) ?_;ext;have e2:(((2*i:Nat):Int)+1)=((2*i+1:Nat):Int):=by lia
  rw[e2];refine AN (SqL.of (sH _ _ hq)) (v:= .int (y.getD (2*i+1) 0)) (Av (int_at (by lia))) ?_;refine Cp (DH (sx.at _).1 (sx.at _).2 JL) (DH (sy.at _).1 (sy.at _).2 JL) ?_;exact r' H' (Same.refl _)
theorem HN:FuV P w K mg base (k+1) "no_sums" ["many"] (spNoSums):=FnA.u (T.f.at 9) (scN ["many"]) λnd _ _ _ _ _ H _ _ _ hr h=>by
 obtain⟨n,rfl,hn,q⟩:=h;have hu:=hr.units0;refine⟨_,(AE (AK (BA (own:=["start"]) (sel:=[0]) (A2 (osc:=(AU (top 30))) (N:=["many"]) (by decide +kernel)) rfl (C9 rfl (T.N 11) (AA (AJ AO (pv 0) AC) AB)) (λ_ _ _ _ _=>(Ah (i:=0) (show(["start","many"]:List Str).Nodup from by decide +kernel) rfl (Or.inl rfl))) (Aq (by decide)) (λ_ _ _ _ _=>A3) (λ_ _ _ _ _=>(AJ A6 (AW (AA AC AB)) (AJ AO (pv 1) AC)))))),?_⟩;show⟨_,rfl,by lia,by lia,?_⟩;have en:((n:Int)+1).toNat=n+1:=by lia
 rw[en];refine JK (small (by lia)) (λD i ys H'=>∃ad:Nat->Addr,ys=(List.range i).map (λj=>V.ref (ad j))/\(∀j,j<i->H' (ad j)=some (.lst (rwl n λ_=>0))/\H (ad j)=none/\ad j≠D)/\∀j j',j<i->j'<i->ad j=ad j'->j=j')
  (λD _=>⟨λ_=>D,rfl,λj hj=>absurd hj (by lia),λj _ hj=>absurd hj (by lia)⟩) (λD i ys H1 H2 _ ⟨ad,e,h1,h2⟩ s12=>⟨ad,e,λj hj=>⟨s12 _ _ (h1 j hj).1 (h1 j hj).2.2,(h1 j hj).2⟩,h2⟩)
  (λD ys H' hD hy _ sH ⟨ad,e,h1,h2⟩=>?_) ?_
 ·subst e;exact q D ad H' ⟨hD,λi hi=>(h1 i (by lia)).2.1,λi hi=>(h1 i (by lia)).2.2,λi j hi hj=>h2 i j (by lia) (by lia),hy,λi hi=>(h1 i (by lia)).1,sH⟩
 ·rintro D i ys H' R hD hi hy hl sH ⟨ad,e,h1,h2⟩ r;show⟨small (show 1<=1000 by decide),λz hz=>?_⟩;show Ed (xs:=[.int 0]) AF (by lia) (by lia) (small (by rw[List.length_singleton,en];lia)) (λp hp=>?_);have hpz:p≠z:=λw=>by rw[w,AF]at hp;cases hp
  have hp':H' p=none:=by rw[AG hpz]at hp;exact hp
  have hpD:p≠D:=λw=>by rw[w,hy]at hp';cases hp'
  have sp:Same H' (upd (upd H' z (.lst [.int 0])) p (.lst (List.replicate ((n:Int)+1).toNat [V.int 0]).flatten)):=(AI hz _).trans (AI hp _);refine r _ _ sp ⟨λj=>if j=i then p else ad j,?_,?_,?_⟩
  ·subst e;rw[List.range_succ,List.map_append];congr 1
   ·refine List.map_congr_left λj hj=>?_;have:=List.mem_range.mp hj;show V.ref (ad j)=V.ref (if j=i then p else ad j);rw[if_neg (by lia)]
   ·simp
  ·intro j hj
   by_cases ej:j=i
   ·subst ej;simp only[if_true];refine⟨?_,?_,hpD⟩
    ·rw[AF,en,Pi]
    ·exact sH.free hp'
   ·simp only[if_neg ej];obtain⟨a1,a2,a3⟩:=h1 j (by lia);exact⟨sp _ _ a1,a2,a3⟩
  ·intro j j' hj hj' ee;have nq:∀j,j<i->ad j≠p:=λj hj w=>by have:=(h1 j hj).1;rw[w,hp']at this;cases this
   by_cases e1:j=i<;>by_cases e2:j'=i
   ·lia
   ·simp only[if_pos e1,if_neg e2]at ee;exact absurd ee.symm (nq j' (by lia))
   ·simp only[if_neg e1,if_pos e2]at ee;exact absurd ee (nq j (by lia))
   ·simp only[if_neg e1,if_neg e2]at ee;exact h2 j j' (by lia) (by lia) ee
theorem EC:FuV P w K mg base (k+2) "span_sums" ["places"] (JR):=FnA.u (T.f.at 10) (scN ["places","many","sums","start","end","first_part","stop"]) λnd _ _ _ _ _ H _ _ _ hr h=>by
 obtain⟨p,ps,kk,rfl,hP,hn,hk,hl,q⟩:=h;have hu:=hr.units0;have hsm:∀l∈ps,Sm l:=λl z=>(hl l z).2;obtain⟨pa,hp0,hpa⟩:=id hP;refine⟨_,(AD (AM 1 (Ar K (T.N 7) (AA (pv 0) AB))) (AD (AM 2 (AL (HN T) hr (AA (pv 1) AB))) (AD (BI PassesOwn.never rfl (CS rfl (T.N 11) (AA (pv 1) (AA (Bo Bm AC) (AA (Bo Bm AC) AB)))) (Af 3) (AD (BY AC (CI (AH K (pv 2) (pv 3)) (pv 3) B4)) (AE (BI PassesOwn.never rfl (CS rfl (T.N 11) (AA (AJ AO (pv 3) AC) (AA (pv 1) (AA AC AB)))) (Af 4) (AD (AM 5 (AJ DA (AL (NE T) hr (AA (AH K (pv 0) (pv 3)) (AA (AH K (pv 0) (pv 4)) AB))) (AH K (AH K (pv 2) (AJ AO (pv 3) AC)) (pv 4)))) (AE (BI PassesOwn.never rfl (CS rfl (T.N 11) (AA (AJ AO (pv 4) AC) (AA (AJ AO (pv 1) AC) (AA AC AB)))) (Af 6) (AE (RJ (AH K (pv 2) (pv 3)) (pv 6) (Oz K) (AJ DA (pv 5) (AH K (AH K (pv 2) (AJ AO (pv 4) AC)) (pv 6))) UD B4))))))))) (AE (AK (pv 2)))))),?_⟩;show BS (.inl (SqL.of hp0)) ?_;have en:((((List.range ps.length).map λi=>V.ref (pa i)).length:Nat):Int)=(ps.length:Int):=by rw[List.length_map,List.length_range]
 rw[en];generalize hN:ps.length=n at*
 show HQ hn (λs' ad H1 tb1=>?_);show⟨n,-1,-1,rfl,⟨by decide,by decide,Nd (.inl rfl) (by lia) (by lia) (by decide) (by decide)⟩,?_⟩;have er:rN (n:Int) (-1) (-1)=n+1:=by rw[RF];lia
 rw[er];have place:∀ {H':Hp} {i:Nat},Same H H'->i<n->∃l,H' (pa i)=some (iL l)/\l.length=2*kk/\Sm l/\∀b,PP ps i b=l.getD b 0:=by
  intro H' i sH hi;have e:ps[i]? =some ps[i]:=List.getElem?_eq_getElem (by lia);have eg:ps.getD i []=ps[i]:=by rw[List.getD_eq_getElem?_getD,e];rfl
  refine⟨ps[i],?_,(hl _ (List.getElem_mem _)).1,(hl _ (List.getElem_mem _)).2,λb=>by show(ps.getD i []).getD b 0=_;rw[eg]⟩;have:=sH _ _ (hpa i (by lia));rw[eg]at this;exact this
 have pix:∀ {i:Nat},i<n->((List.range n).map λi=>V.ref (pa i))[i]? =some (.ref (pa i)):=fun{i} hi=>by rw[List.getElem?_map,List.getElem?_range hi];rfl
 refine FD (λt σ H'=>∃o3 o4 o5 o6,σ=[some (.ref p),some (.int n),some (.ref s'),o3,o4,o5,o6]/\Tb H H' s' ad n (λi j=>if n<i+t then tbl (PP ps) kk i j else 0)) ?_ ?_ ?_
 ·exact⟨_,_,_,_,rfl,tb1.congr λi j hi hj=>by rw[if_neg (by lia)]⟩
 rotate_left
 ·intro σ H' z_;obtain⟨o3,o4,o5,o6,rfl,tb⟩:=z_;ext;exact q s' ad H' (tb.congr λi j hi hj=>by rw[if_pos (by lia)])
 intro t σ H2 ht z_;obtain⟨o3,o4,o5,o6,rfl,tb2⟩:=z_;obtain⟨st,est⟩:∃st:Nat,st+t=n:=⟨n-t,by lia⟩;have e1:((n:Int)+(t:Int)* -1)=(st:Int):=by lia
 rw[e1];show AN (SqL.of tb2.top) (Av (tb2.at (i:=st) (by lia))) ?_;show CG (tb2.row st (by lia)) (j:=st) (by rw[DD];unfold ixN;rw[if_pos (by lia),if_pos (by lia)];simp) ?_;have tb3:=(tb2.set (i:=st) (j:=st) (v:=1) (by lia)).congr (T':=λi j=>if st<i then tbl (PP ps) kk i j else if i=st then part (PP ps) kk st 0 j else 0) (λi j hi hj=>by
  by_cases h1:i=st
  ·subst h1;rw[if_neg (Nat.lt_irrefl _),if_pos rfl,OQ]
   by_cases h2:j=i
   ·rw[if_pos ⟨rfl,h2⟩,if_pos h2]
   ·rw[if_neg (λz=>h2 z.2),if_neg h2,if_neg (by lia)]
  ·rw[if_neg (λz=>h1 z.1)]
   by_cases h2:st<i
   ·rw[if_pos (by lia),if_pos h2]
   ·rw[if_neg (by lia),if_neg h2,if_neg h1])
 generalize upd H2 (ad st) _=H3 at tb3;clear tb2;show⟨_,_,2,rfl,⟨by decide,by decide,E6 (by lia) (by lia) (by lia) (by lia)⟩,?_⟩;have er2:rN ((st:Int)+1) n 2=(n-st)/2:=by rw[F6];lia
 rw[er2];refine FD (λq' σ H'=>∃o4 o5 o6,σ=[some (.ref p),some (.int n),some (.ref s'),some (.int st),o4,o5,o6]/\Tb H H' s' ad n (λi j=>if st<i then tbl (PP ps) kk i j else if i=st then part (PP ps) kk st q' j else 0)) ?_ ?_ ?_
 ·exact⟨_,_,_,rfl,tb3⟩
 rotate_left
 ·intro σ H' z_;obtain⟨o4,o5,o6,rfl,tb⟩:=z_;show⟨_,_,_,_,rfl,tb.congr λi j hi hj=>?_⟩
  by_cases h2:st<i
  ·rw[if_pos h2,if_pos (by lia)]
  ·by_cases h1:i=st
   ·subst h1;rw[if_neg h2,if_pos rfl,if_pos (by lia)];exact P4 hj
   ·rw[if_neg h2,if_neg h1,if_neg (by lia)]
 intro q' σ H4 hq' z_;obtain⟨o4,o5,o6,rfl,tb4⟩:=z_;obtain⟨en',hen⟩:∃e:Nat,e=st+1+2*q':=⟨_,rfl⟩;have e2:((st:Int)+1+(q':Int)*2)=(en':Int):=by lia
 have hen2:en'<n:=by lia
 rw[e2];ext;obtain⟨x,hx,lx,sx,ex⟩:=place tb4.sm (show st<n by lia);obtain⟨y,hy,ly,sy,ey⟩:=place tb4.sm (show en'<n by lia);refine AN (SqL.of (tb4.sm _ _ hp0)) (Av (pix (i:=st) (by lia))) ?_;show AN (SqL.of (tb4.sm _ _ hp0)) (Av (pix (i:=en') (by lia))) ?_;show P5 hx hy lx ly hk sx sy (λH5 s5=>?_);have epr:sm kk (λo=>x.getD (2*o) 0*y.getD (2*o+1) 0)=pr (PP ps) kk st en':=by
  unfold pr;exact BO kk λo _=>by rw[ex,ey]
 rw[epr];have tb5:=tb4.same s5;clear tb4;have e3:((st:Int)+1)=((st+1:Nat):Int):=by lia
 ext;rw[e3];refine AN (SqL.of tb5.top) (Av (tb5.at (i:=st+1) (by lia))) ?_;show AN (SqL.of (tb5.row (st+1) (by lia))) (Av (Ck (j:=en') (by lia))) ?_;have ev:(if st<st+1 then tbl (PP ps) kk (st+1) en' else if st+1=st then part (PP ps) kk st q' en' else 0)=cv (PP ps) kk (2*q') (st+1) []:=by
  rw[if_pos (by lia)];unfold tbl;rw[if_pos (by lia),show en'-(st+1)=2*q' by lia]
 rw[ev];have b1:=TK hk hsm st en';have b2:=Kl hk hsm (n:=2*q') (by lia) (st+1) [];refine Cp (DH b1.1 b1.2 TF) (DH b2.1 b2.2 KB) ?_;have b3:0<=pr (PP ps) kk st en'*cv (PP ps) kk (2*q') (st+1) []:=Int.mul_nonneg b1.1 b2.1;have b4:pr (PP ps) kk st en'*cv (PP ps) kk (2*q') (st+1) []<=4*(top30*top30)*cap:=Int.mul_le_mul b1.2 b2.2 b2.1 (by decide);show⟨_,_,2,rfl,⟨by decide,by decide,E6 (by lia) (by lia) (by lia) (by lia)⟩,?_⟩;have er3:rN ((en':Int)+1) ((n:Int)+1) 2=(n+1-en')/2:=by rw[F6];lia
 rw[er3];refine FD (λr σ H'=>∃o6,σ=[some (.ref p),some (.int n),some (.ref s'),some (.int st),some (.int en'),some (.int (pr (PP ps) kk st en'*cv (PP ps) kk (2*q') (st+1) [])),o6]/\Tb H H' s' ad n (λi j=>if st<i then tbl (PP ps) kk i j else if i=st then(if j<en'+1+2*r then part (PP ps) kk st (q'+1) j else part (PP ps) kk st q' j)else 0)) ?_ ?_ ?_
 ·refine⟨_,rfl,tb5.congr λi j hi hj=>?_⟩
  by_cases h2:st<i
  ·rw[if_pos h2,if_pos h2]
  ·rw[if_neg h2,if_neg h2]
   by_cases h1:i=st
   ·rw[if_pos h1,if_pos h1]
    by_cases h3:j<en'+1+2*0
    ·rw[if_pos h3,OS (by lia)]
    ·rw[if_neg h3]
   ·rw[if_neg h1,if_neg h1]
 rotate_left
 ·rintro σ H' ⟨o6,rfl,tb⟩;show⟨_,_,_,rfl,tb.congr λi j hi hj=>?_⟩
  by_cases h2:st<i
  ·rw[if_pos h2,if_pos h2]
  ·rw[if_neg h2,if_neg h2]
   by_cases h1:i=st
   ·rw[if_pos h1,if_pos h1,if_pos (by lia)]
   ·rw[if_neg h1,if_neg h1]
 rintro r σ H6 hr6 ⟨o6,rfl,tb6⟩;obtain⟨sp,hsp⟩:∃e:Nat,e=en'+1+2*r:=⟨_,rfl⟩;have e4:((en':Int)+1+(r:Int)*2)=(sp:Int):=by lia
 have hsp2:sp<=n:=by lia
 rw[e4];show AN (SqL.of tb6.top) (Av (tb6.at (i:=st) (by lia))) ?_;show So (SqL.of (tb6.row st (by lia))) (Ck (j:=sp) hsp2) ?_;have ev2:(if st<st then tbl (PP ps) kk st sp else if st=st then(if sp<en'+1+2*r then part (PP ps) kk st (q'+1) sp else part (PP ps) kk st q' sp)else 0)=part (PP ps) kk st q' sp:=by
  rw[if_neg (by lia),if_pos rfl,if_neg (by lia)]
 rw[ev2];have e5:((en':Int)+1)=((en'+1:Nat):Int):=by lia
 ext;rw[e5];refine AN (SqL.of tb6.top) (Av (tb6.at (i:=en'+1) (by lia))) ?_;show AN (SqL.of (tb6.row (en'+1) (by lia))) (Av (Ck (j:=sp) hsp2)) ?_;have ev3:(if st<en'+1 then tbl (PP ps) kk (en'+1) sp else if en'+1=st then(if sp<en'+1+2*r then part (PP ps) kk st (q'+1) sp else part (PP ps) kk st q' sp)else 0)=cv (PP ps) kk (sp-(en'+1)) (en'+1) []:=by
  rw[if_pos (by lia)];unfold tbl;rw[if_pos (by lia)]
 rw[ev3];have b5:=Kl hk hsm (n:=sp-(en'+1)) (by lia) (en'+1) [];refine Cp (DH b3 b4 QX) (DH b5.1 b5.2 KB) ?_;refine Kz ?_;refine CG (tb6.row st (by lia)) (j:=sp) (by rw[DD];unfold ixN;rw[if_pos (by lia),if_pos (by lia)];simp) ?_;show⟨_,rfl,(tb6.set (i:=st) (j:=sp) (by lia)).congr λi j hi hj=>?_⟩
 by_cases h1:i=st
 ·subst h1;simp only[Nat.lt_irrefl,if_false,if_true,true_and]
  by_cases h2:j=sp
  ·subst h2;rw[if_pos rfl,if_pos (by lia)];exact OT hen (by lia) (by lia)
  ·rw[if_neg h2]
   by_cases h3:j<en'+1+2*r
   ·rw[if_pos h3,if_pos (by lia)]
   ·rw[if_neg h3]
    by_cases h4:j<en'+1+2*(r+1)
    ·rw[if_pos h4,Ij (by lia),Ij (by lia)]
    ·rw[if_neg h4]
 ·rw[if_neg (λz=>h1 z.1)]
  by_cases h2:st<i
  ·rw[if_pos h2,if_pos h2]
  ·rw[if_neg h2,if_neg h2,if_neg h1,if_neg h1]
theorem EB:FuV P w K mg base (k+1) "whole_sum" ["sums"] (spWholeSum):=FnA.u (T.f.at 11) (scN ["sums"]) λnd _ _ _ _ _ _ _ _ _ _ h=>by
 obtain⟨H0,s',ad,n,T',rfl,tb,q⟩:=h;refine⟨_,(AE (AK (AH K (AH K (pv 0) AC) (Bo Bm AC)))),?_⟩;show AN (SqL.of tb.top) (Av (j:=0) (tb.at (Nat.zero_le _))) ?_;show AN (SqL.of (tb.row 0 (Nat.zero_le _))) (v:= .int (T' 0 n)) (Dj ?_ ?_) ?_
 ·rw[DD];lia
 ·rw[DD];exact Ck (Nat.le_refl _)
 exact q
theorem MN:Aa P w K mg base (k+2) "check_filling" ["sums"] (spCheckFillE cs):=FnA.uE (T.f.at 12) (scN ["sums"]) λnd _ _ _ _ _ H _ _ _ hr h=>by
 have hu:=hr.units0;refine⟨_,(AE (AV (AS (Ax K hu) (AL (EB T) hr (AA (pv 0) AB)) AC) (AE (Cg (T.c.at 8).2 (T.c.at 8).1 hr.hd Cv (AA CZ AB))) AX)),?_⟩;obtain⟨H0,sa,ad,n,tab,rfl,tb,⟨hne,q⟩|⟨he,r⟩⟩:=h
 ·show DU tb ?_;show ifq (decide_eq_false hne) ?_;ext;exact q
 ·show DU tb ?_;show ifp (decide_eq_true he) ?_;ext;exact⟨small (by decide),λy hy=>r y H (Same.refl H) hy⟩
theorem MC:FuV P w K mg base (k+2) "pairs_with_rest" ["places","sums"] (spPairsN):=FnA.u (T.f.at 13) (scN ["places","sums","many","outer","found","start","end","pair","within","outside","stop"]) λnd _ _ _ _ _ _ _ _ _ hr h=>by
 obtain⟨p,ss,rfl,hp,q⟩:=h;have hu:=hr.units0;refine⟨_,(AD (AM 2 (Ar K (T.N 7) (AA (pv 0) AB))) (AD (AM 3 (AL (HN T) hr (AA (pv 2) AB))) (AD (BY AC (CI (AH K (pv 3) AC) (pv 2) B4)) (AD (AM 4 (AW AB)) (AD (BI PassesOwn.never rfl (C9 rfl (T.N 11) (AA (pv 2) AB)) (Af 5) (AE B5)) (AE (AK (pv 4)))))))),?_⟩;show BS (.inl (SqL.of hp)) ?_;show HQ (n:=0) (by decide) (λs' ad H1 tb1=>?_);show AN (SqL.of tb1.top) (Av (j:=0) (tb1.at (Nat.zero_le _))) ?_;show CG (tb1.row 0 (Nat.zero_le _)) (j:=0) rfl ?_;have tb2:=tb1.set (i:=0) (j:=0) (v:=1) (Nat.zero_le _);show⟨small (show 0<=1000 by decide),λF0 hF=>?_⟩;have t1:=AI hF (.lst []);show⟨_,rfl,by decide,by decide,?_⟩;refine unr 0 ⟨Nat.le_refl 0,?_⟩;ext;exact q F0 _ (tb2.sm.trans t1) AF
theorem MO:FuV P w K mg base (k+3) "bracket_sums" ["places","sums"] (spPairsN):=FnA.u (T.f.at 14) (scN ["places","sums","found","start","end","rest","opening","weight"]) λnd _ _ _ _ _ _ _ _ _ hr h=>by
 obtain⟨p,ss,rfl,hp,q⟩:=h;have hu:=hr.units0;refine⟨_,(AD (Ex (i:=2) nd rfl (Or.inl rfl) (own:=["place"]) (sel:=[]) (A2 (osc:=(AU (top 35))) (N:=["places","sums","found","start","end","rest","opening","weight"]) (by decide +kernel)) rfl (B6 K (pv 0)) (λ_ _ _ _ _=>(Ah (i:=0) (show(["place"]:List Str).Nodup from by decide +kernel) rfl (Or.inl rfl))) (Aq (by decide)) (λ_ _ _ _ _=>A3) (λ_ _ _ _ _=>Ii)) (AD (BI PassesOwn.never rfl (B6 K (AL (MC T) hr (AA (pv 0) (AA (pv 1) AB)))) (Bu (n:=3) K rfl (Ao (Af 3) (Ao (Af 4) (Ao (Af 5) Bi)))) (AE B5)) (AE (AK (pv 2))))),?_⟩;show⟨p,rfl,⟨_,SqL.of hp⟩,?_⟩;refine JE (λH' s'=>⟨_,SqL.of (s' _ _ hp),Nat.le_refl 0⟩) (λD H1 hD s1 g1=>?_);show⟨p,ss,rfl,s1 _ _ hp,λF0 H2 s2 g2=>?_⟩;show⟨F0,rfl,⟨_,SqL.of g2⟩,?_⟩;refine unr 0 ⟨⟨_,SqL.of g2,Nat.le_refl 0⟩,?_⟩;ext;exact q D _ (s1.trans s2) (s2 _ _ g1)
theorem NK:Aa P w K mg base (k+5) "how_many" ["k","row"] (spManyN):=FnA.uE (T.f.at 15) (scN ["k","row"]) λnd _ _ _ _ _ _ _ Q _ hr h=>by
 obtain⟨a,rfl,ha,q⟩:=h;have hl:=Ay ha;refine Bc ⟨_,(AD (BC (Ak (B1 T) hr Bv (AA (pv 0) (AA (pv 1) AB)))) (AE (AK (AL (EB T) hr (AA (AL (EC T) hr (AA (AL (EA T) hr (AA (pv 0) (AA (pv 1) AB))) AB)) AB))))),?_⟩;show .inl (B2 (by decide) (by decide) ha (λH1 s1=>?_));show DW (k:=2) (by decide) (by decide) hl (λr H2 hr2 s2 hP=>?_);show DX (k:=2) hP (by rw[List.length_map];exact hl) (by decide) (DV (by decide)) (λs3 ad H3 tb=>?_);show DU tb ?_;have e:tbl (PP (a.map (plw (ones 2)))) 2 0 (a.map (plw (ones 2))).length=cnt 2 a:=FZ _ _;show Q (.int (tbl (PP (a.map (plw (ones 2)))) 2 0 (a.map (plw (ones 2))).length)) H3;rw[e];exact q H3 ((s1.trans s2).trans tb.sm)
theorem NF:FuV P w K mg base (k+1) "may_open" ["place"] (spMayOpen K):=FnA.u (T.f.at 16) (scN ["place"]) λnd _ _ _ _ _ _ _ _ _ hr h=>by
 obtain⟨p,l,rfl,hp,q⟩:=h;have hu:=hr.units0;refine⟨_,(AE (AK (Ag (PL K rfl) rfl (T.N 2) PyProof.Rows.boot_any (AA (TR K (pv 0) AC) AB)))),?_⟩;show⟨rfl,p,_,rfl,SqL.of hp,λr hr2=>?_⟩;have s1:=AI hr2 (.lst (A1 (l.map V.int)));rw[Hy _ _ _ (Nat.le_refl _)]at s1⊢;refine⟨r,A1 l,rfl,SqL.of AF,?_⟩;exact q _ s1
theorem MM:FuV P w K mg base (k+2) "depths_before" ["places","sums","shorter","stop"] (spBefore9):=FnA.u (T.f.at 17) (scN ["places","sums","shorter","stop","found"]) λnd _ _ _ _ _ H _ _ _ hr h=>by
 obtain⟨pp,sp,sh,a,H0,ad,j,L,rfl,h2,hP,hT,hL,eL,hja,q⟩:=h;have ha:a.length<=40:=Ay h2.row;have hLj:L.length=j:=by rw[eL,List.length_map,List.length_range]
 have hfl:∀n,n<=j->((List.range n).flatMap (fT9 a j L)).length<=1:=λn hn=>by rw[eL,fl9 h2 hja n hn];split<;>simp
 have hlg:∀i,(L.getD i []).length<=1:=λi=>by
  by_cases hi:i<j
  ·rw[eL,LK hi];exact Di _ _
  ·rw[List.getD_eq_getElem?_getD,List.getElem?_eq_none (by lia)];simp
 have tot:=VP h2 hja;rw[<-eL]at tot;have hu:=hr.units0;refine⟨_,(AD (M5 (i:=4) nd rfl (Or.inl rfl) (own:=["start","depth"]) (sel:=[0,3,1,2]) (O6 (osc:=(AU (top 40))) (N:=["places","sums","shorter","stop","found"]) (by decide +kernel)) rfl (C9 rfl (T.N 11) (AA (pv 3) AB)) (by decide) (λ_ _ _ _ _=>(Ah (i:=0) (show(["start","depth","places","stop","sums","shorter"]:List Str).Nodup from by decide +kernel) rfl (Or.inl rfl))) (λ_ _ _ _ _=>Fg (PW.pt (Dp (A5 K (AL (NF T) hr (AA (AH K (pv 2) (pv 0)) AB))) (Dg (AS CM (AH K (AH K (pv 4) (AJ AO (pv 0) AC)) (pv 3)) AC))))) (λ_ _ _ _ _=>(B6 K (AH K (pv 5) (pv 0)))) (λ_ _ _ _ _=>(Ah (i:=1) (show(["start","depth","places","stop","sums","shorter"]:List Str).Nodup from by decide +kernel) rfl (Or.inl rfl))) (λ_ _ _ _ _=>A3) (λ_ _ _ _ _=>(AJ AO (pv 1) AC))) (AD (AV (AS CM (AH K (AH K (pv 1) AC) (pv 3)) AC) (AE (BC (BZ K PySem.F.plainAttrs_list PySem.F.slot_list_append PySem.F.type_list_append DB (pv 4) (AA AC AB)))) AX) (AE (AK (Pu K (T.N 12) (T.N 13) hr rfl (pv 4)))))),?_⟩;show⟨_,rfl,by lia,by lia,?_⟩;rw[Int.toNat_natCast];obtain⟨pa,hp0,hpa⟩:=id hP;obtain⟨la,hl0,hla⟩:=id hL;have hn:(a.map (plw (ones 2))).length=a.length:=List.length_map ..;rw[hn]at hp0 hpa;rw[hLj]at hl0 hla;have hcap:=hfl j (Nat.le_refl _);refine O7 (λi=>(fT9 a j L i).map V.int) (λD H1 hDn s1 hy=>?_) (λD i H1 N hDn hi s1 hy hN=>?_)
 rotate_left
 ·have e0:(0:Int)+(i:Int)=(i:Int):=by lia
  rw[e0];have ea:a[i]? =some (a.getD i 0):=by rw[List.getD_eq_getElem?_getD,List.getElem?_eq_getElem (by lia)];rfl
  have gp:H1 (pa i)=some (iL (plw (ones 2) (a.getD i 0))):=by
   have:=s1 _ _ (hpa i (by lia));rw[List.getD_eq_getElem?_getD,List.getElem?_map,ea]at this;exact this
  have gl:H1 (la i)=some (iL (L.getD i [])):=s1 _ _ (hla i hi);show AN (SqL.of (s1 _ _ hp0)) (Av (by rw[List.getElem?_map,List.getElem?_range (by lia)];rfl)) ?_;show⟨pa i,_,rfl,gp,λH2 s2=>?_⟩;ext;have nD:∀b o,H b=some o->b≠D:=λb o z=>AQ z hDn
  cases hm:(A1 (plw (ones 2) (a.getD i 0))).any λn=>n !=0 with
  |false=>
   refine ifq rfl (ifq rfl ?_);refine hN H2 (s1.trans s2) ?_;rw[s2 _ _ hy];have:fT9 a j L i=[]:=by unfold fT9;rw[if_neg (by rw[hm];simp)]
   rw[this];simp
  |true=>
   refine ifp rfl ?_;ext;have e1:((i:Int)+1)=((i+1:Nat):Int):=by lia
   rw[e1];have tb2:=hT.same (s1.trans s2);refine AN (SqL.of tb2.top) (Av (tb2.at (i:=i+1) (by lia))) ?_;show AN (SqL.of (tb2.row (i+1) (by lia))) (Av (Ck (j:=j) (by lia))) ?_;ext
   by_cases hw:0<tb9 a (i+1) j
   ·refine ifp (by simpa using hw) ?_;have ef:fT9 a j L i=(L.getD i []).map (· +1):=by unfold fT9;rw[if_pos ⟨hm,hw⟩]
    rw[ef]at hN;have hn63:=hlg i;have hpre:=hfl i (by lia);unfold Dn;show AN (SqL.of (s2 _ _ (s1 _ _ hl0))) (Av (by rw[List.getElem?_map,List.getElem?_range (by lia)];rfl)) ?_;refine⟨la i,rfl,⟨_,SqL.of (s2 _ _ gl)⟩,?_⟩;refine Ou (λx=>match x with| .int z=> .int (z+1)|y=>y) (s2 _ _ gl) (nD _ _ (hla i hi)) (s2 _ _ hy) ?_ (λi2 x H3 R hx s3 r=>?_) (λH3 s3 h3=>?_)
    ·rw[Iu,List.length_map,List.length_map,sizeLine_eq];lia
    ·rw[List.getElem?_map]at hx;obtain⟨z,hz,rfl⟩:=Option.map_eq_some_iff.mp hx;ext;exact r
    ·refine hN H3 (λb o z=>s3 b o (s2 b o (s1 b o z)) (nD b o z)) ?_;rw[h3,List.map_map,List.map_map];rfl
   ·refine ifq (by simpa using hw) ?_;refine hN H2 (s1.trans s2) ?_;rw[s2 _ _ hy];have:fT9 a j L i=[]:=by unfold fT9;rw[if_neg (λz=>hw z.2)]
    rw[this];simp
 rw[Iu]at hy;have tb1:=hT.same s1;show AN (SqL.of tb1.top) (show atI _ (0:Int)=some (V.ref (ad 0))from Av (j:=0) (tb1.at (i:=0) (by lia))) ?_;show AN (SqL.of (tb1.row 0 (by lia))) (Av (Ck (j:=j) (by lia))) ?_;ext
 by_cases hw:0<tb9 a 0 j
 ·rw[if_pos hw]at tot;refine ifp (by simpa using hw) ?_;show⟨.inl ⟨rfl,_,SqL.of hy⟩,?_⟩;show⟨D,_,_,rfl,rfl,hy,by rw[List.length_map,sizeLine_eq];lia,?_⟩;show⟨D,dl9 a j,rfl,SqL.of (by rw[AF,<-tot,List.map_append];rfl),Nat.le_trans (Di a j) (by decide),λx hx=>by have:=Jv hx;lia,λp ns hp hpw hm hle=>?_⟩;have hne:∀b o,H b=some o->b≠D:=λb o z=>AQ z hDn;have hpn:H p=none:=by
   by_cases e:p=D
   ·rw[e];exact hDn
   ·rw[AG e]at hp;exact s1.free hp
  rw[Kq hpw hm (Di a j)];refine q p _ hpn (λb o z=>?_) AF;rw[AG (AQ z hpn),AG (hne b o z)];exact s1 b o z
 ·rw[if_neg hw,List.append_nil]at tot;rw[tot]at hy;refine ifq (by simpa using hw) ?_;show⟨D,dl9 a j,rfl,SqL.of hy,Nat.le_trans (Di a j) (by decide),λx hx=>by have:=Jv hx;lia,λp ns hp hpw hm hle=>?_⟩;rw[Kq hpw hm (Di a j)];exact q p _ (s1.free hp) (s1.trans (AI hp _)) AF
theorem MK:FuV P w K mg base (k+3) "depths_by_stop" ["k","row"] (spByStop9):=FnA.u (T.f.at 18) (scN ["k","row","places","sums","found","stop"]) λnd _ _ _ _ _ H _ _ _ hr h=>by
 obtain⟨a,rfl,ha,q⟩:=h;have hl:a.length<=40:=Ay ha.row;have hu:=hr.units0;refine⟨_,(AD (AM 2 (AL (EA T) hr (AA (pv 0) (AA (pv 1) AB)))) (AD (AM 3 (AL (EC T) hr (AA (pv 2) AB))) (AD (AM 4 (AW AB)) (AD (BI PassesOwn.never rfl (C9 rfl (T.N 11) (AA (AJ AO (Ar K (T.N 7) (AA (pv 1) AB)) AC) AB)) (Af 5) (AE (BC (BZ K PySem.F.plainAttrs_list PySem.F.slot_list_append PySem.F.type_list_append DB (pv 4) (AA (AL (MM T) hr (AA (pv 2) (AA (pv 3) (AA (pv 4) (AA (pv 5) AB))))) AB))))) (AE (AK (pv 4))))))),?_⟩;show DW (k:=2) (by decide) (by decide) hl (λpp H1 hp1 s1 hP=>?_);have hP:Pls H1 pp (a.map (plw (ones 2))):=hP;show DX (k:=2) hP (by rw[List.length_map];exact hl) (by decide) (DV (k:=2) (by decide)) (λsp ad0 H2 tb=>?_);have hP2:=hP.same tb.sm;have en:(a.map (plw (ones 2))).length=a.length:=List.length_map ..;rw[en]at tb;show⟨small (show 0<=1000 by decide),λfo hfo=>?_⟩;have s3:=AI hfo (.lst []);show⟨_,rfl,by lia,by lia,?_⟩;have et:((a.length:Int)+1).toNat=a.length+1:=by lia
 rw[et];have sH2:Same H H2:=s1.trans tb.sm;have hfoH:H fo=none:=sH2.free hfo;refine Ir (λj σ H'=>∃ (ad:Nat->Addr) (o5:Option V),σ=[some (.int 2),some (tx a),some (.ref pp),some (.ref sp),some (.ref fo),o5]/\PlA H2 H' fo ad ((List.range j).map (dl9 a)))
  ⟨λ_=>0,_,rfl,⟨hfo,(λ_ z=>absurd z (Nat.not_lt_zero _)),AF,(λ_ z=>absurd z (Nat.not_lt_zero _)),s3⟩⟩ ?_ ?_
 ·intro j σ H3 hj z_;obtain⟨ad,o5,rfl,pl⟩:=z_;have ej:(0:Int)+(j:Int)=(j:Int):=by lia
  rw[ej];show⟨.inl ⟨rfl,_,SqL.of pl.top⟩,?_⟩;show⟨_,_,_,a,_,_,j,_,rfl,ha,hP2.same pl.sm,tb.same pl.sm,pl.pls,rfl,by lia,λp H4 hp s4 gp=>?_⟩;show⟨fo,_,_,rfl,rfl,s4 _ _ pl.top,by simp only[List.length_map,List.length_range];rw[sizeLine_eq];lia,?_⟩;ext;have pl2:=pl.push s4 hp gp;rw[List.length_map,List.length_range]at pl2;refine⟨λi=>if i<j then ad i else p,_,rfl,?_⟩;rw[List.range_succ,List.map_append,List.length_map,List.length_range];exact pl2
 ·intro σ H3 z_;obtain⟨ad,o5,rfl,pl⟩:=z_;ext;exact q fo H3 ad ⟨hfoH,λi hi=>sH2.free (pl.fa i hi),pl.top,pl.row,sH2.trans pl.sm⟩
theorem Hn:Aa P w K mg base (k+5) "depths" ["k","row"] (spDepths9):=FnA.uE (T.f.at 19) (scN ["k","row"]) λnd _ _ _ _ _ _ _ _ _ hr h=>by
 obtain⟨a,rfl,ha,q⟩:=h;have hro:=ha.row;have hu:=hr.units0;have hl:=Ay hro;refine Bc ⟨_,(AD (BC (Ak (B1 T) hr Bv (AA (pv 0) (AA (pv 1) AB)))) (AE (AK (AH K (AL (MK T) hr (AA (pv 0) (AA (pv 1) AB))) (Bo Bm AC))))),?_⟩;show .inl (B2 (by decide) (by decide) hro (λH1 s1=>?_));show⟨a,rfl,ha,λr H2 ad pl=>?_⟩;have hL:((List.range (a.length+1)).map (dl9 a)).length=a.length+1:=by rw[List.length_map,List.length_range]
 have eg:((List.range (a.length+1)).map (dl9 a)).getD a.length []=dl9 a a.length:=by rw[List.getD_eq_getElem?_getD,List.getElem?_map,List.getElem?_range (by lia)];rfl
 show AN (SqL.of pl.top) (v:= .ref (ad a.length)) (Dj (by simp) (by simp only[List.length_map,List.length_range];rw[List.getElem?_map,List.getElem?_range (by lia)];rfl)) ?_;have gr:=pl.row a.length (by lia);rw[eg]at gr;exact q _ H2 (s1.free (pl.fa _ (by lia))) (s1.trans pl.sm) gr
theorem Ms:Aa P w K mg base (k+6) "may_go_on" ["k","row"] (spGoOn9):=FnA.uE (T.f.at 20) (scN ["k","row"]) λnd _ _ _ _ _ _ _ _ _ hr h=>by
 obtain⟨rfl,q⟩:=h;have hu:=hr.units0;refine Bc ⟨_,(AE (AK (BM CM (Ar K (T.N 7) (AA (Ak (Hn T) hr Bv (AA (pv 0) (AA (pv 1) AB))) AB)) AC))),?_⟩;show⟨rW,rfl, .inr rfl,λp H1 hp s1 gp=>?_⟩;have gp:H1 p=some (.lst []):=gp;show BS (.inl (SqL.of gp)) ?_;ext;exact q H1 s1
theorem MZ:Aa P w K mg base (k+6) "fewest_more" ["k","row"] (spFewMore9):=FnA.uE (T.f.at 21) (scN ["k","row","found"]) λnd _ _ _ _ _ _ _ _ _ hr h=>by
 obtain⟨rfl,q⟩:=h;have hu:=hr.units0;refine Bc ⟨_,(AD (AM 2 (Ak (Hn T) hr Bv (AA (pv 0) (AA (pv 1) AB)))) (AE (AK (BK (A5 K (pv 2)) (AH K (pv 2) AC) Ae)))),?_⟩;show⟨rF,rfl, .inl rfl,λp H1 hp s1 gp=>?_⟩;have gp:H1 p=some (.lst [.int 40]):=gp;show F2 (SqL.of gp) ?_;refine ifp rfl ?_;ext
 first|exact q H1 s1|exact AN (SqL.of gp) (Dx _ _) (q H1 s1)
theorem MF:MkV P w K mg base (k+4) aC ["self","k","row"] (Qj aC):=MtA.m (T.m.at 0) T.C (scN ["self","k","row"]) λnd _ _ _ _ _ H _ _ _ hr h=>by
 obtain⟨co,dx,kk,a,H0,rfl,k1,k4,hro,hco,h0co,s0,q⟩:=h;have hu:=hr.units0;have hl:=Ay hro;refine⟨_,(AD (CC K (pv 0) (AL (EA T) hr (AA (pv 1) (AA (pv 2) AB)))) (AD (CC K (pv 0) (AL (EC T) hr (AA (Ac K (pv 0)) AB))) (AD (CC K (pv 0) AC) (AD (CC K (pv 0) (AW AB)) (AE (CC K (pv 0) (AW (AA (BA (own:=["row_sums"]) (sel:=[]) (A2 (osc:=(AU (inClass (top 47) 0))) (N:=["self","k","row"]) (by decide +kernel)) rfl (B6 K (Ac K (pv 0))) (λ_ _ _ _ _=>(Ah (i:=0) (show(["row_sums"]:List Str).Nodup from by decide +kernel) rfl (Or.inl rfl))) (Aq (by decide)) (λ_ _ _ _ _=>A3) (λ_ _ _ _ _=>(AH K (pv 0) (Bo Bm AC)))) AB)))))))),?_⟩;show DW k1 k4 hl (λpl H1 hpl s1 hP1=>?_);ext;have hco1:=s1 _ _ hco;refine⟨co,aC,dx,[],rfl,hco1,T.C.cl,(T.C.at 2),by show 0<1000;decide,?_⟩;have g2:(upd H1 co (.ins aC dx (An "places" (.ref pl) []))) co=some (.ins aC dx [("places", .ref pl)]):=AF;have sb2:SameBut1 co H1 (upd H1 co (.ins aC dx (An "places" (.ref pl) []))):=SameBut1.upd;generalize upd H1 co _=G2 at*
 have npl:pl≠co:=λz=>by rw[z,hco]at hpl;cases hpl
 have lst2:∀b xs,H1 b=some (.lst xs)->G2 b=some (.lst xs):=λb xs z=>sb2 _ _ z λe=>by rw[e,hco1]at z;cases z
 have hP2:Pls G2 pl (a.map (plw (ones kk.toNat))):=by
  obtain⟨pd,h1,h2⟩:=hP1;exact⟨pd,lst2 _ _ h1,λi hi=>lst2 _ _ (h2 i hi)⟩
 show T.C.fl 2 g2 ?_;show DX (k:=kk.toNat) hP2 (by rw[List.length_map];exact hl) (by lia) (λl hll=>DV (by lia) l hll) (λsm ad H3 tb3=>?_);rw[List.length_map]at tb3;have g3:=tb3.sm _ _ g2;have hP3:=hP2.same tb3.sm;show⟨co,aC,dx,_,rfl,g3,T.C.cl,(T.C.at 4),by show 1<1000;decide,?_⟩;have g4:(upd H3 co (.ins aC dx (An "sums" (.ref sm) [("places", .ref pl)]))) co=some (.ins aC dx [("places", .ref pl),("sums", .ref sm)]):=AF;have sb4:SameBut1 co H3 (upd H3 co (.ins aC dx (An "sums" (.ref sm) [("places", .ref pl)]))):=SameBut1.upd;generalize upd H3 co _=G4 at*
 show⟨co,aC,dx,_,rfl,g4,T.C.cl,(T.C.at 0),by show 2<1000;decide,?_⟩;have g5:(upd G4 co (.ins aC dx (An "at" (.int 0) [("places", .ref pl),("sums", .ref sm)]))) co=some (.ins aC dx [("places", .ref pl),("sums", .ref sm),("at", .int 0)]):=AF;have sb5:=sb4.trans (SameBut1.upd (p:=co) (H:=G4) (o:= .ins aC dx (An "at" (.int 0) [("places", .ref pl),("sums", .ref sm)])));generalize upd G4 co _=G5 at*
 show⟨small (show 0<=1000 by decide),λcl hcl=>?_⟩;have ncc:cl≠co:=λz=>by rw[z,g5]at hcl;cases hcl
 have t6:=AI hcl (.lst []);have gc6:(upd G5 cl (.lst [])) cl=some (.lst []):=AF;have g6:=t6 _ _ g5;have sb6:=sb5.trans (SameBut1.of (p:=co) t6);have hcl3:H3 cl=none:=by
  cases e:H3 cl with
  |none=>rfl
  |some o=>rw[sb5 _ _ e ncc]at hcl;cases hcl
 generalize upd G5 cl _=G6 at*
 show⟨co,aC,dx,_,rfl,g6,T.C.cl,(T.C.at 1),by show 3<1000;decide,?_⟩;have g7:(upd G6 co (.ins aC dx (An "closings" (.ref cl) [("places", .ref pl),("sums", .ref sm),("at", .int 0)]))) co=some (.ins aC dx [("places", .ref pl),("sums", .ref sm),("at", .int 0),("closings", .ref cl)]):=AF;have sb7:=sb6.trans (SameBut1.upd (p:=co) (H:=G6) (o:= .ins aC dx (An "closings" (.ref cl) [("places", .ref pl),("sums", .ref sm),("at", .int 0)])));have gc7:(upd G6 co (.ins aC dx (An "closings" (.ref cl) [("places", .ref pl),("sums", .ref sm),("at", .int 0)]))) cl=some (.lst []):=by rw[AG ncc];exact gc6
 generalize upd G6 co _=G7 at*
 have nsm:sm≠co:=λz=>by have:=tb3.fs;rw[z,g2]at this;cases this
 show T.C.fl 4 g7 ?_;ext;have top7:=sb7 _ _ tb3.top nsm;have nad:∀i,i<=a.length->ad i≠co:=λi hi z=>by have:=tb3.fa i hi;rw[z,g2]at this;cases this
 refine⟨sm,rfl,⟨_,SqL.of top7⟩,?_⟩;refine PX (λi=>V.ref (ad i)) (λi=>V.int (W kk.toNat a i [])) (small (by lia)) top7 (λD H8 hD s8 hy=>?_) (λi H8 R hi s8 r=>?_)
 rotate_left
 ·have row8:=s8 _ _ (sb7 _ _ (tb3.row i (by lia)) (nad i (by lia)));show AN (SqL.of row8) (Dj (by rw[DD];lia) (by rw[DD,Nat.add_sub_cancel];exact Ck (Nat.le_refl _))) ?_;have e:tbl (pa_ kk.toNat a) kk.toNat i a.length=W kk.toNat a i []:=by unfold tbl W;rw[if_pos (by lia)]
  have:=r H8 (Same.refl _);rw[<-e]at this;exact this
 have hy:H8 D=some (iL (GZ kk.toNat a [])):=by rw[hy];unfold iL GZ;rw[List.map_map];rfl
 have g8:=s8 _ _ g7;have gc8:=s8 _ _ gc7;have sb8:=sb7.trans (SameBut1.of (p:=co) s8);show⟨small (show 1<=1000 by decide),λrs hrs=>?_⟩;have nrc:rs≠co:=(AQ g8 hrs).symm;have nrl:cl≠rs:=AQ gc8 hrs;have nrD:D≠rs:=AQ hy hrs;have nDc:D≠co:=(AQ g7 hD).symm;have nDl:D≠cl:=(AQ gc7 hD).symm;have hrs3:H3 rs=none:=by
  cases e:H3 rs with
  |none=>rfl
  |some o=>rw[sb8 _ _ e nrc]at hrs;cases hrs
 have t9:=AI hrs (.lst [.ref D]);show⟨co,aC,dx,_,rfl,by rw[AG nrc.symm];exact g8,T.C.cl,(T.C.at 3),by show 4<1000;decide,?_⟩;have low:∀b o,H0 b=some o->H3 b=some o/\b≠co:=λb o z=>by
  have hb:b≠co:=AQ z h0co;exact⟨tb3.sm _ _ (sb2 _ _ (s1 _ _ (s0 _ _ z)) hb),hb⟩
 have lowN:∀ {b:Addr},H3 b=none->H0 b=none:=fun{b} z=>by
  cases e:H0 b with
  |none=>rfl
  |some o=>rw[(low b o e).1]at z;cases z
 refine q _ ⟨dx,pl,sm,cl,rs,G2,H3,ad,[D],?_⟩;refine{ob:=(by rw[AF];rfl),pls:=hP3,tb:=tb3,keep:=λb o z hb=>?_,nco:=λxs z=>(by rw[g3]at z;cases z),ncl:=hcl3,nrs:=hrs3,ne:=nrl,clo:=?_,res:=?_,ral:=rfl,rows:=λj x hx=>?_,h0:=λb o z=>?_,h0co:=h0co,h0cl:=lowN hcl3,h0rs:=lowN hrs3,len:=hl,hk:=(by lia)}
 ·rw[AG hb];exact t9 _ _ (sb8 _ _ z hb)
 ·rw[AG ncc,AG nrl];exact gc8
 ·rw[AG nrc,AF];rfl
 ·cases j with
  |zero=>
   have hx:D=x:=Option.some.inj hx;subst hx;exact⟨by rw[AG nDc,AG nrD];exact hy,nDl,nrD⟩
  |succ j=>simp at hx
 ·obtain⟨z1,z2⟩:=low b o z;rw[AG z2];exact t9 _ _ (sb8 _ _ z1 z2)
theorem L9:MeV P w K mg base (k+2) aC "many_in_all" ["self"] (spCAll aC):=MtA.u (T.m.at 1) (scN ["self"]) λnd _ _ _ _ _ _ _ _ _ hr h=>by
 obtain⟨co,kk,a,i,st,H0,rfl,⟨dx,pl,sm,cl,rs,Hz,Hb,ad,ra,c⟩,q⟩:=h;have hu:=hr.units0;refine⟨_,(AE (AK (AL (EB T) hr (AA (Ac K (pv 0)) AB)))),?_⟩;show T.C.fl 4 c.ob ?_;show DU c.tbH ?_;exact q
theorem MV:Aa P w K mg base (k+5) "nth_filling" ["k","row","i"] (spNthN cs):=FnA.uE (T.f.at 22) (scN ["k","row","i","course","left","found","bracket"]) λnd _ _ _ _ _ H _ _ _ hr h=>by
 obtain⟨a,n,rfl,hro,h⟩:=h;have hu:=hr.units0;refine⟨_,(AD (BC (Ak (B1 T) hr BE (AA (pv 0) (AA (pv 1) AB)))) (AD (AM 3 (TV (MF T) hr T.C.c (AA (pv 0) (AA (pv 1) AB)))) (AD (AV (PW.pt (BL (BU (A5 K (AL (HA T) hr (AA (pv 2) AB)))) (BX (BU (FM Cz GR AC (pv 2) (Fh T.C.cl (L9 T) hr (pv 3))))))) (AE (Cg (T.c.at 5).2 (T.c.at 5).1 hr.hd Cv (AA CZ AB))) AX) (AD (AM 4 (pv 2)) (AD (AM 5 (pxt [])) (AD (PS.nox (Ih PassesOwn.never (AS GR (Ar K (T.N 7) (AA (pv 5) AB)) (Ar K (T.N 7) (AA (pv 1) AB))) (AD B5 (AD B5 (AD B5 (AE B5)))))) (AE (AK (pv 5))))))))),?_⟩;show .inl (B2 (by decide) (by decide) hro (λH1 s1=>?_));ext;intro co dx hco hdx hne;have s2:Same H1 (upd (upd H1 dx (.own co)) co (.ins aC dx [])):=λx o z=>by rw[AG (AQ z hco),AG (AQ z hdx)];exact z
 show⟨co,dx,2,a,H1,rfl,by decide,by decide,hro,AF,hco,s2,λH2 C2=>?_⟩;refine⟨rfl,?_⟩;have C2:Co aC H1 H2 co 2 a 0 []:=C2;have s3:Same H H2:=by
  obtain⟨_,_,_,_,_,_,_,_,_,c⟩:=id C2;exact s1.trans c.h0
 obtain⟨dx2,pl2,sm2,cl2,rs2,ob2⟩:∃dx pl sm cl rs,H2 co=some (.ins aC dx (cf pl sm cl rs ((0:Nat):Int))):=by
  obtain⟨dx,pl,sm,cl,rs,_,_,_,_,c⟩:=id C2;exact⟨dx,pl,sm,cl,rs,c.ob⟩
 show HZ ?_;show ifq rfl ?_;show ifp (decide_eq_true (Int.natCast_nonneg n)) ?_;show⟨co,dx2,_,rfl,ob2,rfl,?_⟩;show⟨co,2,a,0,[],H1,rfl,C2,?_⟩;have hW:W 2 a 0 []=cnt 2 a:=rfl;rw[hW];ext;rcases h with⟨rfl,rfl,q⟩|⟨hn,rf⟩
 rotate_left
 ·refine ifp (by rw[decide_eq_false (by lia)];rfl) ?_;ext;exact⟨small (by decide),λy hy=>rf y H2 s3 (s3.free hy)⟩
 refine ifq (by rw[Lv];rfl) ?_;show IL (λσ H'=>σ=[some (.int 2),some (tx []),some (.int ((0:Nat):Int)),some (.ref co),some (.int ((0:Nat):Int)),some (tx []),none]/\H'=H2) (λ_ _=>0) ⟨rfl,rfl⟩ ?_;rintro σ H3 ⟨rfl,rfl⟩;show F3 (small (show 0<=1000 by decide)) ?_;show F3 (small (show 0<=1000 by decide)) ?_;show ifq rfl ?_;ext;exact q _ s3
theorem MB:Aa P w K mg base (k+6) "is_right_filling" ["k","row","thing"] (spIsFillE K):=FnA.uE (T.f.at 23) (scN ["k","row","thing"]) λnd _ _ _ _ _ H _ _ _ hr h=>by
 obtain⟨kk,a,x,rfl,k1,k4,hro,hx⟩:=h;have hu:=hr.units0;have hl:=Ay hro;refine Bc ⟨_,(AD (AV (PW.pt (BL (BU (A5 K (Ak (HP T) hr Bv (AA (pv 0) (AA (pv 2) AB))))) (BL (AS (Ba K hu) (Ar K (T.N 7) (AA (pv 2) AB)) (Ar K (T.N 7) (AA (pv 1) AB))) (BX (BU (A5 K (Ak (NJ T) hr Bv (AA (pv 0) (AA (pv 2) AB))))))))) (AE (AK Bp)) AX) (AE (AK (Ag (Da K rfl) rfl (T.N 1) PyProof.Rows.boot_all (AA (BA (own:=["sign","bracket"]) (sel:=[]) (A2 (osc:=(AU (top 49))) (N:=["k","row","thing"]) (by decide +kernel)) rfl (Ji rfl (T.N 16) (AA (pv 1) (AA (pv 2) AB))) (λ_ _ _ _ _=>(Bu (n:=2) K rfl (Ao (Ah (i:=0) (show(["sign","bracket"]:List Str).Nodup from by decide +kernel) rfl (Or.inl rfl)) (Ao (Ah (i:=1) (show(["sign","bracket"]:List Str).Nodup from by decide +kernel) rfl (Or.inl rfl)) Bi)))) (EX (CT Bj (ER Bj Cb) (Aq (by decide)) (CT Bj Cb (Aq (by decide)) EY))) (λ_ _ _ _ _=>A3) (λ_ _ _ _ _=>(BM (DF K) (pv 0) (Ad (AA (AY (T.g.at 4)) (AA (pv 1) AB))) (by with_unfolding_all rfl)))) AB))))),?_⟩;ext;rcases hx with⟨b,rfl,hb,q⟩|⟨ty,hT,hp,hs,q⟩
 rotate_left
 ·refine .inl ⟨kk,x,rfl,k1,k4, .inr ⟨ty,hT,hp,hs,?_⟩⟩;show ifp rfl ?_;show ifp rfl ?_;ext;exact q H (Same.refl H)
 refine .inl (Io k1 k4 hb (λH1 s1=>?_));ext
 by_cases h1:isRow kk b=true
 rotate_left
 ·have h1:isRow kk b=false:=by simpa using h1
  have e:filB kk a b=false:=by unfold filB;rw[h1];rfl
  rw[e]at q;refine ifp (by rw[h1];rfl) ?_;show ifp rfl ?_;ext;exact q H1 s1
 have hbl:=Ay h1;refine ifq (by rw[h1];rfl) ?_;ext
 by_cases h2:b.length=a.length
 rotate_left
 ·have e:filB kk a b=false:=by unfold filB;rw[decide_eq_false h2,Bool.and_false];rfl
  rw[e]at q;refine ifp (by rw[decide_eq_false (by lia)];rfl) ?_;show ifp rfl ?_;ext;exact q H1 s1
 refine ifq (by rw[decide_eq_true (by lia)];rfl) ?_;show .inl (Ni k1 k4 h1 (λH2 s2=>?_));ext
 by_cases h3:Rt b
 rotate_left
 ·have e:filB kk a b=false:=by unfold filB;rw[decide_eq_false h3,Bool.and_false];rfl
  rw[e]at q;rw[decide_eq_false h3];refine ifp rfl ?_;ext;exact q H2 (s1.trans s2)
 rw[decide_eq_true h3];refine ifq rfl ?_;show IP (λc d=> .bl (decide (c=63)||decide (c=d))) h2 (small (by lia)) (λD H3 hD s3 hy=>?_) (λi c d Ta H3 R hc hd s3 hT r=>?_)
 ·ext;have hy2:SqL K H3 D (((List.range a.length).map λi=>(decide (a.getD i 0=63)||decide (a.getD i 0=b.getD i 0))).map V.bl):=by rw[List.map_map];exact SqL.of hy
  refine Dv hy2 ?_;have e:(((List.range a.length).map λi=>(decide (a.getD i 0=63)||decide (a.getD i 0=b.getD i 0))).all id)=filB kk a b:=by
   unfold filB;rw[h1,decide_eq_true h2,decide_eq_true h3,Bool.true_and,Bool.true_and,Bool.true_and,List.all_map]
   rfl
  rw[e];exact q H3 ((s1.trans s2).trans s3)
 ·refine EW (SqT.of hT) rfl ?_;show⟨small (show 2<=1000 by decide),λp hp=>?_⟩;refine K0 (.inr (SqT.of AF)) rfl rfl ?_;rw[Vj];exact r _ (AI hp _)
theorem Mr:Aa P w K mg base (k+7) "number_of" ["k","row","filling"] (spNumberN cs):=FnA.uE (T.f.at 24) (scN ["k","row","filling","course","number","sign","bracket"]) λnd _ _ _ _ _ _ _ _ _ hr h=>by
 obtain⟨a,b,rfl,ha,hb,hf,rf⟩:=h;have hu:=hr.units0;refine⟨_,(AD (BC (Ak (B1 T) hr BE (AA (pv 0) (AA (pv 1) AB)))) (AD (AV (BU (A5 K (Ak (MB T) hr BE (AA (pv 0) (AA (pv 1) (AA (pv 2) AB)))))) (AE (Cg (T.c.at 3).2 (T.c.at 3).1 hr.hd Cv (AA CZ AB))) AX) (AD B5 (AD B5 (AD B5 (AE B5)))))),?_⟩;show .inl (B2 (by decide) (by decide) ha (λH1 s1=>?_));show⟨2,a,_,rfl,by decide,by decide,ha, .inl ⟨b,rfl,by have:=Ay hb;lia,λH2 s2=>?_⟩⟩;rw[hf];show ifp rfl ?_;ext;have s3:=s1.trans s2;exact⟨small (by decide),λy hy=>rf y H2 s3 (s3.free hy)⟩
theorem Gy:FuV P w K mg base (k+1) "likelier" ["one","other"] (spLikelier):=FnA.u (T.f.at 25) (scN ["one","other"]) λnd _ _ _ _ _ H _ Q _ hr h=>by
 obtain⟨v1,v2,o1,o2,rfl,h1,h2,hd,q⟩:=h;have hu:=hr.units0;refine⟨_,(AD (AV (PW.pt (BL (AS Bb (pv 0) Ae) (BX (AS Bb (pv 1) Ae)))) (AE (AK (BK (AS Bb (pv 1) Ae) (pv 0) (pv 1)))) AX) (AD (AV (AS (Ax K hu) (AH K (pv 0) AC) (AH K (pv 1) AC)) (AE (AK (BK (AS (Tf K hu) (AH K (pv 0) AC) (AH K (pv 1) AC)) (pv 0) (pv 1)))) AX) (AE (AK (BK (AS CM (AH K (pv 0) AC) (AH K (pv 1) AC)) (pv 0) (pv 1)))))),?_⟩
 match o1,o2,h1,h2,hd,q with
 |none,none,h1,h2,hd,q=>
  cases(show v1= .non from h1)
  cases(show v2= .non from h2)
  show ifp rfl ?_
  first|refine ifp rfl ?_ |skip
  show ifp rfl ?_;ext;exact q _ _ (Same.refl H) (.inl ⟨rfl,rfl⟩)
 |none,some (x,m),h1,⟨T2,a2,e2,_,_,g1,g2⟩,hd,q=>
  cases(show v1= .non from h1)
  subst e2;show ifp rfl ?_
  first|refine ifp rfl ?_ |skip
  show ifq rfl ?_;ext;exact q _ _ (Same.refl H) (.inr ⟨rfl,rfl⟩)
 |some (w,l),none,⟨T1,a1,e1,_,_,f1,f2⟩,h2,hd,q=>
  cases(show v2= .non from h2)
  subst e1;show ifq rfl ?_;show ifp rfl ?_
  first|refine ifp rfl ?_ |skip
  show ifp rfl ?_;ext;exact q _ _ (Same.refl H) (.inl ⟨rfl,rfl⟩)
 |some (w,l),some (x,m),⟨T1,a1,e1,_,_,f1,f2⟩,⟨T2,a2,e2,_,_,g1,g2⟩,hd,q=>
  subst e1 e2;obtain⟨hlen,hne⟩:=hd w l x m rfl rfl;have q:∀v H',Same H H'->((v= .ref T1/\(if w=x then(if l<m then some (w,l)else some (x,m))else if w>x then some (w,l)else some (x,m))=some (w,l))\/(v= .ref T2/\(if w=x then(if l<m then some (w,l)else some (x,m))else if w>x then some (w,l)else some (x,m))=some (x,m)))->Q v H':=q;show ifq rfl ?_;show ifq rfl ?_
  first|refine ifq rfl ?_ |skip
  show A0 (SqT.of f1) (v:= .int w) rfl ?_;show A0 (SqT.of g1) (v:= .int x) rfl ?_;show ifd (λh3=>?_) (λh3=>?_)
  ·show A0 (SqT.of f1) (v:= .ref a1) rfl ?_;show A0 (SqT.of g1) (v:= .ref a2) rfl ?_;refine⟨a1,a2,l,m,rfl,rfl,SqL.of f2,SqL.of g2,hlen,hne,?_⟩;ext;rw[if_pos h3]at q;refine ifd (λh4=>?_) (λh4=>?_)
   ·ext;exact q _ _ (Same.refl H) (.inl ⟨rfl,if_pos h4⟩)
   ·ext;exact q _ _ (Same.refl H) (.inr ⟨rfl,if_neg h4⟩)
  ·show A0 (SqT.of f1) (v:= .int w) rfl ?_;show A0 (SqT.of g1) (v:= .int x) rfl ?_;ext;rw[if_neg h3]at q;refine ifd (λh4=>?_) (λh4=>?_)
   ·ext;exact q _ _ (Same.refl H) (.inl ⟨rfl,if_pos h4⟩)
   ·ext;exact q _ _ (Same.refl H) (.inr ⟨rfl,if_neg h4⟩)
theorem MH:FuV P w K mg base (k+2) "likeliest_pair" ["first","last"] (spLPair9):=FnA.u (T.f.at 26) (scN ["first","last","best","opening","weight"]) λnd _ _ _ _ _ H _ _ _ hr h=>by
 obtain⟨p1,p2,rfl,h1,h2,q⟩:=h;have hu:=hr.units0;refine⟨_,(AD (AM 2 Ae) (AD (BI PassesOwn.never rfl (CS rfl (T.N 11) (AA AC (AA (Ar K (T.N 7) (AA (pv 0) AB)) (AA AC AB)))) (Af 3) (AD (AM 4 (AJ DA (AH K (pv 0) (pv 3)) (AH K (pv 1) (AJ AO (pv 3) AC)))) (AE (AV (AS CM (pv 4) AC) (AE (AM 2 (AL (Gy T) hr (AA (pv 2) (AA (Ad (AA (pv 4) (AA (AW (AA (pv 3) (AA (AJ AO (pv 3) AC) AB))) AB))) AB))))) AX)))) (AE (AK (pv 2))))),?_⟩;show BS (.inl (SqL.of h1)) ?_;show⟨0,4,2,rfl,⟨by decide,by decide,by decide⟩,?_⟩;refine unr 2 (Cy (by decide) ?_);rw[show(0:Int)+((0:Nat):Int)*2=0 from rfl];show AN (SqL.of h1) (v:= .int 1) rfl ?_;show AN (SqL.of h2) (v:= .int 1) rfl ?_;refine Cp D6 D6 ?_;show ifp rfl ?_;show⟨small (show 2<=1000 by decide),λa1 ha1=>?_⟩;have t1:=AI ha1 (.lst [.int 0, .int (0+1)]);have k1:(upd H a1 (.lst [.int 0, .int (0+1)])) a1=_:=AF;generalize upd H a1 _=J1 at*
 show⟨small (show 2<=1000 by decide),λT1 hT1=>?_⟩;have u1:=AI hT1 (.tup [.int (1*1), .ref a1]);have g1:(upd J1 T1 (.tup [.int (1*1), .ref a1])) T1=_:=AF;have k1:=u1 _ _ k1;have s1:=(t1.trans u1);have fT1:=t1.free hT1;generalize upd J1 T1 _=M1 at*
 show⟨.non, .ref T1,none,some (1,[0,1]),rfl,rfl,⟨T1,a1,rfl,trivial,trivial,g1,k1⟩,(λ_ _ _ _ e=>nomatch e),λv H2 s2 hv=>?_⟩;obtain rfl:v= .ref T1:=by
  rcases hv with⟨_,z⟩|⟨z,_⟩
  ·exact absurd z (by decide)
  ·exact z
 have g1:=s2 _ _ g1;have k1:=s2 _ _ k1;have s3:=s1.trans s2;have fa1:=ha1;show Cy (by decide) ?_;rw[show(0:Int)+((0+1:Nat):Int)*2=2 from rfl];show AN (SqL.of (s3 _ _ h1)) (v:= .int 1) rfl ?_;show AN (SqL.of (s3 _ _ h2)) (v:= .int 1) rfl ?_;refine Cp D6 D6 ?_;show ifp rfl ?_;show⟨small (show 2<=1000 by decide),λa4 ha4=>?_⟩;have t4:=AI ha4 (.lst [.int 2, .int (2+1)]);have k4:(upd H2 a4 (.lst [.int 2, .int (2+1)])) a4=_:=AF;generalize upd H2 a4 _=J4 at*
 show⟨small (show 2<=1000 by decide),λT4 hT4=>?_⟩;have u4:=AI hT4 (.tup [.int (1*1), .ref a4]);have g4:(upd J4 T4 (.tup [.int (1*1), .ref a4])) T4=_:=AF;have k4:=u4 _ _ k4;have s4:=s3.trans (t4.trans u4);have fT4:=t4.free hT4;generalize upd J4 T4 _=M4 at*
 show⟨.ref T1, .ref T4,some (1,[0,1]),some (1,[2,3]),rfl,⟨T1,a1,rfl,trivial,trivial,u4 _ _ (t4 _ _ g1),u4 _ _ (t4 _ _ k1)⟩,⟨T4,a4,rfl,trivial,trivial,g4,k4⟩,(λ_ _ _ _ e e'=>by cases e;cases e';decide),λv H5 s5 hv=>?_⟩;obtain rfl:v= .ref T1:=by
  rcases hv with⟨z,_⟩|⟨_,z⟩
  ·exact z
  ·exact absurd z (by decide)
 show⟨Nat.le_of_ble_eq_true rfl,?_⟩;ext;exact q _ H5 (s4.trans s5) ⟨T1,a1,rfl,fT1,fa1,s5 _ _ (u4 _ _ (t4 _ _ g1)),s5 _ _ (u4 _ _ (t4 _ _ k1))⟩
theorem MU:FuV P w K mg base (k+1) "round_about" ["pair","within"] (spRound):=FnA.u (T.f.at 27) (scN ["pair","within","opening","closing"]) λnd _ _ _ _ _ H _ _ _ hr h=>by
 obtain⟨v1,v2,o1,o2,rfl,h1,h2,h22,z1,z2,q⟩:=h;have hu:=hr.units0;refine⟨_,(AD (AV (PW.pt (BL (AS Bb (pv 0) Ae) (BX (AS Bb (pv 1) Ae)))) (AE (AK Ae)) AX) (AD (BY (AH K (pv 0) AC) (RN (n:=2) K rfl (Ao (Af 2) (Ao (Af 3) Bi)))) (AE (AK (Ad (AA (AJ DA (AH K (pv 0) AC) (AH K (pv 1) AC)) (AA (AJ AO (AJ AO (AW (AA (pv 2) AB)) (AH K (pv 1) AC)) (AW (AA (pv 3) AB))) AB))))))),?_⟩
 match o1,o2,h1,h2,h22,z1,z2,q with
 |none,o2,h1,h2,h22,z1,z2,q=>
  cases(show v1= .non from h1)
  show ifp rfl ?_
  first|refine ifp rfl ?_ |skip
  ext;exact q _ _ (Same.refl H) rfl
 |some (w,l),none,⟨T1,a1,e1,_,_,f1,f2⟩,h2,h22,z1,z2,q=>
  cases(show v2= .non from h2)
  subst e1;show ifq rfl ?_;show ifp rfl ?_
  first|refine ifp rfl ?_ |skip
  ext;exact q _ _ (Same.refl H) rfl
 |some (w,l),some (x,m),⟨T1,a1,e1,_,_,f1,f2⟩,⟨T2,a2,e2,_,_,g1,g2⟩,h22,z1,z2,q=>
  subst e1 e2;obtain⟨b1,l1⟩:=z1 w l rfl;obtain⟨b2,l2⟩:=z2 x m rfl;obtain⟨c1,c2,rfl⟩:∃c1 c2,l=[c1,c2]:=by
   match l,h22 w l rfl with
   |[c1,c2],_=>exact⟨c1,c2,rfl⟩
  show ifq rfl ?_;show ifq rfl ?_
  first|refine ifq rfl ?_ |skip
  show A0 (SqT.of f1) (v:= .ref a1) rfl ?_;refine⟨a1,[.int (c1:Int), .int (c2:Int)],rfl,SqL.of f2,rfl,?_⟩;show A0 (SqT.of f1) (v:= .int w) rfl ?_;show A0 (SqT.of g1) (v:= .int x) rfl ?_;refine Cp b1 b2 ?_;show⟨small (show 1<=1000 by decide),λd1 hd1=>?_⟩;have t1:=AI hd1 (.lst [.int (c1:Int)]);have k1:(upd H d1 (.lst [.int (c1:Int)])) d1=_:=AF;generalize upd H d1 _=H1 at*
  show A0 (SqT.of (t1 _ _ g1)) (v:= .ref a2) rfl ?_;refine Ct k1 (t1 _ _ g2) (small (by rw[List.length_map];simp;lia)) (λd2 hd2=>?_);have t2:=AI hd2 (.lst ([.int (c1:Int)]++nL m));have k2:(upd H1 d2 (.lst ([.int (c1:Int)]++nL m))) d2=_:=AF;generalize upd H1 d2 _=H2 at*
  show⟨small (show 1<=1000 by decide),λd3 hd3=>?_⟩;have t3:=AI hd3 (.lst [.int (c2:Int)]);have k3:(upd H2 d3 (.lst [.int (c2:Int)])) d3=_:=AF;generalize upd H2 d3 _=H3 at*
  refine Ct (t3 _ _ k2) k3 (small (by simp;lia)) (λd4 hd4=>?_);have t4:=AI hd4 (.lst (([.int (c1:Int)]++nL m)++[.int (c2:Int)]));have k4:(upd H3 d4 (.lst (([.int (c1:Int)]++nL m)++[.int (c2:Int)]))) d4=_:=AF;generalize upd H3 d4 _=H4 at*
  ext;have t34:=(t1.trans t2).trans (t3.trans t4);refine⟨small (show 2<=1000 by decide),λT hT=>?_⟩;have t5:=AI hT (.tup [.int (w*x), .ref d4]);refine q _ _ (t34.trans t5) ⟨T,d4,rfl,t34.free hT,((t1.trans t2).trans t3).free hd4,AF,?_⟩;rw[t5 _ _ k4];show some (HO.lst _)=some (HO.lst (nL ([c1]++m++[c2])));simp[nL]
theorem L8:FuV P w K mg base (k+1) "one_behind_the_other" ["first","second"] (spBehindO):=FnA.u (T.f.at 28) (scN ["first","second"]) λnd _ _ _ _ _ H _ _ _ hr h=>by
 obtain⟨v1,v2,o1,o2,rfl,h1,h2,z1,z2,q⟩:=h;have hu:=hr.units0;refine⟨_,(AD (AV (PW.pt (BL (AS Bb (pv 0) Ae) (BX (AS Bb (pv 1) Ae)))) (AE (AK Ae)) AX) (AE (AK (Ad (AA (AJ DA (AH K (pv 0) AC) (AH K (pv 1) AC)) (AA (AJ AO (AH K (pv 0) AC) (AH K (pv 1) AC)) AB)))))),?_⟩
 match o1,o2,h1,h2,z1,z2,q with
 |none,o2,h1,h2,z1,z2,q=>
  cases(show v1= .non from h1)
  show ifp rfl ?_
  first|refine ifp rfl ?_ |skip
  ext;exact q _ _ (Same.refl H) rfl
 |some (w,l),none,⟨T1,a1,e1,_,_,f1,f2⟩,h2,z1,z2,q=>
  cases(show v2= .non from h2)
  subst e1;show ifq rfl ?_;show ifp rfl ?_
  first|refine ifp rfl ?_ |skip
  ext;exact q _ _ (Same.refl H) rfl
 |some (w,l),some (x,m),⟨T1,a1,e1,_,_,f1,f2⟩,⟨T2,a2,e2,_,_,g1,g2⟩,z1,z2,q=>
  subst e1 e2;obtain⟨b1,l1⟩:=z1 w l rfl;obtain⟨b2,l2⟩:=z2 x m rfl;show ifq rfl ?_;show ifq rfl ?_
  first|refine ifq rfl ?_ |skip
  show A0 (SqT.of f1) (v:= .int w) rfl ?_;show A0 (SqT.of g1) (v:= .int x) rfl ?_;refine Cp b1 b2 ?_;show A0 (SqT.of f1) (v:= .ref a1) rfl ?_;show A0 (SqT.of g1) (v:= .ref a2) rfl ?_;refine Ct f2 g2 (small (by rw[List.length_map,List.length_map];lia)) (λc hc=>?_);have t1:=AI hc (.lst (nL l++nL m));show⟨small (show 2<=1000 by decide),λT hT=>?_⟩;have t2:=AI hT (.tup [.int (w*x), .ref c]);refine q _ _ (t1.trans t2) ⟨T,c,rfl,t1.free hT,hc,AF,?_⟩;rw[t2 _ _ AF,<-List.map_append]
theorem MD:FuV P w K mg base (k+3) "likeliest_spans" ["places"] (spSpansL9):=FnA.u (T.f.at 29) (scN ["places","many","best","start","end","part","stop","found"]) λnd _ _ _ _ _ H _ _ _ hr h=>by
 obtain⟨p,rfl,hP,q⟩:=h;have hu:=hr.units0;obtain⟨pa,hp0,hpa⟩:=id hP;refine⟨_,(AD (CH (i:=1) nd rfl (Or.inr rfl) (Ar K (T.N 7) (AA (pv 0) AB))) (AD (Ex (i:=2) nd rfl (Or.inl rfl) (own:=["start"]) (sel:=[1]) (A2 (osc:=(AU (top 56))) (N:=["places","many","best","start","end","part","stop","found"]) (by decide +kernel)) rfl (C9 rfl (T.N 11) (AA (AJ AO (pv 1) AC) AB)) (λ_ _ _ _ _=>(Ah (i:=0) (show(["start","many"]:List Str).Nodup from by decide +kernel) rfl (Or.inl rfl))) (Aq (by decide)) (λ_ _ _ _ _=>A3) (λ_ _ _ _ _=>(AJ A6 (AW (AA Ae AB)) (AJ AO (pv 1) AC)))) (AD (BI PassesOwn.never rfl (CS rfl (T.N 11) (AA (pv 1) (AA (Bo Bm AC) (AA (Bo Bm AC) AB)))) (Af 3) (AD (BY (Ad (AA AC (AA (AW AB) AB))) (CI (AH K (pv 2) (pv 3)) (pv 3) B4)) (AE (BI PassesOwn.never rfl (CS rfl (T.N 11) (AA (AJ AO (pv 3) AC) (AA (pv 1) (AA AC AB)))) (Af 4) (AD (AM 5 (AL (MU T) hr (AA (AL (MH T) hr (AA (AH K (pv 0) (pv 3)) (AA (AH K (pv 0) (pv 4)) AB))) (AA (AH K (AH K (pv 2) (AJ AO (pv 3) AC)) (pv 4)) AB)))) (AE (BI PassesOwn.never rfl (CS rfl (T.N 11) (AA (AJ AO (pv 4) AC) (AA (AJ AO (pv 1) AC) (AA AC AB)))) (Af 6) (AD (AM 7 (AL (L8 T) hr (AA (pv 5) (AA (AH K (AH K (pv 2) (AJ AO (pv 4) AC)) (pv 6)) AB)))) (AE (BY (AL (Gy T) hr (AA (AH K (AH K (pv 2) (pv 3)) (pv 6)) (AA (pv 7) AB))) (CI (AH K (pv 2) (pv 3)) (pv 6) B4))))))))))) (AE (AK (pv 2)))))),?_⟩;show BS (.inl (SqL.of hp0)) ?_;obtain⟨n,hN⟩:∃n:Nat,n=2:=⟨2,rfl⟩;have en:((((List.range psW.length).map λi=>V.ref (pa i)).length:Nat):Int)=(n:Int):=by rw[hN];rfl
 rw[en];have hx:H (pa 0)=some (iL [1,2,1,1]):=hpa 0 (by decide);have hy0:H (pa 1)=some (iL [2,1,1,1]):=hpa 1 (by decide);have hn:n<=40:=by lia
 show⟨_,rfl,by lia,by lia,?_⟩;have en:((n:Int)+1).toNat=n+1:=by lia
 rw[en];refine JK (small (by lia)) (λD i ys H'=>∃ad:Nat->Addr,ys=(List.range i).map (λj=>V.ref (ad j))/\(∀j,j<i->H' (ad j)=some (.lst (rwv n λ_=> .non))/\H (ad j)=none/\ad j≠D)/\∀j j',j<i->j'<i->ad j=ad j'->j=j')
  (λD _=>⟨λ_=>D,rfl,λj hj=>absurd hj (by lia),λj _ hj=>absurd hj (by lia)⟩) (λD i ys H1 H2 _ ⟨ad,e,h1,h2⟩ s12=>⟨ad,e,λj hj=>⟨s12 _ _ (h1 j hj).1 (h1 j hj).2.2,(h1 j hj).2⟩,h2⟩)
  (λs' ys H1 hD hy _ sH ⟨ad,e,h1,h2⟩=>?_) ?_
 rotate_left
 ·rintro D i ys H' R hD hi hy hl sH ⟨ad,e,h1,h2⟩ r;show⟨small (show 1<=1000 by decide),λz hz=>?_⟩;show Ed (xs:=[.non]) AF (by lia) (by lia) (small (by rw[List.length_singleton,en];lia)) (λp hp=>?_);have hpz:p≠z:=λw=>by rw[w,AF]at hp;cases hp
  have hp':H' p=none:=by rw[AG hpz]at hp;exact hp
  have hpD:p≠D:=λw=>by rw[w,hy]at hp';cases hp'
  have sp:Same H' (upd (upd H' z (.lst [.non])) p (.lst (List.replicate ((n:Int)+1).toNat [V.non]).flatten)):=(AI hz _).trans (AI hp _);refine r _ _ sp ⟨λj=>if j=i then p else ad j,?_,?_,?_⟩
  ·subst e;rw[List.range_succ,List.map_append];congr 1
   ·refine List.map_congr_left λj hj=>?_;have:=List.mem_range.mp hj;show V.ref (ad j)=V.ref (if j=i then p else ad j);rw[if_neg (by lia)]
   ·simp
  ·intro j hj
   by_cases ej:j=i
   ·subst ej;simp only[if_true];refine⟨?_,?_,hpD⟩
    ·rw[AF,en];congr 2;unfold rwv;have:∀m:Nat,(List.replicate m [V.non]).flatten=(List.range m).map λ_=>V.non:=by
      intro m
      induction m with
      |zero=>rfl
      |succ m ih=>rw[List.replicate_succ',List.flatten_append,ih,List.range_succ,List.map_append];rfl
     exact this (n+1)
    ·exact sH.free hp'
   ·simp only[if_neg ej];obtain⟨a1,a2,a3⟩:=h1 j (by lia);exact⟨sp _ _ a1,a2,a3⟩
  ·intro j j' hj hj' he
   by_cases ej:j=i<;>by_cases ej':j'=i
   ·lia
   ·simp only[if_pos ej,if_neg ej']at he;have:=(h1 j' (by lia)).1;rw[<-he,hp']at this;cases this
   ·simp only[if_neg ej,if_pos ej']at he;have:=(h1 j (by lia)).1;rw[he,hp']at this;cases this
   ·simp only[if_neg ej,if_neg ej']at he;exact h2 j j' (by lia) (by lia) he
 subst e;have tb1:Tv H H1 H1 s' ad n (λ_ _=> .non):=⟨hD,λi hi=>(h1 i (by lia)).2.1,λi hi=>(h1 i (by lia)).2.2,λi j hi hj=>h2 i j (by lia) (by lia),λi hi=>by rw[(h1 i (by lia)).1];simp,hy,λi hi=>(h1 i (by lia)).1,sH,λb z=>z⟩;clear h1 h2 hy hD;ext;subst hN;refine⟨_,-1,-1,rfl,⟨by decide,by decide,by decide⟩,?_⟩;refine unr 3 (Cy (by decide) ?_);refine Fj (st:=2) rfl rfl (Nat.le_refl _) tb1 λv2 H2 tb2 b2 _=>?_;show⟨_,_,2,rfl,⟨by decide,by decide,by decide⟩,?_⟩;refine unr 0 ⟨Nat.le_of_ble_eq_true rfl,?_⟩;refine Cy (by decide) ?_;refine Fj (st:=1) rfl rfl (by decide) tb2 λv1 H3 tb3 b3 k3=>?_;show⟨_,_,2,rfl,⟨by decide,by decide,by decide⟩,?_⟩;refine unr 0 ⟨Nat.le_of_ble_eq_true rfl,?_⟩;refine Cy (by decide) ?_;refine Fj (st:=0) rfl rfl (by decide) tb3 λv0 H4 tb4 _ k4=>?_;have b3:=b3.keep k4;have b2:=(b2.keep k3).keep k4;clear k3 k4 tb1 tb2 tb3;show⟨_,_,2,rfl,⟨by decide,by decide,by decide⟩,?_⟩;refine unr 1 (Cy (by decide) ?_);show AN (SqL.of (tb4.sm _ _ hp0)) (v:= .ref (pa 0)) rfl ?_;show AN (SqL.of (tb4.sm _ _ hp0)) (v:= .ref (pa 1)) rfl ?_;show⟨pa 0,pa 1,rfl,tb4.sm _ _ hx,tb4.sm _ _ hy0,λvp H5 s5 bp=>?_⟩;have tb5:=tb4.same s5;show AN (SqL.of tb5.top) (v:= .ref (ad 1)) rfl ?_;show AN (SqL.of (tb5.row 1 (by decide))) (v:=v1) rfl ?_;ext;have sz1:∀l:List Nat,l.length<=40->Sz (some (1,l)):=λl hl w l' e=>by cases e;exact⟨D6,hl⟩
 refine⟨vp,v1,oW,some (1,[]),rfl,bp.imp λ_ _ _ _=>trivial,(b3.same s5).imp λ_ _ _ _=>trivial,(λw l e=>by cases e;rfl),sz1 _ (by decide),sz1 _ (by decide),λvr H6 s6 br=>?_⟩;have tb6:=tb5.same s6;have b2:=b2.same (s5.trans s6);clear bp tb4 tb5 s5 b3;show⟨_,_,2,rfl,⟨by decide,by decide,by decide⟩,?_⟩;refine unr 1 (Cy (by decide) ?_);show AN (SqL.of tb6.top) (v:= .ref (ad 2)) rfl ?_;show AN (SqL.of (tb6.row 2 (by decide))) (v:=v2) rfl ?_;show⟨vr,v2,oW,some (1,[]),rfl,br.imp λ_ _ _ _=>trivial,b2.imp λ_ _ _ _=>trivial,sz1 _ (by decide),sz1 _ (by decide),λvf H7 s7 bf=>?_⟩;have tb7:=tb6.same s7;show AN (SqL.of tb7.top) (v:= .ref (ad 0)) rfl ?_;show AN (SqL.of (tb7.row 0 (by decide))) (v:= .non) rfl ?_;show⟨.non,vf,none,oW,rfl,rfl,bf.imp λ_ _ _ _=>trivial,λw l x m e=>(by cases e),λvn H8 s8 hv=>?_⟩;have tb8:=tb7.same s8;obtain rfl:vn=vf:=by
  rcases hv with⟨_,z⟩|⟨z,_⟩
  ·exact absurd z (by decide)
  ·exact z
 have bn:=(bf.imp λb x f _=>tb6.gr b f).same s8;show AN (SqL.of tb8.top) (v:= .ref (ad 0)) rfl ?_;show CG (tb8.row 0 (by decide)) (j:=2) (Fm (by rw[Jb];decide)) ?_;have tb9:=tb8.set (i:=0) (j:=2) (v:=vn) (by decide);refine⟨Nat.le_of_ble_eq_true rfl,?_⟩;refine⟨Nat.le_of_ble_eq_true rfl,?_⟩;refine⟨Nat.le_of_ble_eq_true rfl,?_⟩;ext;exact q s' (ad 0) _ [v0, .non] vn _ tb9.sm tb9.top (tb9.row 0 (by decide)) ((bn.keep λb x f z=>tb8.keep (by decide) b x f z).imp λ_ _ _ _=>trivial)
theorem ME:FuV P w K mg base (k+4) "first_likeliest" ["places"] (spFirstL9):=FnA.u (T.f.at 30) (scN ["places","best"]) λnd _ _ _ _ _ _ _ _ _ hr h=>by
 obtain⟨p,rfl,hP,q⟩:=h;have hu:=hr.units0;refine⟨_,(AD (AM 1 (AH K (AH K (AL (MD T) hr (AA (pv 0) AB)) AC) (Bo Bm AC))) (AD (AV (AS Bb (pv 1) Ae) (AE (AK Ae)) AX) (AE (AK (Ad (AA (AH K (pv 1) AC) (AA (BZ K PySem.F.plainAttrs_str PySem.F.slot_str_join PySem.F.type_str_join (Fl K) (pxt []) (AA (BA (own:=["bracket"]) (sel:=[]) (A2 (osc:=(AU (top 57))) (N:=["places","best"]) (by decide +kernel)) rfl (B6 K (AH K (pv 1) AC)) (λ_ _ _ _ _=>(Ah (i:=0) (show(["bracket"]:List Str).Nodup from by decide +kernel) rfl (Or.inl rfl))) (Aq (by decide)) (λ_ _ _ _ _=>A3) (λ_ _ _ _ _=>(AH K (AY (T.g.at 3)) (pv 0)))) AB)) AB))))))),?_⟩;show⟨p,rfl,hP,λs' r rs xs v H1 s1 e1 e2 bt=>?_⟩;show AN (SqL.of e1) (v:= .ref r) (Dx _ _) ?_;show AN (SqL.of e2) (QD xs v) ?_;obtain⟨T1,a1,ev,_,_,f1,f2⟩:=bt;subst ev;have hlen:([0,1]:List Nat).length<=40:=by decide
 have hbd:∀b∈([0,1]:List Nat),b<8:=by decide
 generalize hl:([0,1]:List Nat)=l at*
 show ifq rfl ?_;show A0 (SqT.of f1) (v:= .int 1) rfl ?_;show A0 (SqT.of f1) (v:= .ref a1) rfl ?_;show⟨a1,rfl,⟨_,SqL.of f2⟩,?_⟩;refine comp_map (λx=>match x with| .int i=>tx [brs.getD i.toNat 0]|y=>y) (small (by rw[List.length_map];lia)) f2 (λD H2 hD s2 h2=>?_) (λD i x H2 R hD hx s2 hR=>?_)
 ·have e:((nL l).map λx=>match x with| .int i=>tx [brs.getD i.toNat 0]|y=>y)=(l.map λb=>[brs.getD b 0]).map tx:=by
   unfold nL;rw[List.map_map,List.map_map]
   rfl
  rw[e]at h2;ext;have ef:(l.map λb=>[brs.getD b 0]).flatten=brx l:=by
   unfold brx;rw[<-FS (l.map λb=>brs.getD b 0),List.map_map];rfl
  refine F4 (xss:=l.map λb=>[brs.getD b 0]) (SqL.of h2) (by rw[ef,List.length_map];unfold brx;rw[List.length_map];lia) ?_;rw[ef];show⟨small (show 2<=1000 by decide),λT' hT=>?_⟩;subst hl;exact q T' _ ((s1.trans s2).trans (AI hT _)) AF
 ·rw[List.getElem?_map]at hx;obtain⟨b,hb,rfl⟩:=Option.map_eq_some_iff.mp hx;have hb8:=hbd b (List.mem_of_getElem? hb);show Bw (small (by decide)) (Av (Rw hb8)) ?_;exact hR H2 (Same.refl _)
theorem Gq:FuV P w K mg base (k+1) "needs_change" ["sign","bracket"] (spNeeds):=FnA.u (T.f.at 31) (scN ["sign","bracket"]) λnd _ _ _ _ _ _ _ _ _ hr h=>by
 obtain⟨c,b,rfl,q⟩:=h;have hu:=hr.units0;refine⟨_,(AE (AK (BM (Hm K) (pv 0) (Ad (AA (AY (T.g.at 4)) (AA (pv 1) AB))) (by with_unfolding_all rfl)))),?_⟩;show⟨small (show 2<=1000 by decide),λT' hT=>?_⟩;have t1:=AI hT (.tup [tx [63],tx [b]]);refine .inr ⟨T',_,rfl, .inr (SqT.of AF),rfl,rfl,?_⟩;rw[VD];exact q _ t1
theorem MA:FuV P w K mg base (k+2) "places_to_change" ["k","row"] (spPlacesC):=FnA.u (T.f.at 32) (scN ["k","row"]) λnd _ _ _ _ _ _ _ _ _ hr h=>by
 obtain⟨kk,a,rfl,k1,k4,ha,q⟩:=h;have hu:=hr.units0;refine⟨_,(AE (AK (BA (own:=["sign"]) (sel:=[0]) (A2 (osc:=(AU (top 62))) (N:=["k","row"]) (by decide +kernel)) rfl (CY (pv 1)) (λ_ _ _ _ _=>(Ah (i:=0) (show(["sign","k"]:List Str).Nodup from by decide +kernel) rfl (Or.inr rfl))) (Aq (by decide)) (λ_ _ _ _ _=>A3) (λ_ _ _ _ _=>(BA (own:=["bracket"]) (sel:=[0]) (IC (osc:=(AU (top 62))) (N:=["sign","k"]) rfl rfl (by decide +kernel)) rfl (CY (BP (BW K) (AY (T.g.at 3)) BR (BQ (AJ A6 AC (pv 1))))) (λ_ _ _ _ _=>(Ah (i:=0) (show(["bracket","sign"]:List Str).Nodup from by decide +kernel) rfl (Or.inl rfl))) (Aq (by decide)) (λ_ _ _ _ _=>A3) (λ_ _ _ _ _=>(BK (A5 K (AL (Gq T) hr (AA (pv 1) (AA (pv 0) AB)))) (AY (T.g.at 7)) (AY (T.g.at 6))))))))),?_⟩;show FY (small (by lia)) (λD i ys H'=>∃ad:Nat->Addr,ys=(List.range i).map (λj=>V.ref (ad j))/\∀j,j<i->H' (ad j)=some (iL (plc kk.toNat (a.getD j 0)))/\ad j≠D)
  (λD _=>⟨λ_=>D,rfl,λj hj=>absurd hj (by lia)⟩) (λD i ys H1 H2 _ ⟨ad,e,h1⟩ s12=>⟨ad,e,λj hj=>⟨s12 _ _ (h1 j hj).1 (h1 j hj).2,(h1 j hj).2⟩⟩)
  (λD ys H' hD hy _ sH ⟨ad,e,h1⟩=>?_) ?_
 ·subst e;refine q D H' hD sH ⟨ad,by rw[List.length_map];exact hy,λi hi=>?_⟩;rw[List.length_map]at hi;have eg:(a.map (plc kk.toNat)).getD i []=plc kk.toNat (a.getD i 0):=by
   simp only[List.getD_eq_getElem?_getD,List.getElem?_map,List.getElem?_eq_getElem hi];rfl
  rw[eg];exact(h1 i hi).1
 ·rintro D i ys H' R hD hi hy hl sH ⟨ad,e,h1⟩ r;have fin:∀l H6,H' l=none->Same H' H6->H6 l=some (iL (plc kk.toNat (a.getD i 0)))->R (.ref l) H6:=by
   intro l H6 hl' s6 h6;have hlD:l≠D:=λz=>by rw[z,hy]at hl';cases hl'
   refine r _ _ s6 ⟨λj=>if j=i then l else ad j,?_,λj hj=>?_⟩
   ·subst e;rw[List.range_succ,List.map_append];congr 1
    ·refine List.map_congr_left λj hj=>?_;have:=List.mem_range.mp hj;show V.ref (ad j)=V.ref (if j=i then l else ad j);rw[if_neg (by lia)]
    ·simp
   ·by_cases ej:j=i
    ·subst ej;simp only[if_true];exact⟨h6,hlD⟩
    ·simp only[if_neg ej];obtain⟨a1,a2⟩:=h1 j (by lia);exact⟨s6 _ _ a1,a2⟩
  ext;rw[CJ _ (by lia),show(2*kk).toNat=2*kk.toNat by lia];show IQ (λb=> .int (if a.getD i 0=63\/a.getD i 0=b then 2 else 1)) (small (by rw[List.length_take];exact Nat.le_trans (Nat.min_le_right _ _) (by decide))) (λD2 H2 hD2 s2 h2=>?_) (λi2 c H2 R2 hc2 s2 r2=>?_)
  ·refine fin D2 H2 hD2 s2 ?_;rw[h2];unfold plc;show some (HO.lst _)=some (HO.lst (List.map V.int (List.map _ _)));rw[List.map_map]
   rfl
  ·show⟨a.getD i 0,c,rfl,λH3 s3=>?_⟩;ext
   by_cases z:a.getD i 0=63\/a.getD i 0=c
   ·rw[if_pos z]at r2;refine ifq (by rw[decide_eq_true z];rfl) ?_;ext;exact r2 H3 s3
   ·rw[if_neg z]at r2;refine ifp (by rw[decide_eq_false z];rfl) ?_;ext;exact r2 H3 s3
theorem MJ:Aa P w K mg base (k+5) "fewest_changes" ["k","row"] (spFew9):=FnA.uE (T.f.at 33) (scN ["k","row","best","right"]) λnd _ _ _ _ _ _ _ _ _ hr h=>by
 obtain⟨rfl,q⟩:=h;have hu:=hr.units0;have hu2:=A4 hr;refine Bc ⟨_,(AD (BC (Ak (B1 T) hr Bv (AA (pv 0) (AA (pv 1) AB)))) (AD (AM 2 (AL (ME T) hr (AA (AL (MA T) hr (AA (pv 0) (AA (pv 1) AB))) AB))) (AD (AV (AS Bb (pv 2) Ae) (AE (AK Ae)) AX) (AD (AM 3 (AH K (pv 2) AC)) (AE (AK (Ad (AA (Ag (ID K rfl) rfl (T.N 15) PyProof.Rows.boot_sum (AA (BA (own:=["sign","bracket"]) (sel:=[]) (A2 (osc:=(AU (top 63))) (N:=["k","row","best","right"]) (by decide +kernel)) rfl (Ji rfl (T.N 16) (AA (pv 1) (AA (pv 3) AB))) (λ_ _ _ _ _=>(Bu (n:=2) K rfl (Ao (Ah (i:=0) (show(["sign","bracket"]:List Str).Nodup from by decide +kernel) rfl (Or.inl rfl)) (Ao (Ah (i:=1) (show(["sign","bracket"]:List Str).Nodup from by decide +kernel) rfl (Or.inl rfl)) Bi)))) (EX (CT Bj (ER Bj Cb) (Aq (by decide)) (CT Bj Cb (Aq (by decide)) EY))) (λ_ _ _ _ _=>A3) (λ_ _ _ _ _=>(Bh DZ rfl (T.N 5) PyProof.Rows.boot_int (AA (AL (Gq T) hr (AA (pv 0) (AA (pv 1) AB))) AB)))) AB)) (AA (pv 3) AB))))))))),?_⟩;show .inl (B2 (by decide) (by decide) (show isRow 2 rW=true by decide) (λH1 s1=>?_));show⟨2,rW,rfl,by decide,by decide,by decide,λr H2 _ s2 hP=>?_⟩;have hP:Pls H2 r psW:=hP;show⟨r,rfl,hP,λT1 H3 s3 f1=>?_⟩;have u3:=(s1.trans s2).trans s3;show ifq rfl ?_;show A0 (SqT.of f1) (v:=tx [40,41]) rfl ?_;show IP (a:=rW) (b:=[40,41]) (λc d=> .int (if c=63\/c=d then 0 else 1)) rfl (small (by decide)) (λD H4 hD s4 h4=>?_) (λi c d T' H4 R hc hd s4 hT hR=>?_)
 ·have h4:H4 D=some (.lst (([1,1]:List Int).map V.int)):=h4;show Kx (SqL.of h4) ?_;show⟨small (show 2<=1000 by decide),λT' hT=>?_⟩;exact q T' _ ((u3.trans s4).trans (AI hT _)) AF
 ·show⟨T',_,rfl,SqT.of hT,rfl,?_⟩;show⟨c,d,rfl,λH5 s5=>?_⟩;ext;have eb:(if(!decide (c=63\/c=d))=true then(1:Int)else 0)=if c=63\/c=d then 0 else 1:=by
   by_cases z:c=63\/c=d
   ·rw[decide_eq_true z,if_pos z];rfl
   ·rw[decide_eq_false z,if_neg z];rfl
  rw[eb];exact hR H5 s5
theorem OZ:Aa P w K mg base (k+3) "filled" ["k","row"] (Nc cs):=FnA.uE (T.f.at 34) (scN ["k","row","places","sums"]) λnd _ _ _ _ _ _ _ _ _ hr h=>by
 refine⟨_,(AD (AM 2 (AL (EA T) hr (AA (pv 0) (AA (pv 1) AB)))) (AD (AM 3 (AL (EC T) hr (AA (pv 2) AB))) (AD (BC (Ak (MN T) hr BE (AA (pv 3) AB))) (AE (AK (Ad (AA (pv 2) (AA (pv 3) AB)))))))),?_⟩;obtain⟨kk,a,⟨rfl,h1,h2,ha⟩,h⟩:=h;have hl:=Ay ha;rcases h with⟨hc,r⟩|⟨hc,q⟩
 ·show DW h1 h2 hl (λr2 H2 hr2 s2 hP=>?_);show DX (k:=kk.toNat) hP (by rw[List.length_map];exact hl) (by lia) (DV (by lia)) (λs3 ad H3 tb=>?_);ext;exact⟨_,s3,ad,_,_,rfl,tb, .inr ⟨(FZ _ _).trans hc,r.pass (s2.trans tb.sm)⟩⟩
 ·show DW h1 h2 hl (λr2 H2 hr2 s2 hP=>?_);show DX (k:=kk.toNat) hP (by rw[List.length_map];exact hl) (by lia) (DV (by lia)) (λs3 ad H3 tb=>?_);show⟨_,s3,ad,_,_,rfl,tb, .inl ⟨λz=>hc ((FZ _ _).symm.trans z),?_⟩⟩;show⟨small (show 2<=1000 by decide),λT hT=>?_⟩;have t:=AI hT (.tup [.ref r2, .ref s3]);exact q T r2 s3 ad _ _ ((s2.trans tb.sm).trans t) AF ((hP.same tb.sm).same t) (tb.same t)
theorem MT:Aa P w K mg base (k+5) "sure_places" ["k","row"] (spSureN cs):=FnA.uE (T.f.at 35) (scN ["k","row","places","sums","in_all"]) λnd _ _ _ _ _ _ _ _ _ hr h=>by
 obtain⟨a,rfl,ha,h⟩:=h;have hl:=Ay ha;have hu:=hr.units0;refine⟨_,(AD (BC (Ak (B1 T) hr BE (AA (pv 0) (AA (pv 1) AB)))) (AD (BY (Ak (OZ T) hr BE (AA (pv 0) (AA (pv 1) AB))) (Bu (n:=2) K rfl (Ao (Af 2) (Ao (Af 3) Bi)))) (AD (CH (i:=4) nd rfl (Or.inr rfl) (AL (EB T) hr (AA (pv 3) AB))) (AE (AK (BA (own:=["at","manies"]) (sel:=[4,1]) (A2 (osc:=(AU (top 69))) (N:=["k","row","places","sums","in_all"]) (by decide +kernel)) rfl (OO K rfl (T.N 4) (AA (AL (MO T) hr (AA (pv 2) (AA (pv 3) AB))) AB)) (λ_ _ _ _ _=>(Bu (n:=2) K rfl (Ao (Ah (i:=0) (show(["at","manies","in_all","row"]:List Str).Nodup from by decide +kernel) rfl (Or.inl rfl)) (Ao (Ah (i:=1) (show(["at","manies","in_all","row"]:List Str).Nodup from by decide +kernel) rfl (Or.inl rfl)) Bi)))) (EX (CT Bj (ER Bj Cb) (Aq (by decide)) (CT Bj Cb (Aq (by decide)) EY))) (λ_ _ _ _ _=>Fg Pn) (λ_ _ _ _ _=>Ii))))))),?_⟩;show .inl (B2 (by decide) (by decide) ha (λH1 s1=>?_));ext;rcases h with⟨rfl,q⟩|⟨hc,r⟩
 rotate_left
 ·exact⟨2,a,⟨rfl,by decide,by decide,ha⟩, .inl ⟨hc,r.pass s1⟩⟩
 refine⟨2,[],⟨rfl,by decide,by decide,ha⟩, .inr ⟨by decide,λT p ss ad H0 H2 s2 gT hP tb=>?_⟩⟩;obtain⟨pa,hp0,_⟩:=id hP;show⟨T,_,rfl,SqT.of gT,rfl,?_⟩;show DU tb ?_;show⟨p,ss,rfl,hp0,λF0 H4 s4 g4=>?_⟩;show⟨F0,rfl,⟨_,SqL.of g4⟩,?_⟩;refine JE (λH' s'=>⟨_,SqL.of (s' _ _ g4),rfl⟩) (λD H5 hD s5 g5=>?_)
 first|exact q D H5 ((s1.trans s2).trans (s4.trans s5)) g5|(refine⟨⟨_,SqL.of (s5 _ _ g4),rfl⟩,?_⟩;exact q D H5 ((s1.trans s2).trans (s4.trans s5)) g5)
theorem Nt:FuV P w K mg base (k+1) "is_name" ["word"] (spIsName8):=FnA.u (T.f.at 36) (scN ["word"]) λnd _ _ _ _ _ H _ _ _ hr h=>by
 obtain⟨a,rfl,ha,q⟩:=h;have hu:=hr.units0;unfold isNm at q;refine⟨_,(AE (AK (F8 (P3 Cz Cz AC (Ar K (T.N 7) (AA (pv 0) AB)) (AY (T.g.at 12))) (Dq (Ag (Da K rfl) rfl (T.N 1) PyProof.Rows.boot_all (AA (BA (own:=["sign"]) (sel:=[]) (A2 (osc:=(AU (top 79))) (N:=["word"]) (by decide +kernel)) rfl (CY (pv 0)) (λ_ _ _ _ _=>(Ah (i:=0) (show(["sign"]:List Str).Nodup from by decide +kernel) rfl (Or.inl rfl))) (Aq (by decide)) (λ_ _ _ _ _=>A3) (λ_ _ _ _ _=>(BM (DF K) (pv 0) (AY (T.g.at 11)) (by with_unfolding_all rfl)))) AB)))))),?_⟩;show ifd (λh1=>?_) (λh1=>?_)
 ·show ifd (λh2=>?_) (λh2=>?_)
  ·show JD (small (by lia)) (λD i ys H'=>ys=((a.take i).map λc=>V.bl (decide (c∈ltr)))/\SameBut1 D H H') (λD hD=>⟨rfl,SameBut1.of (AI hD _)⟩) (λD ys H' hD hD' ⟨e,sH⟩=>?_) ?_
   ·rw[List.take_length]at e;subst e;have hS:SqL K H' D ((a.map λc=>decide (c∈ltr)).map V.bl):=by
     rw[List.map_map];exact SqL.of hD'
    show Dv hS ?_;have e2:((a.map λc=>decide (c∈ltr)).all id)=(decide (1<=a.length/\a.length<=8)&&a.all λc=>decide (c∈ltr)):=by
     rw[List.all_map,decide_eq_true (by lia),Bool.true_and];rfl
    rw[e2];exact q H' λb o z=>sH b o z (AQ z hD)
   ·rintro D i c ys H' hD ec hi hD' hl' ⟨e,sH⟩;show Ce ?_;show CA hi (small (by lia)) hD' hl' ⟨?_,sH.trans SameBut1.upd⟩;rw[e,List.take_add_one,ec];simp only[Option.toList_some,List.map_append,List.map_cons,List.map_nil]
    rfl
  ·have:=q H (Same.refl H);rw[decide_eq_false (by lia),Bool.false_and]at this;exact this
 ·have:=q H (Same.refl H);rw[decide_eq_false (by lia),Bool.false_and]at this;exact⟨false,rfl,this⟩
theorem Mt:FuV P w K mg base (k+1) "is_number" ["word"] (spIsNumber8):=FnA.u (T.f.at 37) (scN ["word"]) λnd _ _ _ _ _ H _ Q _ hr h=>by
 obtain⟨a,rfl,ha,q⟩:=h;have hu:=hr.units0;unfold Gd at q;have qno:¬ (1<=a.length/\a.length<=9)->Q (.bl false) H:=λz=>by
  have:=q H (Same.refl H);rw[decide_eq_false z,Bool.false_and,Bool.false_and]at this;exact this
 refine⟨_,(AD (AV (PW.pt (BL (BU (FM Cz Cz AC (Ar K (T.N 7) (AA (pv 0) AB)) (AY (T.g.at 14)))) (BX (BU (A5 K (Ag (Da K rfl) rfl (T.N 1) PyProof.Rows.boot_all (AA (BA (own:=["sign"]) (sel:=[]) (A2 (osc:=(AU (top 80))) (N:=["word"]) (by decide +kernel)) rfl (CY (pv 0)) (λ_ _ _ _ _=>(Ah (i:=0) (show(["sign"]:List Str).Nodup from by decide +kernel) rfl (Or.inl rfl))) (Aq (by decide)) (λ_ _ _ _ _=>A3) (λ_ _ _ _ _=>(BM (DF K) (pv 0) (AY (T.g.at 13)) (by with_unfolding_all rfl)))) AB))))))) (AE (AK Bp)) AX) (AE (AK (K8 (BM (Ax K hu) (Ar K (T.N 7) (AA (pv 0) AB)) AC) (Dq (BM (Ba K hu) (AH K (pv 0) AC) (pxt [48]))))))),?_⟩;show ifd (λh1=>?_) (λh1=>?_)
 ·ext
  by_cases h2:(a.length:Int)<=9
  ·refine ifq (by rw[decide_eq_true h2];rfl) ?_;show JD (small (by lia)) (λD i ys H'=>ys=((a.take i).map λc=>V.bl (decide (c∈fig)))/\SameBut1 D H H') (λD hD=>⟨rfl,SameBut1.of (AI hD _)⟩) (λD ys H' hD hD' ⟨e,sH⟩=>?_) ?_
   ·rw[List.take_length]at e;subst e;have hS:SqL K H' D ((a.map λc=>decide (c∈fig)).map V.bl):=by
     rw[List.map_map];exact SqL.of hD'
    have sG:Same H H':=λb o z=>sH b o z (AQ z hD);have q':=q H' sG;rw[decide_eq_true (show 1<=a.length/\a.length<=9 by lia),Bool.true_and]at q';show Dv hS ?_;have e2:((a.map λc=>decide (c∈fig)).all id)=(a.all λc=>decide (c∈fig)):=by
     rw[List.all_map];rfl
    rw[e2];ext
    cases e3:(a.all λc=>decide (c∈fig))with
    |false=>
     rw[e3,Bool.false_and]at q';refine ifp rfl ?_;ext;exact q'
    |true=>
     rw[e3,Bool.true_and]at q';refine ifq rfl ?_;show ifd (λhc=>?_) (λhc=>?_)
     ·rw[decide_eq_true (show a.length=1 by lia),Bool.true_or]at q';exact q'
     ·rw[decide_eq_false (show¬a.length=1 by lia),Bool.false_or]at q';have hp:0<a.length:=by lia
      show Bw (c:=a[0]) (small (by lia)) (by rw[QZ hp]) ?_;ext;have:(!decide ([a[0]]=[48]))= !decide (a[0]? =some 48):=by
       rw[List.getElem?_eq_getElem hp];congr 1;exact decide_eq_decide.mpr ⟨λz=>by rw[(List.cons.inj z).1],λz=>by rw[Option.some.inj z]⟩
      rw[this];exact q'
   ·rintro D i c ys H' hD ec hi hD' hl' ⟨e,sH⟩;show Ce ?_;show CA hi (small (by lia)) hD' hl' ⟨?_,sH.trans SameBut1.upd⟩;rw[e,List.take_add_one,ec];simp only[Option.toList_some,List.map_append,List.map_cons,List.map_nil]
    rfl
  ·refine ifp (by rw[decide_eq_false h2];rfl) ?_;ext;exact qno (by lia)
 ·ext;rw[if_pos (show(!false)=true from rfl),if_pos rfl];ext;exact qno (by lia)
theorem NL:FuV P w K mg base (k+2) "has_form" ["word","part"] (spHasForm8):=FnA.u (T.f.at 38) (scN ["word","part"]) λnd _ _ _ _ _ H _ _ _ hr h=>by
 obtain⟨a,p,rfl,ha,q⟩:=h;have hu:=hr.units0;unfold CN at q;refine⟨_,(AD (AV (AS (Ax K hu) (pv 1) (pxt [108,105,110,101])) (AE (AK Bp)) AX) (AE (AK (BK (AS (Ax K hu) (pv 1) (pxt [110,117,109,98,101,114])) (AL (Mt T) hr (AA (pv 0) AB)) (AL (Nt T) hr (AA (pv 0) AB)))))),?_⟩;show ifd (λh1=>?_) (λh1=>?_)
 ·rw[if_pos h1]at q;ext;exact q H (Same.refl H)
 ·rw[if_neg h1]at q;show ifd (λh2=>?_) (λh2=>?_)
  ·rw[if_pos h2]at q;ext;exact⟨a,rfl,ha,q⟩
  ·rw[if_neg h2]at q;ext;exact⟨a,rfl,ha,q⟩
theorem OY:FuV P w K mg base (k+1) "parted" ["text","form"] (spParted8 K):=FnA.u (T.f.at 39) (scN ["text","form"]) λnd _ _ _ _ _ H _ _ _ hr h=>by
 obtain⟨l,t,fm,rfl,hF,hm,hl,q⟩:=h;have hu:=hr.units0;have ht:SqT K H t (fm.map tx):=hF.sq;have hfl:(fm.map tx).all Am=true:=by rw[List.all_map,List.all_eq_true];intro x _;rfl
 refine⟨_,(AE (AK (BK (AS (DF K) (pxt [108,105,110,101]) (pv 1) (by with_unfolding_all rfl)) (BZ K PySem.F.plainAttrs_str PySem.F.slot_str_split PySem.F.type_str_split Il (pv 0) (AA (pxt [32]) (AA (Ar K (T.N 7) (AA (pv 1) AB)) AB))) (BZ K PySem.F.plainAttrs_str PySem.F.slot_str_split PySem.F.type_str_split Il (pv 0) (AA (pxt [32]) AB))))),?_⟩;show K0 (.inr ht) rfl hfl ?_;have ei:inV (tx CL) (fm.map tx)=decide (CL∈fm):=by
  exact Kb CL fm
 rw[ei];show ifd (λhc=>?_) (λhc=>?_)
 ·show BS (.inr ht) ?_;rw[List.length_map];show Pd (by lia) (by lia) (by lia) (λp hp=>?_);rw[Int.toNat_natCast];refine q p _ hp (AI hp _) ?_;unfold wds;rw[if_pos hc];exact AF
 ·show Qn (by lia) (λp hp=>?_);refine q p _ hp (AI hp _) ?_;unfold wds;rw[if_neg hc];exact AF
theorem MY:FuV P w K mg base (k+3) "known_words" ["thing"] (Pa K):=FnA.u (T.f.at 40) (scN ["thing","first","form","words"]) λnd _ _ _ _ _ H vs Q _ hr h=>by
 have hu:=hr.units0;obtain⟨FK,hFK,hF,hN⟩:=T.F;have h9:∃v,vs=[v]/\((∃l,v=tx l/\l.length<=1000/\(∀d ar,knw l=some (d,ar)->∀p H',H p=none->Same H H'->H' p=some (.lst ((d.word::ar).map tx))->Q (.ref p) H')/\(knw l=none->∀H',Same H H'->Q .non H'))\/((∃ty,TyOf K H v (.type ty)/\ty∈B7/\ty≠"str")/\Q .non H)):=by
  rcases h with⟨l,d,ar,rfl,hl,hk,q⟩|⟨v,rfl,⟨l,rfl,hl,hk⟩|hty,q⟩
  ·exact⟨_,rfl, .inl ⟨l,rfl,hl,λd' ar' e=>(by rw[hk]at e;cases e;exact q),λe=>(by rw[hk]at e;cases e)⟩⟩
  ·exact⟨_,rfl, .inl ⟨l,rfl,hl,λd' ar' e=>(by rw[hk]at e;cases e),λ_=>q⟩⟩
  ·exact⟨_,rfl, .inr ⟨hty,q H (Same.refl H)⟩⟩
 obtain⟨v,e0,h8⟩:=h9;clear h;subst e0;refine⟨_,(AD (AV (BU (A5 K (Ag (DC K) rfl (T.N 6) PyProof.Rows.boot_isinstance (AA (pv 0) (AA (DJ (T.N 14) PyProof.Rows.boot_str) AB))))) (AE (AK Ae)) AX) (AD (AM 1 (AH K (BZ K PySem.F.plainAttrs_str PySem.F.slot_str_partition PySem.F.type_str_partition Rf (pv 0) (AA (pxt [32]) AB)) AC)) (AD (AV (KR (Nl P w K (pv 1) (AY (T.g.at 15))) (by with_unfolding_all rfl)) (AE (AK Ae)) AX) (AD (AM 2 (F7 P w K (AY (T.g.at 15)) (pv 1))) (AD (AM 3 (AL (OY T) hr (AA (pv 0) (AA (pv 2) AB)))) (AD (AV (AS (Ba K hu) (Ar K (T.N 7) (AA (pv 3) AB)) (AJ AO (Ar K (T.N 7) (AA (pv 2) AB)) AC)) (AE (AK Ae)) AX) (AE (AK (BK (A5 K (Ag (Da K rfl) rfl (T.N 1) PyProof.Rows.boot_all (AA (BA (own:=["word","part"]) (sel:=[]) (A2 (osc:=(AU (top 83))) (N:=["thing","first","form","words"]) (by decide +kernel)) rfl (Jh K rfl (T.N 16) (AA (BP (BW K) (pv 3) (BQ AC) BR) (AA (pv 2) AB))) (λ_ _ _ _ _=>(Bu (n:=2) K rfl (Ao (Ah (i:=0) (show(["word","part"]:List Str).Nodup from by decide +kernel) rfl (Or.inl rfl)) (Ao (Ah (i:=1) (show(["word","part"]:List Str).Nodup from by decide +kernel) rfl (Or.inl rfl)) Bi)))) (EX (CT Bj (ER Bj Cb) (Aq (by decide)) (CT Bj Cb (Aq (by decide)) EY))) (λ_ _ _ _ _=>A3) (λ_ _ _ _ _=>(AL (NL T) hr (AA (pv 0) (AA (pv 1) AB))))) AB))) (pv 3) Ae))))))))),?_⟩;ext;rcases h8 with⟨l,rfl,hsz,q,q0⟩|⟨⟨ty,hT,hp,hs⟩,q⟩
 rotate_left
 ·refine BV (b:=false) hT (by
   have:ty="NoneType"\/ty="bool"\/ty="int"\/ty="str"\/ty="list"\/ty="tuple"\/ty="dict":=by simpa[B7]using hp
   rcases this with rfl|rfl|rfl|rfl|rfl|rfl|rfl<;>first|exact absurd rfl hs|with_unfolding_all rfl) ?_
  show ifp rfl ?_;ext;exact q
 refine BV (b:=true) (TyOf.str _) (by with_unfolding_all rfl) ?_;show ifq rfl ?_;show Qq (by lia) (Hv l) (λp v u hp=>?_);ext;have s1:=AI hp (.tup [tx (Bq l),v,u]);refine A0 (SqT.of AF) rfl ?_;generalize upd H p _=H1 at*
 show⟨aF,FK,kyT (Bq l),rfl,hFK,rfl,?_⟩;ext
 cases ed:D15.of (Bq l)with
 |none=>
  refine ifp (by rw[hN _ ed];rfl) ?_;ext;exact q0 (by unfold knw;rw[ed]) H1 s1
 |some d=>
 have ew:=Jn ed;obtain⟨t,hv,hT⟩:=hF d;rw[ew]at hv;refine ifq (by rw[hv];rfl) ?_;show⟨aF,FK,kyT (Bq l),_,rfl,hFK,rfl,hv,?_⟩;ext;have hln:=d.len;refine⟨l,t,d.form,rfl,hT,by lia,hsz,λp2 H2 hp2 s2 hl2=>?_⟩;have ek:knw l=if(wds l d.form).tail.length=d.form.length/\(((wds l d.form).tail).zip d.form).all (λx=>CN x.1 x.2)=true then some (d,(wds l d.form).tail)else none:=by
  show(match D15.of (Bq l)with|none=>none|some d=>_)=_;rw[ed]
 have hwl:(wds l d.form).tail.length<=1001:=by
  have:(wds l d.form).length<=l.length+1:=by unfold wds;split<;>exact Df _ _ _
  rw[List.length_tail];lia
 have hea:∀a∈(wds l d.form).tail,a.length<=1000:=λa ha=>Nat.le_trans (IM (List.mem_of_mem_tail ha)) hsz;rw[IN]at hl2;rw[<-ew]at hl2;generalize(wds l d.form).tail=args at*
 show BS (.inl (SqL.of hl2)) ?_;show BS (.inr hT.sq) ?_;ext
 by_cases hlen:args.length=d.form.length
 rotate_left
 ·refine ifp (by rw[decide_eq_false];rfl;simp only[List.length_map,List.length_cons];lia) ?_;ext;exact q0 (by rw[ek,if_neg (λz=>hlen z.1)]) H2 (s1.trans s2)
 refine ifq (by rw[decide_eq_true];rfl;simp only[List.length_map,List.length_cons];lia) ?_;show GO (SqL.of hl2) (λz hz=>?_);have ez:C6 ((d.word::args).map tx) (some 1) none=args.map tx:=JB _ _;rw[ez];have s3:=AI hz (.lst (args.map tx));have hz3:(upd H2 z (.lst (args.map tx))) z=some (.lst (args.map tx)):=AF;have hz2:H z=none:=s1.free (s2.free hz);generalize upd H2 z _=H3 at*
 have hl3:=s3 _ _ hl2;show⟨z,t,_,_,rfl,hz3,hT,?_⟩;refine O5 (by rw[List.length_map,List.length_map];lia) (λD i ys H'=>ys=(((args.zip d.form).take i).map λx=>CN x.1 x.2).map V.bl/\SameBut1 D H3 H') (λD i ys H' hD ⟨_,sH⟩=>sH _ _ hz3 (AQ hz3 hD)) (λD hD=>⟨rfl,SameBut1.of (AI hD _)⟩) (λD ys H' hD hD' ⟨e,sH⟩=>?_) ?_
 ·have e0:(args.zip d.form).take ((args.map tx).length)=args.zip d.form:=List.take_of_length_le (by rw[List.length_zip,List.length_map];lia);rw[e0]at e;subst e;show Dv (SqL.of hD') ?_;have e2:(((args.zip d.form).map λx=>CN x.1 x.2).all id)=(args.zip d.form).all λx=>CN x.1 x.2:=by rw[List.all_map];rfl
  rw[e2];have sG:Same H3 H':=λb o y=>sH b o y (AQ y hD);ext
  cases e3:(args.zip d.form).all λx=>CN x.1 x.2 with
  |true=>
   refine ifp rfl ?_;ext;exact q d args (by rw[ek,if_pos ⟨hlen,e3⟩]) p2 H' (s1.free hp2) (((s1.trans s2).trans s3).trans sG) (sG _ _ hl3)
  |false=>
   refine ifq rfl ?_;ext;exact q0 (by rw[ek,if_neg (λz=>by rw[e3]at z;cases z.2)]) H' (((s1.trans s2).trans s3).trans sG)
 ·rintro D i c dv T' ys H4 H5 hD hc hdv hi hD' hl' ⟨e,sH⟩ s5 hT';obtain⟨a,ha,rfl⟩:∃a,args[i]? =some a/\tx a=c:=by
   rw[List.getElem?_map]at hc;obtain⟨a,h1,h2⟩:=Option.map_eq_some_iff.mp hc;exact⟨a,h1,h2⟩
  obtain⟨pp,hpp,rfl⟩:∃a,d.form[i]? =some a/\tx a=dv:=by
   rw[List.getElem?_map]at hdv;obtain⟨a,h1,h2⟩:=Option.map_eq_some_iff.mp hdv;exact⟨a,h1,h2⟩
  refine EW (SqT.of hT') rfl ?_;show Ce ?_;show⟨a,pp,rfl,hea a (List.mem_of_getElem? ha),λH6 s6=>?_⟩;refine CA hi (small (by rw[List.length_map];lia)) (s6 _ _ hD') hl' ⟨?_,?_⟩
  ·have ez2:(args.zip d.form)[i]? =some (a,pp):=by rw[List.getElem?_zip_eq_some];exact⟨ha,hpp⟩
   rw[e,List.take_add_one,ez2];simp only[Option.toList_some,List.map_append,List.map_cons,List.map_nil]
  ·exact((sH.trans (SameBut1.of (s5.trans s6))).trans SameBut1.upd)
theorem Mn:FuV P w K mg base (k+1) "yes_or_no" ["truth"] (spYesNo):=FnA.u (T.f.at 41) (scN ["truth"]) λnd _ _ _ _ _ _ _ _ _ _ h=>by
 obtain⟨b,rfl,q⟩:=h;refine⟨_,(AE (AK (BK (A5 K (pv 0)) (pxt [121,101,115]) (pxt [110,111])))),?_⟩;ext
 cases b with
 |true=>
  refine ifp rfl ?_;ext;exact q
 |false=>
  refine ifq rfl ?_;ext;exact q
theorem EJ:FuV P w K mg base (k+1) "shown" ["row"] (spShown):=FnA.u (T.f.at 42) (scN ["row"]) λnd _ _ _ _ _ _ _ _ _ hr h=>by
 obtain⟨a,rfl,hl,q⟩:=h;have hu:=hr.units0;refine⟨_,(AE (AK (BK (A5 K (pv 0)) (pv 0) (AY (T.g.at 9))))),?_⟩;show SH (small hl) ?_
 by_cases e:a=[]
 ·rw[decide_eq_true e];refine ifq rfl ?_;ext;rw[shw,if_pos e]at q;exact q
 ·rw[decide_eq_false e];refine ifp rfl ?_;ext;rw[shw,if_neg e]at q;exact q
theorem Mq:Aa P w K mg base (k+3) "say_kinds" ["desk","words"] (spSayKinds cs aE):=FnA.uE (T.f.at 43) (scN ["desk","words","k"]) λnd _ _ _ _ _ H _ _ _ hr h=>by
 have hu:=hr.units0;have hu2:=A4 hr;refine⟨_,(AD (AM 2 (Bh IF rfl (T.N 5) PyProof.Rows.boot_int (AA (AH K (pv 1) AC) AB))) (AD (BC (Ak (Gr T) hr BE (AA (pv 2) AB))) (AD (CC K (pv 0) (pv 2)) (AD (CC K (pv 0) FP) (AE (AK (AY (T.g.at 8)))))))),?_⟩;obtain⟨d,ws,r,k,kvs,n,rfl,hd,hw,hn,h⟩:=h;have hu:=hr.units0;have hu2:=A4 hr;obtain⟨⟨dx,e1⟩,e2⟩:=id hd;have hdr:=hd.ne;rcases h with⟨n1,n4,q⟩|⟨hn',rf⟩
 ·show AN (SqL.of hw) rfl ?_;show F5 (by lia) ?_;show .inl (Hr (by lia) (by lia) ?_);show⟨d,aE,dx,_,rfl,e1,T.E.cl,(T.E.at 0),by show 2<1000;decide,?_⟩;ext;intro r' hr';ext;have hH:H r'=none:=by
   by_cases z:r'=d
   ·subst z;rw[AF]at hr';cases hr'
   ·rwa[AG z]at hr'
  have hne:d≠r':=λz=>by rw[z,hH]at e1;cases e1
  refine⟨d,aE,dx,_,rfl,by rw[AG hne];exact AF,T.E.cl,(T.E.at 1),by show 2<1000;decide,?_⟩;show q r' _ hH (((FB.refl _ _).atU (by simp)).new hH|>.atU (by simp)) ⟨⟨dx,?_⟩,?_⟩
  ·rw[AF];rfl
  ·rw[AG hne.symm];exact AF
 ·show AN (SqL.of hw) rfl ?_;show F5 (by lia) ?_;ext;exact .inr ⟨_,rfl,⟨"int",TyOf.int _,by decide,λi hi=>by cases hi;lia⟩,rf.pass (Same.refl H)⟩
theorem Nn:Aa P w K mg base (k+5) "say_row" ["desk","words"] (spSayRow8 cs aE):=FnA.uE (T.f.at 44) (scN ["desk","words"]) λnd _ _ _ _ _ H _ _ _ hr h=>by
 have hu:=hr.units0;have hu2:=A4 hr;refine⟨_,(AD (BC (Ak (B1 T) hr BE (AA (Ac K (pv 0)) (AA (AH K (pv 1) AC) AB)))) (AD (Fe hu2 (Ac K (pv 0)) (AH K (pv 1) AC) (AH K (pv 1) AC) rfl) (AE (AK (AY (T.g.at 8)))))),?_⟩;obtain⟨d,ws,r,k,kvs,nm,a,rfl,hd,k1,k4,hl,hw,ha,h⟩:=h;have hu:=hr.units0;have hu2:=A4 hr;obtain⟨⟨dx,e1⟩,e2⟩:=id hd;have hdr:=hd.ne;rcases h with⟨hro,q⟩|⟨hro,rf⟩
 ·show T.E.fl 0 e1 ?_;show AN (SqL.of hw) rfl ?_;show .inl (B2 k1 k4 hro (λH1 s1=>?_));show AN (SqL.of (s1 _ _ hw)) rfl ?_;show T.E.fl 1 (s1 _ _ e1) ?_;show AN (SqL.of (s1 _ _ hw)) rfl ?_;show⟨r,_,rfl,DPut.k (k:=kyT nm) (s1 _ _ e2) (by rw[sizeLine_eq];lia),?_⟩;ext;exact q _ (((FB.refl _ _).s s1).atU (by simp)) ⟨⟨dx,by rw[AG hdr];exact s1 _ _ e1⟩,AF⟩
 ·show T.E.fl 0 e1 ?_;show AN (SqL.of hw) rfl ?_;ext;exact .inr ⟨_,_,rfl, .inr ⟨k,rfl,k1,k4, .inl ⟨a,rfl,by lia,hro⟩,rf.pass (Same.refl H)⟩⟩
theorem M8:Aa P w K mg base (k+1) "say_turn" ["desk","words"] (Ej):=FnA.uE (T.f.at 45) (scN ["desk","words"]) λ_ _ _ _ _ _ _ _ _ _ _ h=>h.elim
theorem Mg:Aa P w K mg base (k+5) "say_behind" ["desk","words"] (spSayBehind cs aE):=FnA.uE (T.f.at 46) (scN ["desk","words","both"]) λnd _ _ _ _ _ H _ _ _ hr h=>by
 have hu:=hr.units0;have hu2:=A4 hr;refine⟨_,(AD (AM 2 (AJ AO (Bx hu2 (Ac K (pv 0)) (AH K (pv 1) AC)) (Bx hu2 (Ac K (pv 0)) (AH K (pv 1) AC)))) (AD (BC (Ak (B1 T) hr BE (AA (Ac K (pv 0)) (AA (pv 2) AB)))) (AD (Fe hu2 (Ac K (pv 0)) (AH K (pv 1) AC) (pv 2) rfl) (AE (AK (AY (T.g.at 8))))))),?_⟩;obtain⟨d,ws,r,k,kvs,nm,one,two,a,b,rfl,hd,k1,k4,hl,hw,hv,hv2,ha,hb,h⟩:=h;have hu:=hr.units0;have hu2:=A4 hr;obtain⟨⟨dx,e1⟩,e2⟩:=id hd;have hdr:=hd.ne;have el:(a++b).length<=80:=by rw[List.length_append];lia
 rcases h with⟨hro,q⟩|⟨hro,rf⟩
 ·show T.E.fl 1 e1 ?_;show AN (SqL.of hw) rfl ?_;show⟨r,_,rfl,by rw[<-hv];exact DGet.k (k:=kyT one) e2,?_⟩;show T.E.fl 1 e1 ?_;show AN (SqL.of hw) rfl ?_;show⟨r,_,rfl,by rw[<-hv2];exact DGet.k (k:=kyT two) e2,?_⟩;show T.E.fl 0 e1 ?_;show .inl (B2 k1 k4 hro (λH1 s1=>?_));show T.E.fl 1 (s1 _ _ e1) ?_;show AN (SqL.of (s1 _ _ hw)) rfl ?_;show⟨r,_,rfl,DPut.k (k:=kyT nm) (s1 _ _ e2) (by rw[sizeLine_eq];lia),?_⟩;ext;exact q _ (((FB.refl _ _).s s1).atU (by simp)) ⟨⟨dx,by rw[AG hdr];exact s1 _ _ e1⟩,AF⟩
 ·show T.E.fl 1 e1 ?_;show AN (SqL.of hw) rfl ?_;show⟨r,_,rfl,by rw[<-hv];exact DGet.k (k:=kyT one) e2,?_⟩;show T.E.fl 1 e1 ?_;show AN (SqL.of hw) rfl ?_;show⟨r,_,rfl,by rw[<-hv2];exact DGet.k (k:=kyT two) e2,?_⟩;show T.E.fl 0 e1 ?_;ext;exact .inr ⟨_,_,rfl, .inr ⟨k,rfl,k1,k4, .inl ⟨a++b,rfl,by lia,hro⟩,rf.pass (Same.refl H)⟩⟩
theorem ND:Aa P w K mg base (k+1) "say_drop" ["desk","words"] (spSayDrop aE):=FnA.uE (T.f.at 47) (scN ["desk","words"]) λnd _ _ _ _ _ _ _ _ _ hr h=>by
 obtain⟨d,ws,r,k,kvs,one,v,rfl,hd,hw,hv,q⟩:=h;have hu:=hr.units0;have hu2:=A4 hr;obtain⟨⟨dx,e1⟩,e2⟩:=id hd;have hdr:=hd.ne;refine Bc ⟨_,(AD (BC (Pz (Ac K (pv 0)) (AH K (pv 1) AC) ⟨rfl,rfl,rfl,rfl⟩)) (AE (AK (AY (T.g.at 8))))),?_⟩;show T.E.fl 1 e1 ?_;refine⟨r,rfl, .inl ⟨kvs, .inl e2⟩,?_⟩;show AN (SqL.of hw) rfl ?_;refine⟨kvs,kyT one,v,e2,rfl,hv,?_⟩;ext;exact q _ ((FB.refl _ _).atU (by simp)) ⟨⟨dx,by rw[AG hdr];exact e1⟩,AF⟩
theorem NA:Aa P w K mg base (k+2) "say_show" ["desk","words"] (spSayShow aE):=FnA.uE (T.f.at 48) (scN ["desk","words"]) λnd _ _ _ _ _ H _ _ _ hr h=>by
 obtain⟨d,ws,r,k,kvs,one,a,rfl,hd,hw,hv,hl,q⟩:=h;have hu:=hr.units0;have hu2:=A4 hr;obtain⟨⟨dx,e1⟩,e2⟩:=id hd;have hdr:=hd.ne;refine Bc ⟨_,(AE (AK (AL (EJ T) hr (AA (Bx hu2 (Ac K (pv 0)) (AH K (pv 1) AC)) AB)))),?_⟩;show T.E.fl 1 e1 ?_;show AN (SqL.of hw) rfl ?_;show⟨r,_,rfl,by rw[<-hv];exact DGet.k (k:=kyT one) e2,?_⟩;ext;exact⟨a,rfl,hl,q H (Same.refl H)⟩
theorem Mo:Aa P w K mg base (k+1) "say_right" ["desk","words"] (Ej):=FnA.uE (T.f.at 49) (scN ["desk","words"]) λ_ _ _ _ _ _ _ _ _ _ _ h=>h.elim
theorem Nq:Aa P w K mg base (k+7) "say_may" ["desk","words"] (spMay9 aE):=FnA.uE (T.f.at 50) (scN ["desk","words"]) λnd _ _ _ _ _ _ _ _ _ hr h=>by
 obtain⟨d,ws,r,kvs,one,h,q⟩:=h;obtain⟨rfl,hd,hw,hv,ha⟩:=h;have hu:=hr.units0;have hu2:=A4 hr;obtain⟨⟨dx,e1⟩,e2⟩:=id hd;refine Bc ⟨_,(AE (AK (AL (Mn T) hr (AA (Ak (Ms T) hr Bv (AA (Ac K (pv 0)) (AA (Bx hu2 (Ac K (pv 0)) (AH K (pv 1) AC)) AB))) AB)))),?_⟩;show T.E.fl 0 e1 ?_;show T.E.fl 1 e1 ?_;show AN (SqL.of hw) rfl ?_;show⟨r,_,rfl,by rw[<-hv];exact DGet.k (k:=kyT one) e2,?_⟩;show⟨rfl,λH1 s1=>?_⟩;ext;exact⟨_,rfl,q H1 s1⟩
theorem NC:Aa P w K mg base (k+6) "say_many" ["desk","words"] (spMany9 aE):=FnA.uE (T.f.at 51) (scN ["desk","words"]) λnd _ _ _ _ _ _ _ _ _ hr h=>by
 obtain⟨d,ws,r,kvs,one,a,h,q⟩:=h;obtain⟨rfl,hd,hw,hv,ha⟩:=h;have hu:=hr.units0;have hu2:=A4 hr;obtain⟨⟨dx,e1⟩,e2⟩:=id hd;refine Bc ⟨_,(AE (AK (Bh FE rfl (T.N 14) PyProof.Rows.boot_str (AA (Ak (NK T) hr Bv (AA (Ac K (pv 0)) (AA (Bx hu2 (Ac K (pv 0)) (AH K (pv 1) AC)) AB))) AB)))),?_⟩;show T.E.fl 0 e1 ?_;show T.E.fl 1 e1 ?_;show AN (SqL.of hw) rfl ?_;show⟨r,_,rfl,by rw[<-hv];exact DGet.k (k:=kyT one) e2,?_⟩;ext;obtain⟨cn,cl⟩:=Rv (k:=2) (by decide) (Ay ha);refine⟨a,rfl,ha,λH1 s1=>?_⟩;rw[<-cn];ext;exact KO cl (q H1 s1)
theorem Np:Aa P w K mg base (k+6) "say_nth" ["desk","words"] (spNth9 cs aE):=FnA.uE (T.f.at 52) (scN ["desk","words"]) λnd _ _ _ _ _ H _ _ _ hr h=>by
 obtain⟨d,ws,r,kvs,one,a,n,h,hn,q⟩:=h;obtain⟨rfl,hd,hw,hv,ha⟩:=h;have hu:=hr.units0;have hu2:=A4 hr;obtain⟨⟨dx,e1⟩,e2⟩:=id hd;refine⟨_,(AE (AK (AL (EJ T) hr (AA (Ak (MV T) hr BE (AA (Ac K (pv 0)) (AA (Bx hu2 (Ac K (pv 0)) (AH K (pv 1) AC)) (AA (Bh IF rfl (T.N 5) PyProof.Rows.boot_int (AA (AH K (pv 1) AC) AB)) AB)))) AB)))),?_⟩;show T.E.fl 0 e1 ?_;show T.E.fl 1 e1 ?_;show AN (SqL.of (hw)) rfl ?_;show⟨r,_,rfl,by rw[<-hv];exact DGet.k (k:=kyT one) (e2),?_⟩;show AN (SqL.of hw) rfl ?_;show F5 (by lia) ?_;ext;rcases q with⟨rfl,rfl,q⟩|⟨hc,rf⟩
 ·refine⟨[],0,rfl,ha, .inl ⟨rfl,rfl,λH1 s1=>?_⟩⟩;ext;exact⟨_,rfl,by decide,q H1 s1⟩
 ·exact⟨a,n,rfl,ha, .inr ⟨hc,rf.pass (Same.refl H)⟩⟩
theorem Me:Aa P w K mg base (k+8) "say_number" ["desk","words"] (spNumber9 cs aE):=FnA.uE (T.f.at 53) (scN ["desk","words"]) λnd _ _ _ _ _ H _ _ _ hr h=>by
 obtain⟨d,ws,r,kvs,one,a,b,h,hb,q⟩:=h;obtain⟨rfl,hd,hw,hv,ha⟩:=h;have hu:=hr.units0;have hu2:=A4 hr;obtain⟨⟨dx,e1⟩,e2⟩:=id hd;refine⟨_,(AD (BC (Ak (B1 T) hr BE (AA (Ac K (pv 0)) (AA (AH K (pv 1) AC) AB)))) (AE (AK (Bh FE rfl (T.N 14) PyProof.Rows.boot_str (AA (Ak (Mr T) hr BE (AA (Ac K (pv 0)) (AA (Bx hu2 (Ac K (pv 0)) (AH K (pv 1) AC)) (AA (AH K (pv 1) AC) AB)))) AB))))),?_⟩;show T.E.fl 0 e1 ?_;show AN (SqL.of hw) rfl ?_;ext;rcases q with⟨hb1,rf⟩|⟨hb1,hf,rf⟩
 ·exact .inr ⟨_,_,rfl, .inr ⟨2,rfl,by decide,by decide, .inl ⟨b,rfl,by lia,hb1⟩,rf.pass (Same.refl H)⟩⟩
 refine .inl (B2 (by decide) (by decide) hb1 (λH1 s1=>?_));show T.E.fl 0 (s1 _ _ e1) ?_;show T.E.fl 1 (s1 _ _ e1) ?_;show AN (SqL.of (s1 _ _ hw)) rfl ?_;show⟨r,_,rfl,by rw[<-hv];exact DGet.k (k:=kyT one) (s1 _ _ e2),?_⟩;show AN (SqL.of (s1 _ _ hw)) rfl ?_;ext;exact⟨a,b,rfl,ha,hb1,hf,rf.pass s1⟩
theorem M9:Aa P w K mg base (k+6) "say_sure" ["desk","words"] (spSure9 cs aE):=FnA.uE (T.f.at 54) (scN ["desk","words","row","signs","at","bracket"]) λnd _ _ _ _ _ H _ _ _ hr h=>by
 obtain⟨d,ws,r,kvs,one,a,h,q⟩:=h;obtain⟨rfl,hd,hw,hv,ha⟩:=h;have hu:=hr.units0;have hu2:=A4 hr;obtain⟨⟨dx,e1⟩,e2⟩:=id hd;have hl:=Ay ha;refine⟨_,(AD (AM 2 (Bx hu2 (Ac K (pv 0)) (AH K (pv 1) AC))) (AD (AM 3 (Bh (N6 K rfl) rfl (T.N 8) PyProof.Rows.boot_list (AA (pv 2) AB))) (AD (BI PassesOwn.leaving rfl (B6 K (Ak (MT T) hr BE (AA (Ac K (pv 0)) (AA (pv 2) AB)))) (Bu (n:=2) K rfl (Ao (Af 4) (Ao (Af 5) Bi))) (AE (BY (pv 5) (CI (pv 3) (pv 4) B4)))) (AE (AK (AL (EJ T) hr (AA (BZ K PySem.F.plainAttrs_str PySem.F.slot_str_join PySem.F.type_str_join (Fl K) (pxt []) (AA (pv 3) AB)) AB))))))),?_⟩;show T.E.fl 1 e1 ?_;show AN (SqL.of hw) rfl ?_;show⟨r,_,rfl,by rw[<-hv];exact DGet.k (k:=kyT one) e2,?_⟩;show Qt (by lia) (λsg hsg=>?_);have s1:=AI hsg (.lst ((a.map λc=>[c]).map tx));have h1:(upd H sg (.lst ((a.map λc=>[c]).map tx))) sg=some (.lst ((a.map λc=>[c]).map tx)):=AF;generalize upd H sg _=H1 at*
 show T.E.fl 0 (s1 _ _ e1) ?_;ext;rcases q with⟨rfl,q⟩|⟨hc,rf⟩
 rotate_left
 ·exact⟨a,rfl,ha, .inr ⟨hc,rf.pass s1⟩⟩
 refine⟨[],rfl,ha, .inl ⟨rfl,λD H2 s2 hD2=>?_⟩⟩;have h2:=s2 _ _ h1;show⟨D,rfl,⟨_,SqL.of hD2⟩,?_⟩;refine unr 0 ⟨⟨_,SqL.of hD2,Nat.le_refl 0⟩,?_⟩;show F4 (xss:=[]) (SqL.of h2) (by decide) ?_;ext;exact⟨_,rfl,by decide,q H2 (s1.trans s2)⟩
theorem Mf:Aa P w K mg base (k+6) "say_fewest" ["desk","words"] (spSayFew9 aE):=FnA.uE (T.f.at 55) (scN ["desk","words","found"]) λnd _ _ _ _ _ _ _ _ _ hr h=>by
 obtain⟨d,ws,r,kvs,one,h,q⟩:=h;obtain⟨rfl,hd,hw,hv,ha⟩:=h;have hu:=hr.units0;have hu2:=A4 hr;obtain⟨⟨dx,e1⟩,e2⟩:=id hd;refine Bc ⟨_,(AD (AM 2 (Ak (MJ T) hr Bv (AA (Ac K (pv 0)) (AA (Bx hu2 (Ac K (pv 0)) (AH K (pv 1) AC)) AB)))) (AE (AK (BK (AS Bb (pv 2) Ae) (AY (T.g.at 9)) (Py (KY (AH K (pv 2) AC)) (pxt [32]) (KY (AL (EJ T) hr (AA (AH K (pv 2) AC) AB)))))))),?_⟩;show T.E.fl 0 e1 ?_;show T.E.fl 1 e1 ?_;show AN (SqL.of (hw)) rfl ?_;show⟨r,_,rfl,by rw[<-hv];exact DGet.k (k:=kyT one) (e2),?_⟩;show⟨rfl,λT1 H1 s1 f1=>?_⟩;show ifq rfl ?_;show A0 (SqT.of f1) rfl ?_;refine .inl ⟨2,rfl,by decide +kernel,_,rfl,?_,?_⟩
 ·exact Nat.le_trans (Ik 8 _ (by decide)) (by lia)
 show⟨_,rfl,by decide,?_⟩;show A0 (SqT.of f1) rfl ?_;show⟨_,rfl,by decide, .inr ⟨_,rfl,by decide,_,rfl,by decide,?_⟩⟩;exact q H1 s1
theorem NB:Aa P w K mg base (k+7) "say_more" ["desk","words"] (spMore9 aE):=FnA.uE (T.f.at 56) (scN ["desk","words","found"]) λnd _ _ _ _ _ _ _ _ _ hr h=>by
 obtain⟨d,ws,r,kvs,one,h,q⟩:=h;obtain⟨rfl,hd,hw,hv,ha⟩:=h;have hu:=hr.units0;have hu2:=A4 hr;obtain⟨⟨dx,e1⟩,e2⟩:=id hd;refine Bc ⟨_,(AD (AM 2 (Ak (MZ T) hr Bv (AA (Ac K (pv 0)) (AA (Bx hu2 (Ac K (pv 0)) (AH K (pv 1) AC)) AB)))) (AE (AK (BK (AS Bb (pv 2) Ae) (AY (T.g.at 9)) (Bh FE rfl (T.N 14) PyProof.Rows.boot_str (AA (pv 2) AB)))))),?_⟩;show T.E.fl 0 e1 ?_;show T.E.fl 1 e1 ?_;show AN (SqL.of hw) rfl ?_;show⟨r,_,rfl,by rw[<-hv];exact DGet.k (k:=kyT one) e2,?_⟩;show⟨rfl,λH1 s1=>?_⟩;show ifq rfl ?_;ext;exact KO (n:=40) (by decide +kernel) (q H1 s1)
theorem Mp:Aa P w K mg base (k+1) "say_names" ["desk","words"] (spSayNames aE):=FnA.uE (T.f.at 57) (scN ["desk","words"]) λnd _ _ _ _ _ H _ _ _ hr h=>by
 obtain⟨d,ws,r,k,kvs,ns,rfl,hd,hs,h8,q⟩:=h;have hu:=hr.units0;have hu2:=A4 hr;obtain⟨⟨dx,e1⟩,e2⟩:=id hd;have hdr:=hd.ne;refine Bc ⟨_,(AE (AK (BK (A5 K (Ac K (pv 0))) (BZ K PySem.F.plainAttrs_str PySem.F.slot_str_join PySem.F.type_str_join (QA K) (pxt [32]) (AA (Ag (HY K rfl) rfl (T.N 13) PyProof.Rows.boot_sorted (AA (Ac K (pv 0)) AB)) AB)) (AY (T.g.at 9))))),?_⟩;show T.E.fl 1 e1 ?_;refine⟨_, .inr (.inr ⟨kvs,e2,rfl⟩),?_⟩;obtain⟨ss,hk,h64,hp,hso⟩:=id hs;have hne:ns=[]↔kvs=[]:=by
  have l1:=hp.length_eq;have l2:=congrArg List.length hk;rw[List.length_map,List.length_map]at l2;unfold C5 at l1;rw[List.length_map]at l1;rw[<-List.length_eq_zero_iff,<-List.length_eq_zero_iff,l1,l2]
 by_cases z:kvs=[]
 ·rw[List.isEmpty_iff.mpr z];refine ifq rfl ?_;ext;have:=q H (Same.refl H);rw[wrt,if_pos (hne.mpr z)]at this;exact this
 ·refine ifp (by rw[Bool.not_eq_true',List.isEmpty_eq_false_iff];exact z) ?_;show T.E.fl 1 e1 ?_;show⟨r,kvs,ss,rfl, .inl e2,hk,h64,λp ts hpp hpt hst=>?_⟩;have hts:=hs.uniq hk hpt hst;subst hts;rw[JQ];ext;have hl:=hs.len;have h9:=LI h8;refine Qv (by decide) (SqL.of AF) (by lia) ?_;have:=q _ (AI hpp (.lst (ns.map tx)));rw[wrt,if_neg (λy=>z (hne.mp y))]at this;exact this
theorem Gn:MkV P w K mg base (k+2) aE ["self"] (spDkInit aE):=MtA.m (T.m.at 2) T.E (scN ["self"]) λnd _ _ _ _ _ H _ _ _ hr h=>by
 obtain⟨d,dx,rfl,hd,q⟩:=h;have hu:=hr.units0;refine⟨_,(AD (CC K (pv 0) (AY (T.g.at 10))) (AE (CC K (pv 0) FP))),?_⟩;show⟨d,aE,dx,[],rfl,hd,T.E.cl,(T.E.at 0),by show 0<1000;decide,?_⟩;ext;intro r hr';have hH:H r=none:=by
  by_cases z:r=d
  ·subst z;rw[AF]at hr';cases hr'
  ·rwa[AG z]at hr'
 have hne:d≠r:=λz=>by rw[z,hH]at hd;cases hd
 show⟨d,aE,dx,_,rfl,by rw[AG hne];exact AF,T.E.cl,(T.E.at 1),by show 1<1000;decide,?_⟩;show q r _ hH (((FB.refl _ _).atU (by simp)).new hH|>.atU (by simp)) ⟨⟨dx,?_⟩,?_⟩
 ·rw[AF];rfl
 ·rw[AG hne.symm];exact AF
theorem NM:Lz P w K mg base (k+9) aE "say" ["self","row"] (spSayG (Dz cs aE) K cs aE):=MtA.uE (T.m.at 3) (scN ["self","row","words","word","part","deed"]) λnd _ _ _ _ _ H _ _ _ hr h=>by
 obtain⟨d,r,kk,kvs,v,rfl,hd,h⟩:=h;have hu:=hr.units0;have hu2:=A4 hr;obtain⟨FK,hFK,hF,_⟩:=T.F;obtain⟨DK,hDK,adr,hD⟩:=T.D;obtain⟨⟨dx,e1⟩,e2⟩:=id hd;have hdd:∀j:D15,∃fd,FnOk P w K mg base (CXE P w) (k+8) (adr j) fd ["desk","words"] (Ln ["desk","words"] (Dz cs aE j))/\W.keepIn K (.ref (adr j))=true/\Binds K fd ["desk","words"] []:=by
  have one:∀ {x:Str} {sp:Sp} {a:Addr},FnUE P w K mg base (k+8) x ["desk","words"] sp->mg x=some (.ref a)->∃fd,FnOk P w K mg base (CXE P w) (k+8) a fd ["desk","words"] sp/\W.keepIn K (.ref a)=true/\Binds K fd ["desk","words"] []:=λU hm=>by
   obtain⟨f,fd,F1,e,kp,b⟩:=U.ex;rw[hm]at e
   cases e
   exact⟨fd,F1,kp,b⟩
  intro j
  cases j
  ·exact one (Mq T) (hD .kinds).2
  ·exact one (Nn T) (hD .row).2
  ·exact one (M8 T) (hD .turn).2
  ·exact one (Mg T) (hD .behind).2
  ·exact one (ND T) (hD .drop).2
  ·exact one (NA T) (hD .show).2
  ·exact one (Mo T) (hD .right).2
  ·exact one (Nq T) (hD .may).2
  ·exact one (NC T) (hD .many).2
  ·exact one (Np T) (hD .nth).2
  ·exact one (Me T) (hD .number).2
  ·exact one (M9 T) (hD .sure).2
  ·exact one (Mf T) (hD .fewest).2
  ·exact one (NB T) (hD .more).2
  ·exact one (Mp T) (hD .names).2
 refine⟨_,(AD (AM 2 (AL (MY T) hr (AA (pv 1) AB))) (AD (AV (AS Bb (pv 2) Ae) (AE (Cg (T.c.at 11).2 (T.c.at 11).1 hr.hd Cv (AA CZ AB))) AX) (AD (BI PassesOwn.leaving rfl (Jh K rfl (T.N 16) (AA (BP (BW K) (pv 2) (BQ AC) BR) (AA (F7 P w K (AY (T.g.at 15)) (AH K (pv 2) AC)) AB))) (Bu (n:=2) K rfl (Ao (Af 3) (Ao (Af 4) Bi))) (AE (AV (PW.pt (Dp (AS (Ax K hu) (pv 4) (pxt [110,97,109,101])) (Dg (KR (OP hu2 (pv 3) (Ac K (pv 0))) (by with_unfolding_all rfl))))) (AE (Cg (T.c.at 10).2 (T.c.at 10).1 hr.hd Cv (AA CZ AB))) AX))) (AD (AM 5 (F7 P w K (AY (T.g.at 16)) (AH K (pv 2) AC))) (AE (AK (RR 5 hdd hr BE (AA (pv 0) (AA (BP (BW K) (pv 2) (BQ AC) BR) AB))))))))),?_⟩;ext;rcases h with⟨hno,rf⟩|⟨l,dd,args,rfl,hll,hk,h⟩
 ·refine .inr ⟨v,rfl,hno,λH1 s1=>?_⟩;show ifp rfl ?_;ext;exact⟨small (by decide),λy hy=>rf y H1 s1 (s1.free hy)⟩
 obtain⟨_,_,hln,_,_⟩:=GA hk;obtain⟨t,hv,hT⟩:=hF dd;refine .inl ⟨l,dd,args,rfl,hll,hk,λp H1 hp s1 hp1=>?_⟩;show ifq rfl ?_;show GO (SqL.of hp1) (λz hz=>?_);have ez:∀ (w0:List Nat) (ar:List (List Nat)),C6 ((w0::ar).map tx) (some 1) none=ar.map tx:=λ_ _=>JB _ _;rw[ez];have s2:=AI hz (.lst (args.map tx));have hz2:(upd H1 z (.lst (args.map tx))) z=some (.lst (args.map tx)):=AF;generalize upd H1 z _=H2 at*
 have hp2:=s2 _ _ hp1;have hf3:=dd.len;show AN (SqL.of hp2) (Dx _ _) ?_;refine⟨aF,FK,kyT dd.word,_,rfl,hFK,rfl,hv,?_⟩;show⟨z,t,_,_,rfl,hz2,hT,?_⟩;refine UE (by rw[List.length_map,List.length_map];lia) (λi σ H'=>∃o3 o4 o5,σ=[some (.ref d),some (tx l),some (.ref p),o3,o4,o5]/\Same H2 H'/\∀ (j:Nat) (a:List Nat),j<i->args[j]? =some a->dd.form[j]? =some Ai->(AR kvs (kyT a)).isSome=true) ⟨_,_,_,rfl,Same.refl _,λj a hj=>absurd hj (Nat.not_lt_zero j)⟩ (λi σ H' ⟨o3,o4,o5,_,sH,_⟩=>sH _ _ hz2) ?_ ?_
 ·rintro i c dv T' σ H3 H4 hc hdv ⟨o3,o4,o5,rfl,s3,hall⟩ s4 hT';obtain⟨a,ha,rfl⟩:∃a,args[i]? =some a/\tx a=c:=by
   rw[List.getElem?_map]at hc;obtain⟨a,h1,h2⟩:=Option.map_eq_some_iff.mp hc;exact⟨a,h1,h2⟩
  obtain⟨pp,hpp,rfl⟩:∃a,dd.form[i]? =some a/\tx a=dv:=by
   rw[List.getElem?_map]at hdv;obtain⟨a,h1,h2⟩:=Option.map_eq_some_iff.mp hdv;exact⟨a,h1,h2⟩
  have sA:Same H H4:=((s1.trans s2).trans s3).trans s4;refine EW (SqT.of hT') rfl ?_;ext;have more:(pp=Ai->(AR kvs (kyT a)).isSome=true)->∀ (j:Nat) (b:List Nat),j<i+1->args[j]? =some b->dd.form[j]? =some Ai->(AR kvs (kyT b)).isSome=true:=λhx j b hj hb hf=>by
   by_cases e:j=i
   ·subst e;rw[ha]at hb;cases hb;rw[hpp]at hf;cases hf;exact hx rfl
   ·exact hall j b (by lia) hb hf
  refine ifd (λhc=>?_) (λhc=>?_)
  ·subst hc;show T.E.fl 1 (sA _ _ e1) ?_;refine⟨r,_,rfl,DGet.k (k:=kyT a) (sA _ _ e2),?_⟩;ext
   cases e:AR kvs (kyT a)with
   |none=>
    refine ifp rfl ?_;ext;rcases h with⟨_,_,_,_,_,rf⟩|⟨hy,_⟩
    ·exact⟨small (by decide),λy hy=>rf y H4 sA (sA.free hy)⟩
    ·have:=hy i a ha hpp;rw[e]at this;cases this
   |some v=>
    refine ifq rfl ?_;ext;exact⟨_,_,_,rfl,s3.trans s4,more λ_=>by rw[e];rfl⟩
  ·refine ifq rfl ?_;ext;exact⟨_,_,_,rfl,s3.trans s4,more λe=>absurd e hc⟩
 ·intro σ H3 z_;obtain⟨o3,o4,o5,rfl,s3,hall⟩:=z_;rw[List.length_map]at hall;have sA:Same H H3:=(s1.trans s2).trans s3;rcases h with⟨i,a,ha,hf,hn,_⟩|⟨_,q⟩
  ·have:=hall i a (List.getElem?_eq_some_iff.mp ha).1 ha hf;rw[hn]at this;cases this
  show AN (SqL.of (s3 _ _ hp2)) (Dx _ _) ?_;refine⟨aD,DK,kyT dd.word,_,rfl,hDK,rfl,(hD dd).1,?_⟩;show Q8 dd rfl ?_;show GO (SqL.of (s3 _ _ hp2)) (λz3 hz3=>?_);rw[ez];ext;exact q _ z3 _ (λc rf=>rf.pass (sA.trans (AI hz3 _))) (sA.trans (AI hz3 _)) (sA.free hz3) AF
theorem Gs:MeV P w K mg base (k+1) aE "names" ["self"] (spDkNames aE):=MtA.u (T.m.at 4) (scN ["self"]) λnd _ _ _ _ _ _ _ _ _ hr h=>by
 obtain⟨d,r,k,kvs,ns,rfl,hd,hs,q⟩:=h;have hu:=hr.units0;obtain⟨⟨dx,e1⟩,e2⟩:=id hd;obtain⟨ss,hk,h64,hp,hso⟩:=id hs;refine⟨_,(AE (AK (Ag (HY K rfl) rfl (T.N 13) PyProof.Rows.boot_sorted (AA (Ac K (pv 0)) AB)))),?_⟩;show T.E.fl 1 e1 ?_;show⟨r,kvs,ss,rfl, .inl e2,hk,h64,λp ts hpp hpt hst=>?_⟩;have hts:=hs.uniq hk hpt hst;subst hts;rw[JQ];exact q p _ hpp (AI hpp _) AF
theorem Gz:FuV P w K mg base (k+1) "_law_pool" ["script","k"] (spPoolD K):=FnA.u (T.f.at 58) (scN ["script","k","cell"]) λnd _ _ _ _ _ _ _ _ _ hr h=>by
 obtain⟨a,ns,k,rfl,hS,h0,h1,q⟩:=h;have hu:=hr.units0;have big:∀ (cell:Int),L6 10 18:=λ_=>⟨by decide,by decide,by decide⟩;refine⟨_,(AD (AM 2 AC) (AD (AV (AS GR (pv 1) (Ar K (T.N 7) (AA (pv 0) AB))) (AE (AM 2 (AH K (pv 0) (pv 1)))) AX) (AE (AK (AW (AA (pv 2) (AA (Bh DZ rfl (T.N 5) PyProof.Rows.boot_int (AA (BM VA (pv 2) (AJ Td AC AC)) AB)) (AA (AJ A6 AC (pv 1)) AB)))))))),?_⟩;show BS (.inl hS) ?_;show ifd (λc=>?_) (λc=>?_)
 ·rw[List.length_map]at c;obtain⟨v,hv⟩:=Qb (ns:=ns) h0 c;show AN hS hv ?_;show⟨small (show 3<=1000 by decide),λp hp=>?_⟩;exact q p _ hp (AI hp _) Po.new
 ·show⟨small (show 3<=1000 by decide),λp hp=>?_⟩;exact q p _ hp (AI hp _) Po.new
theorem As:FuV P w K mg base (k+1) "_law_draw" ["pool","many"] (spDraw):=FnA.u (T.f.at 59) (scN ["pool","many","found","x"]) λnd _ _ _ _ _ H _ _ _ hr h=>by
 obtain⟨p,m,rfl,⟨a,b,c,hp⟩,hm0,hm1,q⟩:=h;have hu:=hr.units0;have hS:SqL K H p [.int a, .int b, .int c]:=SqL.of hp;refine⟨_,(AD (AV (AS (Ax K hu) (AH K (pv 0) AC) AC) (AD (AM 2 (AJ DE (AH K (pv 0) AC) (pv 1))) (AD (BY (AJ P7 (AH K (pv 0) AC) (pv 1)) (CI (pv 0) AC B4)) (AE (AK (pv 2))))) AX) (AD (BY (AJ AO (AH K (pv 0) AC) AC) (CI (pv 0) AC B4)) (AD (AM 3 (AJ DE (AJ AO (AJ DE (AH K (pv 0) AC) AC) (AJ A6 AC (AH K (pv 0) AC))) AC)) (AD (AM 3 (AJ DE (AJ A6 (pv 3) (pv 3)) AC)) (AD (AM 3 (AJ DE (AJ A6 (AJ AO (pv 3) AC) (pv 3)) AC)) (AE (AK (AJ DE (AJ Jm (pv 3) AC) (pv 1))))))))),?_⟩;show ifd (λhb=>?_) (λhb=>?_)
 ·show CG hp (j:=0) rfl ?_;ext;exact q _ _ (Int.emod_nonneg _ (by lia)) (Int.emod_lt_of_pos _ hm0) Po.new SameBut1.upd
 ·show CG hp (j:=2) rfl ?_;have hS2:SqL K (upd H p (.lst [.int a, .int b, .int (c+1)])) p [.int a, .int b, .int (c+1)]:=SqL.of AF;ext;exact q _ _ (Int.emod_nonneg _ (by lia)) (Int.emod_lt_of_pos _ hm0) Po.new SameBut1.upd
theorem ML:FuV P w K mg base (k+2) "_law_right_row" ["pool","k","pairs"] (IX):=FnA.u (T.f.at 60) (scN ["pool","k","pairs","row","left","waiting","kind"]) λnd _ _ _ _ _ H _ _ _ hr h=>by
 obtain⟨p,kk,hf,rfl,hd,hk1,hk4,hm0,hm1,q⟩:=h;have hu:=hr.units0;refine⟨_,(AD (AM 3 (pxt [])) (AD (AM 4 (pv 2)) (AD (AM 5 (pxt [])) (AD (Ih PassesOwn.never (PW.pt (BL (AS CM (pv 4) AC) (BX (AS (Ba K hu) (pv 5) (pxt []))))) (AE (AV (PW.pt (Dp (AS CM (pv 4) AC) (Dg (PW.pt (BL (AS (Ax K hu) (pv 5) (pxt [])) (BX (AS (Ax K hu) (AL (As T) hr (AA (pv 0) (AA AC AB))) AC))))))) (AD (AM 6 (AL (As T) hr (AA (pv 0) (AA (pv 1) AB)))) (AD (AM 3 (AJ AO (pv 3) (AH K (pxt [40,91,123,60]) (pv 6)))) (AD (AM 5 (AJ AO (pv 5) (AH K (pxt [41,93,125,62]) (pv 6)))) (AE (AM 4 (AJ Tc (pv 4) AC)))))) (AD (AM 3 (AJ AO (pv 3) (AH K (pv 5) (Bo Bm AC)))) (AE (AM 5 (BP (BW K) (pv 5) BR (BQ (Bo Bm AC))))))))) (AE (AK (pv 3))))))),?_⟩;show IL (λσ H'=>∃ (lf:Int) (row wt:List Nat) (ki:Option V),σ=[some (.ref p),some (.int kk),some (.int hf),some (tx row),some (.int lf),some (tx wt),ki]/\
  0<=lf/\run [] row=some wt.reverse/\(∀c∈row,kin kk c)/\(∀c∈wt,c∈cls.take kk.toNat/\c∉opn)/\(row.length:Int)+wt.length+2*lf=2*hf/\Po H' p/\SameBut1 p H H')
  (λσ _=>match σ with|[_,_,_,_,some (.int lf),some (.str wt),_]=>2*lf.toNat+wt.length|_=>0) ⟨hf,[],[],none,rfl,hm0,rfl,(λ_ z=>nomatch z),(λ_ z=>nomatch z),by simp,hd,SameBut1.refl _ _⟩ ?_
 ·intro σ H5 z_;obtain⟨lf,row,wt,ki,rfl,lf0,hrun,hkin,hwt,hsum,hp5,s5⟩:=z_;have hrow:row.length<=40:=by lia
  have hwl:wt.length<=40:=by lia
  refine P6 (c:=decide (0<lf)) (d:= !decide (wt=[])) (λR h=>by ext;exact h) (λR h=>by ext;exact h) ?_;refine Gc (λhc=>?_) (λhc=>?_)
  ·have hwl2:wt.length=0->wt=[]:=List.length_eq_zero_iff.mp;have hne:0<lf\/wt≠[]:=by simpa using hc
   refine PU ?_;have step1:∀ {H6:Hp},Po H6 p->SameBut1 p H H6->0<lf->∀ (ki':Int) (H7:Hp),Po H7 p->SameBut1 p H6 H7->0<=ki'->ki'<kk->∀oc,oc∈opn->oc∈opn.take kk.toNat->clo oc∈cls.take kk.toNat->clo oc∉opn->
    WN (λσ H'=>∃ (lf:Int) (row wt:List Nat) (ki:Option V),σ=[some (.ref p),some (.int kk),some (.int hf),some (tx row),some (.int lf),some (tx wt),ki]/\
   0<=lf/\run [] row=some wt.reverse/\(∀c∈row,kin kk c)/\(∀c∈wt,c∈cls.take kk.toNat/\c∉opn)/\(row.length:Int)+wt.length+2*lf=2*hf/\Po H' p/\SameBut1 p H H') (λσ _=>match σ with|[_,_,_,_,some (.int lf),some (.str wt),_]=>2*lf.toNat+wt.length|_=>0) (2*lf.toNat+wt.length) [some (.ref p),some (.int kk),some (.int hf),some (tx (row++[oc])),some (.int (lf-1)),some (tx (wt++[clo oc])),some (.int ki')] H7:=by
    intro H6 d6 s6 hlf ki' H7 d7 s7 k0 k1 oc ho2 ho3 ho5 ho6;refine⟨⟨lf-1,row++[oc],wt++[clo oc],_,rfl,by lia,?_,?_,?_,?_,d7,s6.trans s7⟩,?_⟩
    ·rw[FJ hrun,IV ho2,List.reverse_append];rfl
    ·intro c hc;rcases List.mem_append.mp hc with z|z
     ·exact hkin c z
     ·rw[List.mem_singleton.mp z];exact .inl ho3
    ·intro c hc;rcases List.mem_append.mp hc with z|z
     ·exact hwt c z
     ·rw[List.mem_singleton.mp z];exact⟨ho5,ho6⟩
    ·simp only[List.length_append,List.length_singleton];lia
    ·show 2*(lf-1).toNat+(wt++[clo oc]).toArray.size<2*lf.toNat+wt.length;simp only[List.size_toArray,List.length_append,List.length_singleton];lia
   have step2:∀ {H6:Hp} (ki:Option V),Po H6 p->SameBut1 p H H6->∀d0 wr,wt=wr++[d0]->
    WN (λσ H'=>∃ (lf:Int) (row wt:List Nat) (ki:Option V),σ=[some (.ref p),some (.int kk),some (.int hf),some (tx row),some (.int lf),some (tx wt),ki]/\
   0<=lf/\run [] row=some wt.reverse/\(∀c∈row,kin kk c)/\(∀c∈wt,c∈cls.take kk.toNat/\c∉opn)/\(row.length:Int)+wt.length+2*lf=2*hf/\Po H' p/\SameBut1 p H H') (λσ _=>match σ with|[_,_,_,_,some (.int lf),some (.str wt),_]=>2*lf.toNat+wt.length|_=>0) (2*lf.toNat+wt.length) [some (.ref p),some (.int kk),some (.int hf),some (tx (row++[d0])),some (.int lf),some (tx wr),ki] H6:=by
    intro H6 ki d6 s6 d0 wr ew;subst ew;obtain⟨hd1,hd2⟩:=hwt d0 (List.mem_append_right _ List.mem_cons_self);rw[List.reverse_append]at hrun;refine⟨⟨lf,row++[d0],wr,_,rfl,lf0,?_,?_,λc hc=>hwt c (List.mem_append_left _ hc),?_,d6,s6⟩,?_⟩
    ·rw[FJ hrun];exact Hh hd2 _
    ·intro c hc;rcases List.mem_append.mp hc with z|z
     ·exact hkin c z
     ·rw[List.mem_singleton.mp z];exact .inr hd1
    ·simp only[List.length_append,List.length_singleton]at hsum⊢;lia
    ·show 2*lf.toNat+wr.toArray.size<2*lf.toNat+(wr++[d0]).length;simp only[List.size_toArray,List.length_append,List.length_singleton];lia
   show ifd (λhlf=>?_) (λhlf=>?_)
   ·show ifd (λhwe=>?_) (λhwe=>?_)
    ·refine Ce ?_;show Ap hp5 (by lia) (by lia) (λr1 H6 k0 k1 d6 s6=>?_);obtain⟨oc,ho1,ho2,ho3,ho4,ho5,ho6⟩:=KZ k0 k1 hk4;show Bw (small (show 4<=1000 by decide)) ho1 ?_;show Bw (small (show 4<=1000 by decide)) ho4 ?_;ext;exact step1 hp5 s5 hlf _ H6 d6 s6 k0 k1 oc ho2 ho3 ho5 ho6
    ·show Ap hp5 (by decide) (by decide) (λr1 H6 a1 a2 d6 s6=>?_);show ifd (λh2=>?_) (λh2=>?_)
     ·show Ap d6 (by lia) (by lia) (λr1 H7 k0 k1 d7 s7=>?_);obtain⟨oc,ho1,ho2,ho3,ho4,ho5,ho6⟩:=KZ k0 k1 hk4;show Bw (small (show 4<=1000 by decide)) ho1 ?_;show Bw (small (show 4<=1000 by decide)) ho4 ?_;ext;exact step1 d6 (s5.trans s6) hlf _ H7 d7 s7 k0 k1 oc ho2 ho3 ho5 ho6
     ·obtain⟨wr,d0,ew⟩:=Hj hwe;show Bw (small (by lia)) (show atI wt (-1)=some d0 by rw[ew];exact JI wr d0) ?_;ext
      first|refine GN (small (by lia)) ?_ |skip
      rw[show A8 wt none (some (-1))=wr by rw[ew];exact JC wr d0];ext;exact step2 _ d6 (s5.trans s6) d0 wr ew
   ·have hwe:wt≠[]:=by
     rcases hne with z|z
     ·exact absurd z hlf
     ·exact z
    obtain⟨wr,d0,ew⟩:=Hj hwe;refine ifq rfl ?_;show Bw (small (by lia)) (show atI wt (-1)=some d0 by rw[ew];exact JI wr d0) ?_;ext
    first|refine GN (small (by lia)) ?_ |skip
    rw[show A8 wt none (some (-1))=wr by rw[ew];exact JC wr d0];ext;exact step2 _ hp5 s5 d0 wr ew
  ·have hc':lf<=0/\wt=[]:=by simpa using hc
   obtain⟨e1,rfl⟩:=hc';ext;exact q row H5 hrun (by simp at hsum;lia) hkin hp5 s5
theorem Gv:FuV P w K mg base (k+1) "_law_signs" ["k"] (IW):=FnA.u (T.f.at 61) (scN ["k"]) λnd _ _ _ _ _ _ _ _ _ hr h=>by
 obtain⟨kk,rfl,k1,k4,q⟩:=h;have hu:=hr.units0;refine⟨_,(AE (AK (AJ AO (BP (BW K) (pxt [40,91,123,60]) BR (BQ (pv 0))) (BP (BW K) (pxt [41,93,125,62]) BR (BQ (pv 0)))))),?_⟩;ext;rw[CJ _ (by lia),CJ _ (by lia)];have e1:([40,91,123,60].take kk.toNat).length<=4:=by rw[List.length_take];simp;lia
 have e2:([41,93,125,62].take kk.toNat).length<=4:=by rw[List.length_take];simp;lia
 first|refine BD (small (by lia)) ?_ |skip
 ext;exact q
theorem NI:FuV P w K mg base (k+2) "_law_bent" ["pool","k","row","often"] (JV):=FnA.u (T.f.at 62) (scN ["pool","k","row","often","found","sign","at"]) λnd _ _ _ _ _ H _ Q _ hr h=>by
 obtain⟨p,kk,row,of',rfl,hp,k1,k4,hro,o0,o1,q⟩:=h;have hu:=hr.units0;have hl:=Ay hro;refine⟨_,(AD (AM 4 (pxt [])) (AD (BI PassesOwn.never rfl (CY (pv 2)) (Af 5) (AE (AM 4 (AJ AO (pv 4) (AH K (AW (AA (pv 5) (AA (pxt [63]) AB))) (Bh DZ rfl (T.N 5) PyProof.Rows.boot_int (AA (F8 (BM CM (pv 3) AC) (Dq (BM (Ax K hu) (AL (As T) hr (AA (pv 0) (AA (pv 3) AB))) AC))) AB))))))) (AD (AV (PW.pt (Dp (AS (Ba K hu) (pv 4) (pxt [])) (Dg (AS (Ax K hu) (AL (As T) hr (AA (pv 0) (AA AC AB))) AC)))) (AD (AM 6 (AL (As T) hr (AA (pv 0) (AA (Ar K (T.N 7) (AA (pv 4) AB)) AB)))) (AE (AM 4 (AJ AO (AJ AO (BP (BW K) (pv 4) BR (BQ (pv 6))) (AH K (AJ AO (AL (Gv T) hr (AA (pv 1) AB)) (pxt [63])) (AL (As T) hr (AA (pv 0) (AA (AJ AO (AJ A6 AC (pv 1)) AC) AB))))) (BP (BW K) (pv 4) (BQ (AJ AO (pv 6) AC)) BR))))) AX) (AD (AV (AS (Ax K hu) (AL (As T) hr (AA (pv 0) (AA AC AB))) AC) (AE (AM 4 (BP (BW K) (pv 4) BR (BQ (AL (As T) hr (AA (pv 0) (AA (AJ AO (Ar K (T.N 7) (AA (pv 4) AB)) AC) AB))))))) AX) (AE (AK (pv 4))))))),?_⟩;ext;have hin:=FC hro;have q63:(63:Nat)∈sgn kk:=List.mem_append_right _ List.mem_cons_self;refine QL (λi σ H'=>∃ (f:List Nat) (o5 o6:Option V),σ=[some (.ref p),some (.int kk),some (tx row),some (.int of'),some (tx f),o5,o6]/\f.length=i/\(∀c∈f,c∈sgn kk)/\Po H' p/\SameBut1 p H H') ⟨[],_,_,rfl,rfl,(λ_ z=>nomatch z),hp,SameBut1.refl _ _⟩ ?_ ?_
 ·intro i c σ H1 hc z_;obtain⟨f,o5,o6,rfl,hf,hfm,hp1,s1⟩:=z_;have hi:i<row.length:=(List.getElem?_eq_some_iff.mp hc).1;have hcm:=hin c (List.mem_of_getElem? hc);show⟨small (show 2<=1000 by decide),λl hl'=>?_⟩;have t1:=AI hl' (.lst [tx [c],tx [63]]);have g1:=AF (H:=H1) (a:=l) (o:= .lst [tx [c],tx [63]]);have n1:=hp1.ne hl';have p1:=hp1.same t1;have u1:SameBut1 p H (upd H1 l (.lst [tx [c],tx [63]])):=s1.trans (SameBut1.of t1);generalize upd H1 l _=G1 at*
  have m1:∀x∈f++[c],x∈sgn kk:=λx hx=>(List.mem_append.mp hx).elim (hfm x) λz=>by rw[List.mem_singleton.mp z];exact hcm
  have m2:∀x∈f++[63],x∈sgn kk:=λx hx=>(List.mem_append.mp hx).elim (hfm x) λz=>by rw[List.mem_singleton.mp z];exact q63
  have lf1:f.length+[c].length<=1000:=by rw[List.length_singleton];lia
  have lf2:f.length+[63].length<=1000:=by rw[List.length_singleton];lia
  show ifd (λhof=>?_) (λhof=>?_)
  ·show Ap p1 (by lia) (by lia) (λr2 H2 _ _ p2 s2=>?_);have g2:=s2 _ _ g1 n1;ext
   by_cases hr2:r2=0
   ·rw[decide_eq_true hr2];show AN (SqL.of g2) (show atI [tx [c],tx [63]] (if true=true then 1 else 0)=some (tx [63])from rfl) ?_;refine BD (small lf2) ?_;ext;exact⟨f++[63],_,_,rfl,by simp[hf],m2,p2,u1.trans s2⟩
   ·rw[decide_eq_false hr2];show AN (SqL.of g2) (show atI [tx [c],tx [63]] (if false=true then 1 else 0)=some (tx [c])from rfl) ?_;refine BD (small lf1) ?_;ext;exact⟨f++[c],_,_,rfl,by simp[hf],m1,p2,u1.trans s2⟩
  ·show AN (SqL.of g1) (show atI [tx [c],tx [63]] (if false=true then 1 else 0)=some (tx [c])from rfl) ?_;refine BD (small lf1) ?_;ext;exact⟨f++[c],_,_,rfl,by simp[hf],m1,p1,u1⟩
 ·intro σ H1 z_;obtain⟨f,o5,o6,rfl,hf,hfm,hp1,s1⟩:=z_;have tail:∀ (g:List Nat) (H2:Hp) (o6:Option V),g.length<=row.length->(∀c∈g,c∈sgn kk)->Po H2 p->SameBut1 p H H2->
   (Dy (DN (DI (tOp (D4 K) (Du (Ln ["pool","many"] spDraw) [] E0 (Bd (A7 0) (Bd (tC (V.int 2)) tNil))) (tC (V.int 0))))
     (Bf (tSl (Ek K) (A7 4) tNoPart (GH (Du (Ln ["pool","many"] spDraw) [] E0 (Bd (A7 0) (Bd (tOp rPlus (tCB (D3 K) (Bd (A7 4) tNil)) (tC (V.int 1))) tNil))))) (Aw 4)) tNext) (GV (A7 4)))
   {nx:=λx H'=>Q V.non H',rt:=Q} [some (.ref p),some (.int kk),some (tx row),some (.int of'),some (tx g),o5,o6] H2:=by
   intro g H2 o6 hg hgm p2 s2;have hg40:g.length<=40:=by lia
   show Ap p2 (by decide) (by decide) (λr3 H3 _ _ p3 s3=>?_);show ifd (λh3=>?_) (λh3=>?_)
   ·show Ap p3 (by lia) (by lia) (λr4 H4 r40 r41 p4 s4=>?_);ext;rw[CJ _ r40];have hz:(g.take r4.toNat).length<=g.length:=by rw[List.length_take];lia
    exact q _ H4 (by lia) (EL (by lia) λc hc=>hgm c (List.mem_of_mem_take hc)) p4 ((s2.trans s3).trans s4)
   ·ext;exact q _ H3 hg (EL (by lia) hgm) p3 (s2.trans s3)
  have hf40:f.length<=40:=by lia
  show Gc (λhne=>?_) (λhne=>?_)
  rotate_left
  ·refine ifq rfl ?_;exact tail f H1 o6 (by lia) hfm hp1 s1
  show Ap hp1 (by decide) (by decide) (λr2 H2 _ _ p2 s2=>?_);show ifd (λh2=>?_) (λh2=>?_)
  rotate_left
  ·exact tail f H2 o6 (by lia) hfm p2 (s1.trans s2)
  have hne':f≠[]:=by simpa using hne
  have hfp:0<f.length:=List.length_pos_iff.mpr hne';show Ap p2 (by lia) (by lia) (λat0 H3 a0 a1 p3 s3=>?_);show HL k1 k4 ?_;have sl:=Ja k1 k4;ext
  first|refine BD (small (by rw[List.length_singleton];lia)) ?_ |skip
  show Ap p3 (by lia) (by lia) (λr4 H4 r40 r41 p4 s4=>?_);obtain⟨d,ed,hd⟩:=Kn (l:=sgb kk++[63]) (i:=r4) r40 (by rw[List.length_append,List.length_singleton,sl];lia);have hds:d∈sgn kk:=(List.mem_append.mp hd).elim JZ λz=>by rw[List.mem_singleton.mp z];exact q63
  show Bw (small (by rw[List.length_append,List.length_singleton];lia)) ed ?_;obtain⟨at',rfl⟩:∃at':Nat,at0=at':=⟨at0.toNat,by lia⟩;have ea:((at':Int)+1)=((at'+1:Nat):Int):=by lia
  rw[CJ _ (by lia),Int.toNat_natCast];have lt1:(f.take at').length=at':=by rw[List.length_take];lia
  have lt2:(f.drop (at'+1)).length=f.length-at'-1:=by rw[List.length_drop];lia
  refine BD (small (by rw[List.length_singleton];lia)) ?_;ext;rw[ea,QU];refine BD (small (by rw[List.length_append,List.length_singleton];lia)) ?_;refine tail (f.take at'++[d]++f.drop (at'+1)) H4 _ (by simp only[List.length_append,List.length_singleton];lia) (λc hc=>?_) p4 ((s1.trans s2).trans (s3.trans s4));simp only[List.mem_append,List.mem_singleton]at hc;rcases hc with(z|z)|z
  ·exact hfm c (List.mem_of_mem_take z)
  ·rw[z];exact hds
  ·exact hfm c (List.mem_of_mem_drop z)
theorem NG:FuV P w K mg base (k+3) "_law_line" ["pool","k","most"] (JS):=FnA.u (T.f.at 63) (scN ["pool","k","most","way","signs","half","pairs"]) λnd _ _ _ _ _ H _ _ _ hr h=>by
 obtain⟨p,kk,most,rfl,hp,k1,k4,m1,m40,q⟩:=h;have hu:=hr.units0;have q63:(63:Nat)∈sgn kk:=List.mem_append_right _ List.mem_cons_self;refine⟨_,(AD (AM 3 (AL (As T) hr (AA (pv 0) (AA AC AB)))) (AD (AV (AS (Ax K hu) (pv 3) AC) (AD (CH (i:=4) nd rfl (Or.inr rfl) (AJ AO (AL (Gv T) hr (AA (pv 1) AB)) (pxt [63,63,63]))) (AE (AK (BZ K PySem.F.plainAttrs_str PySem.F.slot_str_join PySem.F.type_str_join (Fl K) (pxt []) (AA (BA (own:=["sign"]) (sel:=[4,0,1]) (A2 (osc:=(AU (top 109))) (N:=["pool","k","most","way","signs","half","pairs"]) (by decide +kernel)) rfl (C9 rfl (T.N 11) (AA (AL (As T) hr (AA (pv 0) (AA (AJ AO (pv 2) AC) AB))) AB)) (λ_ _ _ _ _=>(Ah (i:=0) (show(["sign","signs","pool","k"]:List Str).Nodup from by decide +kernel) rfl (Or.inl rfl))) (Aq (by decide)) (λ_ _ _ _ _=>A3) (λ_ _ _ _ _=>(AH K (pv 1) (AL (As T) hr (AA (pv 2) (AA (AJ AO (AJ A6 AC (pv 3)) AC) AB)))))) AB))))) AX) (AD (AV (AS (Ax K hu) (pv 3) AC) (AE (AK (AJ A6 (pxt [63]) (AL (As T) hr (AA (pv 0) (AA (AJ AO (pv 2) AC) AB)))))) AX) (AD (AM 5 (AJ Jm (pv 2) AC)) (AD (AM 6 (AH K (AW (AA (AL (As T) hr (AA (pv 0) (AA (AJ AO (pv 5) AC) AB))) (AA (AL (As T) hr (AA (pv 0) (AA (Ag (IE rfl) rfl (T.N 10) PyProof.Rows.boot_min (AA AC (AA (AJ AO (pv 5) AC) AB))) AB))) (AA (pv 5) AB)))) (AL (As T) hr (AA (pv 0) (AA AC AB))))) (AE (AK (AL (NI T) hr (AA (pv 0) (AA (pv 1) (AA (AL (ML T) hr (AA (pv 0) (AA (pv 1) (AA (pv 6) AB)))) (AA (AH K (PEb.pe (Fi (Pl.con AC (Pl.con AC (Pl.con AC (Pl.con AC (Pl.con AC (Pl.con AC Pl.nil)))))))) (AL (As T) hr (AA (pv 0) (AA AC AB)))) AB)))))))))))),?_⟩;show Ap hp (by decide) (by decide) (λway H1 w0 w1 p1 s1=>?_);show ifd (λhw=>?_) (λhw=>?_)
 ·show HL k1 k4 ?_;have sl:=Ja k1 k4;ext
  first|refine BD (small (by simp only[List.length_cons,List.length_nil];lia)) ?_ |skip
  show Ap p1 (by lia) (by lia) (λn H2 n0 n1 p2 s2=>?_);refine⟨n,rfl,by lia,by lia,?_⟩;have sg:∀c∈sgb kk++[63,63,63],c∈sgn kk:=λc hc=>(List.mem_append.mp hc).elim JZ λz=>by
   simp only[List.mem_cons,List.not_mem_nil,or_false,or_self]at z;rw[z];exact q63
  have sl3:(sgb kk++[63,63,63]).length=(2*kk).toNat+3:=by rw[List.length_append,sl];rfl
  generalize sgb kk++[63,63,63]=sg' at sg sl3⊢;refine QW (n:=n.toNat) (small (by lia)) (λD j ys H'=>∃cs:List Nat,ys=(cs.map λc=>[c]).map tx/\cs.length=j/\(∀c∈cs,c∈sgn kk)/\D≠p/\Po H' p/\SameBut1 p H H') (λD hD=>⟨[],rfl,rfl,(λ_ z=>nomatch z),p2.ne hD,p2.same (AI hD _),Vg (s1.trans s2) (by
   cases e:H D with
   |none=>rfl
   |some o=>
    have:=(s1.trans s2) _ _ e (p2.ne hD);rw[hD]at this;cases this)⟩) (λD ys H3 hD hy ⟨cs,ey,hcl,hcm,hDp,p3,s3⟩=>?_) ?_
  ·subst ey;show F4 (SqL.of hy) (by rw[FS,List.length_map];lia) ?_;rw[FS];exact q cs H3 (by lia) (EL (by lia) hcm) p3 s3
  ·intro D j ys H3 hD hj hy hl z_;obtain⟨cs,rfl,hcl,hcm,hDp,p3,s3⟩:=z_;show Ce ?_;show Ap p3 (by lia) (by lia) (λr4 H4 r40 r41 p4 s4=>?_);obtain⟨d,ed,hd⟩:=Kn (l:=sg') (i:=r4) r40 (by rw[sl3];lia);show Bw (small (by rw[sl3];lia)) ed ?_;refine CA hj (small (by lia)) (s4 _ _ hy hDp) hl ⟨cs++[d],by simp,by simp[hcl],λc hc=>(List.mem_append.mp hc).elim (hcm c) λz=>by rw[List.mem_singleton.mp z];exact sg d hd,hDp,?_,λb o z zn=>?_⟩
   ·obtain⟨a,b,c,e⟩:=p4;exact⟨a,b,c,by rw[AG (Ne.symm hDp)];exact e⟩
   ·have hbD:b≠D:=λe=>by
     have:=(s1.trans s2) _ _ z zn;rw[e,hD]at this;cases this
    rw[AG hbD];exact s4 b o (s3 b o z zn) zn
 show ifd (λhw1=>?_) (λhw1=>?_)
 ·show Ap p1 (by lia) (by lia) (λn H2 n0 n1 p2 s2=>?_);show Cq n0 (by lia) (by decide) ?_;ext;rw[S9];exact q _ H2 (by rw[List.length_replicate];lia) (Os (by lia)) p2 (s1.trans s2)
 ext;have hh0:0<=most/2:=by lia
 have hh1:most/2<=20:=by lia
 have hh2:2*(most/2)<=most:=by lia
 generalize most/2=half at hh0 hh1 hh2⊢;refine Ap p1 (by lia) (by lia) (λr2 H2 r20 r21 p2 s2=>?_);ext;obtain⟨mm,emm,mm1,mm2,mm3⟩:∃mm:Int,(if half+1<5 then half+1 else 5)=mm/\1<=mm/\mm<=half+1/\mm<=5:=⟨_,rfl,by split<;>lia,by split<;>lia,by split<;>lia⟩
 try rw[emm]
 refine Ap p2 (by lia) (by lia) (λr3 H3 r30 r31 p3 s3=>?_);show⟨small (show 3<=1000 by decide),λl hl=>?_⟩;have t4:=AI hl (.lst [.int r2, .int r3, .int half]);have g4:=AF (H:=H3) (a:=l) (o:= .lst [.int r2, .int r3, .int half]);have n4:=p3.ne hl;have p4:=p3.same t4;have u4:SameBut1 p H (upd H3 l (.lst [.int r2, .int r3, .int half])):=((s1.trans s2).trans s3).trans (SameBut1.of t4);generalize upd H3 l _=G4 at*
 show Ap p4 (by decide) (by decide) (λr5 H5 r50 r51 p5 s5=>?_);obtain⟨pr,epr,pr0,pr1⟩:∃pr:Int,atI [V.int r2,V.int r3,V.int half] r5=some (.int pr)/\0<=pr/\pr<=half:=by
  obtain⟨v,e,h⟩:=at3 (V.int r2) (V.int r3) (V.int half) r50 r51;rcases h with rfl|rfl|rfl
  ·exact⟨r2,e,by lia,by lia⟩
  ·exact⟨r3,e,by lia,by lia⟩
  ·exact⟨half,e,by lia,by lia⟩
 show AN (SqL.of (s5 _ _ g4 n4)) epr ?_;show Nj p5 k1 k4 pr0 (by lia) (λrow H6 hR hrl hkin p6 s6=>?_);have hro:isRow kk row=true:=QG (kk:=kk) (by lia) (by lia) hkin;show⟨small (show 6<=1000 by decide),λl7 hl7=>?_⟩;have t7:=AI hl7 (.lst [.int 0, .int 2, .int 3, .int 5, .int 9, .int 1]);have g7:=AF (H:=H6) (a:=l7) (o:= .lst [.int 0, .int 2, .int 3, .int 5, .int 9, .int 1]);have n7:=p6.ne hl7;have p7:=p6.same t7;have u7:SameBut1 p H (upd H6 l7 (.lst [.int 0, .int 2, .int 3, .int 5, .int 9, .int 1])):=(u4.trans (s5.trans s6)).trans (SameBut1.of t7);generalize upd H6 l7 _=G7 at*
 show Ap p7 (by decide) (by decide) (λr8 H8 r80 r81 p8 s8=>?_);obtain⟨of',eof,of0,of1⟩:∃o:Int,atI [V.int 0,V.int 2,V.int 3,V.int 5,V.int 9,V.int 1] r8=some (.int o)/\0<=o/\o<=1000:=by
  have:r8=0\/r8=1\/r8=2\/r8=3\/r8=4\/r8=5:=by lia
  rcases this with rfl|rfl|rfl|rfl|rfl|rfl
  ·exact⟨0,rfl,by decide,by decide⟩
  ·exact⟨2,rfl,by decide,by decide⟩
  ·exact⟨3,rfl,by decide,by decide⟩
  ·exact⟨5,rfl,by decide,by decide⟩
  ·exact⟨9,rfl,by decide,by decide⟩
  ·exact⟨1,rfl,by decide,by decide⟩
 show AN (SqL.of (s8 _ _ g7 n7)) eof ?_;show PN p8 k1 k4 hro of0 of1 (λrow' H9 hl9 hro9 p9 s9=>?_);exact q row' H9 (by lia) hro9 p9 (u7.trans (s8.trans s9))
theorem C8:FuV P w K mg base (k+10) "_law_said" ["desk","row"] (spSaidG (Dz cs aE) K cs aE):=FnA.u (T.f.at 64) (scN ["desk","row","caught","found","e","kinds"]) λnd _ _ _ _ _ H _ _ _ hr h=>by
 obtain⟨d,r,kk,kvs,v,rfl,hd,h⟩:=h;have hu:=hr.units0;obtain⟨⟨dx,e1⟩,e2⟩:=id hd;have facts:∀C nm,Cap8 cs C nm->ECls K C:=λC nm h=>by
  cases h
  ·exact(T.c.at 11).2
  ·exact(T.c.at 10).2
  ·exact(T.c.at 1).2
  ·exact(T.c.at 2).2
  ·exact(T.c.at 5).2
  ·exact(T.c.at 3).2
  ·exact(T.c.at 8).2
 refine⟨_,(AD (AM 2 Ae) (AD (AM 3 (pxt [])) (AD (TH (i:=4) (T.c.at 0).2 (T.c.at 0).1 ⟨rfl,rfl,rfl⟩ nd rfl rfl (λpn xe R hx=>(AE (AM 3 (RO T.E.cl (NM T) hr hx (pv 0) (AA (pv 1) AB))))) (λev=>(AE (AM 2 (pv 4))))) (AD (AV (AS Bb (pv 2) Ae) (AE (AK (AH K (AW (AA (pv 3) (AA (pxt [111,100,100]) AB))) (Bh DZ rfl (T.N 5) PyProof.Rows.boot_int (AA (K8 (KW (Ag (DC K) rfl (T.N 6) PyProof.Rows.boot_isinstance (AA (pv 3) (AA (DJ (T.N 14) PyProof.Rows.boot_str) AB)))) (Dq (BM (Ax K hu) (BP (BW K) (pv 3) BR (BQ AC)) (pxt [9])))) AB))))) AX) (AD (AM 5 (AW (AA (Ag (CB K) rfl (T.N 6) PyProof.Rows.boot_isinstance (AA (pv 2) (AA (By (T.c.at 11).1) AB))) (AA (Ag (CB K) rfl (T.N 6) PyProof.Rows.boot_isinstance (AA (pv 2) (AA (By (T.c.at 10).1) AB))) (AA (Ag (CB K) rfl (T.N 6) PyProof.Rows.boot_isinstance (AA (pv 2) (AA (By (T.c.at 1).1) AB))) AB))))) (AD (AM 5 (AJ AO (pv 5) (AW (AA (Ag (CB K) rfl (T.N 6) PyProof.Rows.boot_isinstance (AA (pv 2) (AA (By (T.c.at 2).1) AB))) (AA (Ag (CB K) rfl (T.N 6) PyProof.Rows.boot_isinstance (AA (pv 2) (AA (By (T.c.at 5).1) AB))) (AA (Ag (CB K) rfl (T.N 6) PyProof.Rows.boot_isinstance (AA (pv 2) (AA (By (T.c.at 3).1) AB))) AB)))))) (AD (BC (BZ K PySem.F.plainAttrs_list PySem.F.slot_list_append PySem.F.type_list_append DB (pv 5) (AA (Ag (CB K) rfl (T.N 6) PyProof.Rows.boot_isinstance (AA (pv 2) (AA (By (T.c.at 8).1) AB))) AB))) (AD (AV (PW.pt (BL (A5 K (Ag (CB K) rfl (T.N 6) PyProof.Rows.boot_isinstance (AA (pv 2) (AA (Ad (AA (By (T.c.at 7).1) (AA (By (T.c.at 4).1) (AA (By (T.c.at 6).1) (AA (By (T.c.at 9).1) AB))))) AB)))) (BX (BU (A5 K (Ag (CB K) rfl (T.N 6) PyProof.Rows.boot_isinstance (AA (pv 2) (AA (DJ (T.N 0) MQ) AB)))))))) (AE (AK (pxt [111,100,100]))) AX) (AD (AV (AS (Ba K hu) (BZ K PySem.F.plainAttrs_list PySem.F.slot_list_count PySem.F.type_list_count Og (pv 5) (AA Bp AB)) AC) (AE (AK (pxt [111,100,100]))) AX) (AE (AK (AJ AO (pxt [9]) (AH K (AW (AA (pxt [78,111,82,111,119]) (AA (pxt [78,111,78,97,109,101]) (AA (pxt [78,111,75,105,110,100,115]) (AA (pxt [78,111,76,105,110,101]) (AA (pxt [78,111,78,117,109,98,101,114]) (AA (pxt [78,111,116,82,105,103,104,116]) (AA (pxt [78,111,70,105,108,108,105,110,103]) AB)))))))) (BZ K PySem.F.plainAttrs_list PySem.F.slot_list_index PySem.F.type_list_index Oe (pv 5) (AA Bp AB))))))))))))))),?_⟩;show⟨d,dx,_,rfl,e1,rfl,?_⟩;show h _ _ (λb H1 hb h9 q=>?_) (λC nm hC q=>?_)
 ·show ifp rfl ?_;show⟨small (show 2<=1000 by decide),λy hy=>?_⟩;show BV (b:=true) (TyOf.str _) (by with_unfolding_all rfl) ?_;ext;clear facts;refine ifq rfl ?_;ext;have hne:¬ (A8 b none (some 1)=[9]):=λz=>by
   rw[CJ _ (by decide)]at z
   cases b with
   |nil=>cases z
   |cons x r=>exact h9 (by rw[(List.cons.inj z).1];rfl)
  rw[decide_eq_false hne];show AN (SqL.of AF) (show atI [tx b,tx [111,100,100]] (if false=true then 1 else 0)=some (tx b)from rfl) ?_;exact q _ (AI hy _)
 ·have Z:=facts C nm hC;obtain⟨b1,b2,b3,b4,b5,b6,b7,j,wd,mr,k1,k2,k3,k4,k5,k6,k7,ka,kv,hc,hj,hm,hw,rfl,hwl⟩:=O8 T.t hC;refine TB λy G sG hy=>⟨mr,λob=>?_⟩;have s1:Same H (upd G y (BG ob y C)):=Pc sG hy;have hx:(upd G y (BG ob y C)) y=some (BG ob y C):=AF;generalize upd G y _=G1 at*
  ext;clear facts h;refine OI ?_;show ifq rfl ?_;show Cr hx Z k1 ?_;show Cr hx Z k2 ?_;show Cr hx Z k3 ?_;show⟨small (show 3<=1000 by decide),λl1 hl1=>?_⟩;have t1:=AI hl1 (.lst [.bl b1, .bl b2, .bl b3]);have g1:=AF (H:=G1) (a:=l1) (o:= .lst [.bl b1, .bl b2, .bl b3]);generalize upd G1 l1 _=G2 at*
  have hx2:=t1 _ _ hx;show Cr hx2 Z k4 ?_;show Cr hx2 Z k5 ?_;show Cr hx2 Z k6 ?_;show⟨small (show 3<=1000 by decide),λl2 hl2=>?_⟩;have t2:=AI hl2 (.lst [.bl b4, .bl b5, .bl b6]);have g2:=AF (H:=G2) (a:=l2) (o:= .lst [.bl b4, .bl b5, .bl b6]);generalize upd G2 l2 _=G3 at*
  show Ct (t2 _ _ g1) g2 (small (show 6<=1000 by decide)) (λl3 hl3=>?_);have t3:=AI hl3 (.lst ([.bl b1, .bl b2, .bl b3]++[.bl b4, .bl b5, .bl b6]));have g3:(upd G3 l3 (.lst ([.bl b1, .bl b2, .bl b3]++[.bl b4, .bl b5, .bl b6]))) l3=some (.lst [.bl b1, .bl b2, .bl b3, .bl b4, .bl b5, .bl b6]):=AF;have n3:H l3=none:=s1.free (t1.free (t2.free hl3));have s3:Same H (upd G3 l3 (.lst ([.bl b1, .bl b2, .bl b3]++[.bl b4, .bl b5, .bl b6]))):=((s1.trans t1).trans t2).trans t3;have hx3:=t3 _ _ (t2 _ _ hx2);generalize upd G3 l3 _=G4 at*
  have nxl:y≠l3:=AQ (t2 _ _ hx2) hl3;clear t1 t2 t3 g1 g2 hx hx2 hl1 hl2 hl3 s1 sG;show⟨SqL.ty (SqL.of g3),?_⟩;show Cr hx3 Z k7 ?_;show⟨l3,_,_,rfl,rfl,g3,EE (show 6<=1000 by decide),?_⟩;have t4:Same H (upd G4 l3 (.lst ([.bl b1, .bl b2, .bl b3, .bl b4, .bl b5, .bl b6]++[.bl b7]))):=λb o z=>by rw[AG (AQ z n3)];exact s3 b o z
  have g4:(upd G4 l3 (.lst ([.bl b1, .bl b2, .bl b3, .bl b4, .bl b5, .bl b6]++[.bl b7]))) l3=some (.lst ([b1,b2,b3,b4,b5,b6,b7].map V.bl)):=AF;have hx4:(upd G4 l3 (.lst ([.bl b1, .bl b2, .bl b3, .bl b4, .bl b5, .bl b6]++[.bl b7]))) y=some (BG ob y C):=by rw[AG nxl];exact hx3
  generalize upd G4 l3 _=G5 at*
  clear s3 g3 hx3;show⟨small (show 4<=1000 by decide),λtp htp=>?_⟩;have t5:=AI htp (.tup ([cs.NoPlace,cs.NoTree,cs.NoWeights,cs.TooMany].map V.ref));show Sg (cs:=[cs.NoPlace,cs.NoTree,cs.NoWeights,cs.TooMany]) (t5 _ _ hx4) Z AF ka ?_;show ifq rfl ?_;show Sh (t5 _ _ hx4) Z kv ?_;show ifq rfl ?_;show⟨SqL.ty (SqL.of (t5 _ _ g4)),?_⟩;show⟨l3,_,_,rfl,rfl,t5 _ _ g4,?_⟩;rw[hc];show ifq rfl ?_;show⟨small (show 7<=1000 by decide),λl6 hl6=>?_⟩;have t6:=AI hl6 (.lst [tx [78,111,82,111,119],tx [78,111,78,97,109,101],tx [78,111,75,105,110,100,115],tx [78,111,76,105,110,101],tx [78,111,78,117,109,98,101,114],tx [78,111,116,82,105,103,104,116],tx [78,111,70,105,108,108,105,110,103]]);show⟨SqL.ty (SqL.of (t6 _ _ (t5 _ _ g4))),?_⟩;show⟨l3,_,_,j,rfl,rfl,t6 _ _ (t5 _ _ g4),hj,hm,by simp,?_⟩;refine AN (SqL.of AF) hw ?_;refine BD (small (by simp only[List.length_cons,List.length_nil];lia)) ?_;exact q _ ((t4.trans t5).trans t6)
theorem Mh:FuV P w K mg base (k+2) "_law_no_row" ["pool"] (spNoRow9 K):=FnA.u (T.f.at 65) (scN ["pool","rows"]) λnd _ _ _ _ _ H _ _ _ hr h=>by
 obtain⟨p,rfl,po,q⟩:=h;have hu:=hr.units0;refine⟨_,(PSsb.pss (Ab (Jf (i:=1) rfl nd rfl (Or.inl rfl) (Or.inl rfl) (Pl.con Ae (Pl.con AC (Pl.lst (AW (AA (pxt [110,97,109,101,115]) AB)) (Pl.con (pxt []) (Pl.con (pxt [32]) (Pl.con (pxt [114,111,119]) Pl.nil))))))) (Ab (A9 (i:=1) (j:=1) rfl nd rfl (Or.inl rfl) (Or.inl rfl) (PEb.mk (pv 1)) (Pl.con (pxt [114,111,119,32,97]) (Pl.con (pxt [114,111,119,32,65,32,40,41]) (Pl.con (pxt [114,111,119,32,97,49,32,40,41]) (Pl.con (pxt [114,111,119,32,97,98,99,100,101,102,103,104,105,32,40,41]) (Pl.con (pxt [110,117,109,98,101,114,32,97]) (Pl.con (pxt [107,105,110,100,115,32,48,52]) Pl.nil))))))) (Ab (A9 (i:=1) (j:=1) rfl nd rfl (Or.inl rfl) (Or.inl rfl) (PEb.mk (pv 1)) (Pl.con (pxt [107,105,110,100,115]) (Pl.con (pxt [107,105,110,100,115,32,120]) (Pl.con (pxt [107,105,110,100,115,32,45,49]) (Pl.con (pxt [107,105,110,100,115,32,49,48,48,48,48,48,48,48,48,48]) (Pl.con (pxt [107,105,110,100,115,32,50,32,50]) Pl.nil)))))) (Ab (A9 (i:=1) (j:=1) rfl nd rfl (Or.inl rfl) (Or.inl rfl) (PEb.mk (pv 1)) (Pl.con (pxt [116,117,114,110,32,97]) (Pl.con (pxt [116,117,114,110,32,97,32,65]) (Pl.con (pxt [116,117,114,110,32,97,32,119,32,97]) (Pl.con (pxt [100,114,111,112]) Pl.nil))))) (Ab (A9 (i:=1) (j:=1) rfl nd rfl (Or.inl rfl) (Or.inl rfl) (PEb.mk (pv 1)) (Pl.con (pxt [98,101,104,105,110,100,32,97,32,119]) (Pl.con (pxt [98,101,104,105,110,100,32,97,32,119,32,121,121,32,97]) (Pl.con (pxt [98,101,104,105,110,100,32,65,32,97,32,97]) (Pl.con (pxt [100,114,111,112,32,97,32,119]) Pl.nil))))) (Ab (A9 (i:=1) (j:=1) rfl nd rfl (Or.inl rfl) (Or.inl rfl) (PEb.mk (pv 1)) (Pl.con (pxt [110,116,104,32,97]) (Pl.con (pxt [110,116,104,32,97,32,48,48]) (Pl.con (pxt [110,116,104,32,97,32,45,49]) (Pl.con (pxt [110,116,104,32,121,121,32,120]) Pl.nil))))) (Ab (A9 (i:=1) (j:=1) rfl nd rfl (Or.inl rfl) (Or.inl rfl) (PEb.mk (pv 1)) (Pl.con (pxt [110,116,104,32,97,32,49,48,48,48,48,48,48,48,48,48]) (Pl.con (pxt [115,104,111,119]) (Pl.con (pxt [115,104,111,119,32,97,32,40,41]) (Pl.con (pxt [114,105,103,104,116,32,65]) (Pl.con (pxt [109,97,121]) Pl.nil)))))) (Ab (A9 (i:=1) (j:=1) rfl nd rfl (Or.inl rfl) (Or.inl rfl) (PEb.mk (pv 1)) (Pl.con (pxt [109,97,110,121,32,97,32,49]) (Pl.con (pxt [115,117,114,101,32,97,32]) (Pl.con (pxt [102,101,119,101,115,116,32,32,97]) (Pl.con (pxt [109,111,114,101,32,97,10]) Pl.nil))))) (Ab (A9 (i:=1) (j:=1) rfl nd rfl (Or.inl rfl) (Or.inl rfl) (PEb.mk (pv 1)) (Pl.con (pxt [110,97,109,101,115,32,97]) (Pl.con (pxt [110,97,109,101,115,32]) (Pl.con (pxt [32,110,97,109,101,115]) (Pl.con (pxt [83,104,111,119,32,97]) (Pl.con (pxt [115,105,122,101,32,97]) Pl.nil)))))) (Ab (A9 (i:=1) (j:=1) rfl nd rfl (Or.inl rfl) (Or.inl rfl) (PEb.mk (pv 1)) (Pl.con (pxt [116,117,114,110,32,32,97,32,97]) (Pl.con (pxt [110,117,109,98,101,114,32,65,32,40,41]) (Pl.con (pxt [114,111,119,32,10,97,32,40,41]) (Pl.con (pxt [98,101,104,105,110,100,32,121,121,32,121,121]) Pl.nil))))) (FN (PSb.mk (AK (AH K (pv 1) (AL (As T) hr (AA (pv 0) (AA AC AB)))))))))))))))))),?_⟩;simp only[Bz];show⟨small (show 1<=1000 by decide),λa0 ha0=>?_⟩;have t0:=AI ha0 (.lst [tx [110,97,109,101,115]]);have po0:=po.same t0;have n0:=po.ne ha0;have g0:(upd H a0 (.lst [tx [110,97,109,101,115]])) a0=_:=AF;generalize upd H a0 _=G0 at*
 show⟨small (show 6<=1000 by decide),λl1 hl1=>?_⟩;have o1:=OdG.mk (n:=6) (Pr:=Nr9 a0) po0 (SameBut1.refl p G0) hl1 (xs:=[.non, .int 7, .ref a0,tx [],tx [32],tx [114,111,119]]) (.cons (.inr (.inl rfl)) (.cons (.inr (.inr (.inl rfl))) (.cons (.inr (.inr (.inr rfl))) (.cons (.inl ⟨_,rfl,rfl⟩) (.cons (.inl ⟨_,rfl,rfl⟩) (.cons (.inl ⟨_,rfl,rfl⟩) .nil)))))) rfl (by decide);generalize upd G0 l1 _=H1 at*
 show⟨small (show 6<=1000 by decide),λl2 hl2=>?_⟩;refine o1.add hl2 (by repeat first|exact .nil|refine .cons (.inl ⟨_,rfl,rfl⟩) ?_) (m:=12) rfl (by decide) (λm2 H2 o2=>?_);show⟨small (show 5<=1000 by decide),λl3 hl3=>?_⟩;refine o2.add hl3 (by repeat first|exact .nil|refine .cons (.inl ⟨_,rfl,rfl⟩) ?_) (m:=17) rfl (by decide) (λm3 H3 o3=>?_);show⟨small (show 4<=1000 by decide),λl4 hl4=>?_⟩;refine o3.add hl4 (by repeat first|exact .nil|refine .cons (.inl ⟨_,rfl,rfl⟩) ?_) (m:=21) rfl (by decide) (λm4 H4 o4=>?_);show⟨small (show 4<=1000 by decide),λl5 hl5=>?_⟩;refine o4.add hl5 (by repeat first|exact .nil|refine .cons (.inl ⟨_,rfl,rfl⟩) ?_) (m:=25) rfl (by decide) (λm5 H5 o5=>?_);show⟨small (show 4<=1000 by decide),λl6 hl6=>?_⟩;refine o5.add hl6 (by repeat first|exact .nil|refine .cons (.inl ⟨_,rfl,rfl⟩) ?_) (m:=29) rfl (by decide) (λm6 H6 o6=>?_);show⟨small (show 5<=1000 by decide),λl7 hl7=>?_⟩;refine o6.add hl7 (by repeat first|exact .nil|refine .cons (.inl ⟨_,rfl,rfl⟩) ?_) (m:=34) rfl (by decide) (λm7 H7 o7=>?_);show⟨small (show 4<=1000 by decide),λl8 hl8=>?_⟩;refine o7.add hl8 (by repeat first|exact .nil|refine .cons (.inl ⟨_,rfl,rfl⟩) ?_) (m:=38) rfl (by decide) (λm8 H8 o8=>?_);show⟨small (show 5<=1000 by decide),λl9 hl9=>?_⟩;refine o8.add hl9 (by repeat first|exact .nil|refine .cons (.inl ⟨_,rfl,rfl⟩) ?_) (m:=43) rfl (by decide) (λm9 H9 o9=>?_);show⟨small (show 4<=1000 by decide),λl10 hl10=>?_⟩;refine o9.add hl10 (by repeat first|exact .nil|refine .cons (.inl ⟨_,rfl,rfl⟩) ?_) (m:=47) rfl (by decide) (λm10 H10 o10=>?_);show Ap o10.po (by decide) (by decide) (λi H5 i0 i1 p5 s5=>?_);refine o10.pick s5 i0 i1 λv hv s6=>?_;refine q v H5 p5 ((SameBut1.of t0).trans s6) ?_;rcases hv with⟨l,rfl,hl⟩|rfl|rfl|rfl
 ·exact UM hl
 ·exact .inr ⟨_, .non,by decide,by decide⟩
 ·exact .inr ⟨_, .int 7,by decide,by decide⟩
 ·exact .inr ⟨"list", .lst (s6 _ _ g0 n0),by decide,by decide⟩
theorem MW:FuV P w K mg base (k+2) "_law_no_name" ["pool"] (spTx9 bNn):=FnA.u (T.f.at 66) (scN ["pool","rows"]) λnd _ _ _ _ _ H _ _ _ hr h=>by
 obtain⟨p,rfl,po,q⟩:=h;have hu:=hr.units0;refine⟨_,(AD (AM 1 (AW (AA (pxt [116,117,114,110,32,113,32,121,121]) (AA (pxt [116,117,114,110,32,97,32,121,121]) (AA (pxt [98,101,104,105,110,100,32,113,32,121,121,32,97]) (AA (pxt [98,101,104,105,110,100,32,113,32,97,32,121,121]) AB)))))) (AD (PSb.ps (A9 (i:=1) (j:=1) rfl nd rfl (Or.inl rfl) (Or.inl rfl) (PEb.mk (pv 1)) (Pl.con (pxt [98,101,104,105,110,100,32,97,32,121,121,32,121,121]) (Pl.con (pxt [100,114,111,112,32,121,121]) (Pl.con (pxt [115,104,111,119,32,121,121]) (Pl.con (pxt [114,105,103,104,116,32,121,121]) Pl.nil)))))) (AD (PSb.ps (A9 (i:=1) (j:=1) rfl nd rfl (Or.inl rfl) (Or.inl rfl) (PEb.mk (pv 1)) (Pl.con (pxt [109,97,121,32,121,121]) (Pl.con (pxt [109,97,110,121,32,121,121]) (Pl.con (pxt [110,116,104,32,121,121,32,48]) (Pl.con (pxt [110,116,104,32,121,121,32,57,57,57,57,57,57,57,57,57]) Pl.nil)))))) (AD (PSb.ps (A9 (i:=1) (j:=1) rfl nd rfl (Or.inl rfl) (Or.inl rfl) (PEb.mk (pv 1)) (Pl.con (pxt [110,117,109,98,101,114,32,121,121,32,40,41]) (Pl.con (pxt [110,117,109,98,101,114,32,121,121,32,120]) (Pl.con (pxt [110,117,109,98,101,114,32,121,121,32]) (Pl.con (pxt [115,117,114,101,32,121,121]) Pl.nil)))))) (AD (AM 1 (AJ AO (pv 1) (AW (AA (pxt [102,101,119,101,115,116,32,121,121]) (AA (pxt [109,111,114,101,32,121,121]) AB))))) (AE (AK (AH K (pv 1) (AL (As T) hr (AA (pv 0) (AA AC AB))))))))))),?_⟩;simp only[Bz];show⟨small (show 4<=1000 by decide),λl1 hl1=>?_⟩;generalize hG:upd H l1 _=H1;have o1:=OdG.of (n:=4) (Pr:=Tx9 bNn) hG po (SameBut1.refl p H) hl1 (by repeat first|exact .nil|refine .cons (⟨_,rfl,rfl⟩) ?_) rfl (by decide);clear hG;show⟨small (show 4<=1000 by decide),λl2 hl2=>?_⟩;refine o1.add hl2 (by repeat first|exact .nil|refine .cons (⟨_,rfl,rfl⟩) ?_) (m:=8) rfl (by decide) (λm2 H2 o2=>?_);show⟨small (show 4<=1000 by decide),λl3 hl3=>?_⟩;refine o2.add hl3 (by repeat first|exact .nil|refine .cons (⟨_,rfl,rfl⟩) ?_) (m:=12) rfl (by decide) (λm3 H3 o3=>?_);show⟨small (show 4<=1000 by decide),λl4 hl4=>?_⟩;refine o3.add hl4 (by repeat first|exact .nil|refine .cons (⟨_,rfl,rfl⟩) ?_) (m:=16) rfl (by decide) (λm4 H4 o4=>?_);show⟨small (show 2<=1000 by decide),λl5 hl5=>?_⟩;refine o4.add hl5 (by repeat first|exact .nil|refine .cons (⟨_,rfl,rfl⟩) ?_) (m:=18) rfl (by decide) (λm5 H5 o5=>?_);show Ap o5.po (by decide) (by decide) (λi H5 i0 i1 p5 s5=>?_);refine o5.pick s5 i0 i1 λv hv s6=>?_;obtain⟨l,rfl,hl⟩:=hv;exact q l H5 p5 s6 hl
theorem MX:FuV P w K mg base (k+2) "_law_no_line" ["pool"] (spTx9 bLn):=FnA.u (T.f.at 67) (scN ["pool","rows"]) λnd _ _ _ _ _ H _ _ _ hr h=>by
 obtain⟨p,rfl,po,q⟩:=h;have hu:=hr.units0;refine⟨_,(AD (AM 1 (AW (AA (pxt [114,111,119,32,113,32,120]) (AA (pxt [114,111,119,32,97,32,123,125]) (AA (pxt [114,111,119,32,121,121,32,60]) (AA (pxt [114,111,119,32,113,32,40,32,41]) AB)))))) (AD (PSb.ps (A9 (i:=1) (j:=1) rfl nd rfl (Or.inl rfl) (Or.inl rfl) (PEb.mk (pv 1)) (Pl.con (pxt [114,111,119,32,113,32,32,40,41]) (Pl.con (pxt [114,111,119,32,102,32,40,41,10]) (Pl.con (pxt [114,111,119,32,97,32,63,97]) (Pl.bin (AJ AO (pxt [114,111,119,32,113,32]) (AJ A6 (pxt [63]) (AH K (AW (AA AC (AA AC AB))) (AL (As T) hr (AA (pv 0) (AA AC AB)))))) Pl.nil)))))) (AD (PSb.ps (A9 (i:=1) (j:=1) rfl nd rfl (Or.inl rfl) (Or.inl rfl) (PEb.mk (pv 1)) (Pl.bin (AJ AO (AJ AO (pxt [114,111,119,32,113,32]) (AJ A6 (pxt [40,41]) AC)) (pxt [40])) (Pl.con (pxt [110,117,109,98,101,114,32,97,32,123,125]) (Pl.con (pxt [110,117,109,98,101,114,32,97,32,120]) Pl.nil))))) (AD (PSb.ps (A9 (i:=1) (j:=1) rfl nd rfl (Or.inl rfl) (Or.inl rfl) (PEb.mk (pv 1)) (Pl.con (pxt [110,117,109,98,101,114,32,119,32,40,32,41]) (Pl.bin (AJ AO (pxt [110,117,109,98,101,114,32,102,32]) (AJ A6 (pxt [63]) AC)) (Pl.con (pxt [114,111,119,32,97,32,9]) Pl.nil))))) (AD (PSb.ps (A9 (i:=1) (j:=1) rfl nd rfl (Or.inl rfl) (Or.inl rfl) (PEb.mk (pv 1)) (Pl.con (pxt [110,117,109,98,101,114,32,101,32,32]) (Pl.con (pxt [98,101,104,105,110,100,32,113,32,102,32,97]) (Pl.con (pxt [98,101,104,105,110,100,32,102,32,102,32,102]) (Pl.con (pxt [98,101,104,105,110,100,32,97,32,119,32,102]) Pl.nil)))))) (AE (AK (AH K (pv 1) (AL (As T) hr (AA (pv 0) (AA AC AB))))))))))),?_⟩;simp only[Bz];show⟨small (show 4<=1000 by decide),λl1 hl1=>?_⟩;generalize hG:upd H l1 _=H1;have o1:=OdG.of (n:=4) (Pr:=Tx9 bLn) hG po (SameBut1.refl p H) hl1 (by repeat first|exact .nil|refine .cons (⟨_,rfl,rfl⟩) ?_) rfl (by decide);clear hG;show⟨small (show 2<=1000 by decide),λla hla=>?_⟩;have ta:=AI hla (.lst [.int 41, .int 900]);have ga:(upd H1 la (.lst [.int 41, .int 900])) la=_:=AF;have oa:=o1.but (SameBut1.of ta) (o1.po.same ta);have na:=o1.po.ne hla;generalize upd H1 la _=H2 at*
 show Ap oa.po (by decide) (by decide) (λi H3 i0 i1 p3 s3=>?_);have ob:=oa.but s3 p3;obtain⟨n,hn,hb⟩:∃n:Int,atI [V.int 41,V.int 900] i=some (V.int n)/\(n=41\/n=900):=by
  have:i=0\/i=1:=by lia
  rcases this with rfl|rfl
  ·exact⟨41,rfl, .inl rfl⟩
  ·exact⟨900,rfl, .inr rfl⟩
 refine AN (SqL.of (s3 _ _ ga na)) hn ?_;have hx:bLn ([114,111,119,32,113,32]++(List.replicate n.toNat [63]).flatten)=true:=by rcases hb with rfl|rfl<;>decide +kernel
 have hlen:(List.replicate n.toNat [63]).flatten.length<=900:=by rw[RE,List.length_singleton];lia
 refine Cq (by lia) (by lia) (by simp) ?_;show⟨small (show 4<=1000 by decide),λl2 hl2=>?_⟩;refine ob.add hl2 (.cons ⟨_,rfl,rfl⟩ (.cons ⟨_,rfl,rfl⟩ (.cons ⟨_,rfl,rfl⟩ (.cons ⟨_,rfl,hx⟩ .nil)))) (m:=8) rfl (by decide) (λm2 H2 o2=>?_);show Cq ?_ ?_ ?_ ?_
 ·decide
 ·decide
 ·decide
 refine BD (small ?_) ?_
 ·exact Nat.le_of_ble_eq_true rfl
 refine BD (small ?_) ?_
 ·exact Nat.le_of_ble_eq_true rfl
 show⟨small (show 3<=1000 by decide),λl3 hl3=>?_⟩;refine o2.add hl3 (by repeat first|exact .nil|refine .cons (⟨_,rfl,by first|rfl|decide +kernel⟩) ?_) (m:=11) rfl (by decide) (λm3 H3 o3=>?_);show Cq ?_ ?_ ?_ ?_
 ·decide
 ·decide
 ·decide
 refine BD (small ?_) ?_
 ·exact Nat.le_of_ble_eq_true rfl
 show⟨small (show 3<=1000 by decide),λl4 hl4=>?_⟩;refine o3.add hl4 (by repeat first|exact .nil|refine .cons (⟨_,rfl,by first|rfl|decide +kernel⟩) ?_) (m:=14) rfl (by decide) (λm4 H4 o4=>?_);show⟨small (show 4<=1000 by decide),λl5 hl5=>?_⟩;refine o4.add hl5 (by repeat first|exact .nil|refine .cons (⟨_,rfl,by first|rfl|decide +kernel⟩) ?_) (m:=18) rfl (by decide) (λm5 H5 o5=>?_);show Ap o5.po (by decide) (by decide) (λj H5 j0 j1 p5 s5=>?_);refine o5.pick s5 j0 j1 λv hv s6=>?_;obtain⟨l,rfl,hl⟩:=hv;exact q l H5 p5 s6 hl
theorem NH:FuV P w K mg base (k+2) "_law_else" ["pool"] (spElse9):=FnA.u (T.f.at 68) (scN ["pool","some","due","row"]) λnd _ _ _ _ _ H _ _ _ hr h=>by
 obtain⟨p,rfl,po,q⟩:=h;have hu:=hr.units0;have sR:=SameBut1.refl p H;refine⟨_,(PSsb.pss (Ab (PSb.mk (AM 1 (AW (AA (Ad (AA (pxt [78,111,116,82,105,103,104,116]) (AA (pxt [110,117,109,98,101,114,32,119,32,40,40]) AB))) (AA (Ad (AA (pxt [78,111,116,82,105,103,104,116]) (AA (pxt [110,117,109,98,101,114,32,119,32]) AB))) AB))))) (Ab (PSb.mk (AM 1 (AJ AO (pv 1) (AW (AA (Ad (AA (pxt [78,111,116,82,105,103,104,116]) (AA (pxt [110,117,109,98,101,114,32,101,32,40,41]) AB))) (AA (Ad (AA (pxt [78,111,116,82,105,103,104,116]) (AA (pxt [110,117,109,98,101,114,32,102,32,40,41]) AB))) AB)))))) (Ab (PSb.mk (AM 1 (AJ AO (pv 1) (AW (AA (Ad (AA (pxt [78,111,116,82,105,103,104,116]) (AA (AJ AO (pxt [110,117,109,98,101,114,32,102,32]) (AJ A6 (pxt [40,41]) AC)) AB))) (AA (Ad (AA (pxt [78,111,116,82,105,103,104,116]) (AA (AJ AO (pxt [110,117,109,98,101,114,32,97,32,63]) (AJ A6 (pxt [40]) AC)) AB))) AB)))))) (Ab (PSb.mk (AM 1 (AJ AO (pv 1) (AW (AA (Ad (AA (pxt [78,111,78,117,109,98,101,114]) (AA (pxt [110,116,104,32,119,32,48]) AB))) AB))))) (Ab (PSb.mk (AM 1 (AJ AO (pv 1) (AW (AA (Ad (AA (pxt [78,111,78,117,109,98,101,114]) (AA (pxt [110,116,104,32,119,32,57,57,57,57,57,57,57,57,57]) AB))) (AA (Ad (AA (pxt [78,111,78,117,109,98,101,114]) (AA (pxt [110,116,104,32,101,32,49]) AB))) AB)))))) (Ab (PSb.mk (AM 1 (AJ AO (pv 1) (AW (AA (Ad (AA (pxt [78,111,78,117,109,98,101,114]) (AA (pxt [110,116,104,32,102,32,48]) AB))) (AA (Ad (AA (pxt [78,111,70,105,108,108,105,110,103]) (AA (pxt [115,117,114,101,32,119]) AB))) AB)))))) (Ab (PSb.mk (AM 1 (AJ AO (pv 1) (AW (AA (Ad (AA (pxt [78,111,70,105,108,108,105,110,103]) (AA (pxt [115,117,114,101,32,102]) AB))) (AA (Ad (AA (pxt [78,111,75,105,110,100,115]) (AA (pxt [107,105,110,100,115,32,48]) AB))) AB)))))) (Ab (PSb.mk (AM 1 (AJ AO (pv 1) (AW (AA (Ad (AA (pxt [78,111,75,105,110,100,115]) (AA (pxt [107,105,110,100,115,32,53]) AB))) (AA (Ad (AA (pxt [78,111,75,105,110,100,115]) (AA (pxt [107,105,110,100,115,32,57,57,57,57,57,57,57,57,57]) AB))) AB)))))) (Ab (A9 (i:=1) (j:=1) rfl nd rfl (Or.inl rfl) (Or.inl rfl) (PEb.mk (pv 1)) (Pl.tup (Ad (AA (pxt [78,111,116,82,105,103,104,116]) (AA (pxt [110,117,109,98,101,114,32,119,32,63]) AB))) (Pl.tup (Ad (AA (pxt [78,111,116,82,105,103,104,116]) (AA (pxt [110,117,109,98,101,114,32,101,32,63]) AB))) (Pl.tup (Ad (AA (pxt [78,111,75,105,110,100,115]) (AA (pxt [107,105,110,100,115,32,49,48]) AB))) Pl.nil)))) (Ab (PSb.mk (BY (AH K (pv 1) (AL (As T) hr (AA (pv 0) (AA AC AB)))) (Bu (n:=2) K rfl (Ao (Af 2) (Ao (Af 3) Bi))))) (FN (PSb.mk (AK (Ad (AA (AJ AO (pxt [9]) (pv 2)) (AA (pv 3) AB))))))))))))))))),?_⟩;show⟨small (show 2<=1000 by decide),λT1 hT1=>?_⟩;generalize hG:upd H T1 _=J1;obtain⟨e1,p1,s1⟩:=El9.of hG po hT1 (by decide +kernel);clear hG;show⟨small (show 2<=1000 by decide),λT2 hT2=>?_⟩;generalize hG:upd J1 T2 _=J2;obtain⟨e2,p2,s2⟩:=El9.of hG p1 hT2 (by decide +kernel);clear hG
 replace e1:=e1.keep (SameBut1.of s2)
 show⟨small (show 2<=1000 by decide),λl1 hl1=>?_⟩;generalize hG:upd J2 l1 _=G1;have o1:=OdE.of (n:=2) hG p2 (sR.trans (SameBut1.of (s1.trans s2))) hl1 (BB e1 (BB e2 CF)) rfl (by decide);clear hG;ext;show⟨small (show 2<=1000 by decide),λT3 hT3=>?_⟩;generalize hG:upd G1 T3 _=J3;obtain⟨e3,p3,s3⟩:=El9.of hG o1.po hT3 (by decide +kernel);clear hG
 replace o1:=o1.but (SameBut1.of s3) p3
 show⟨small (show 2<=1000 by decide),λT4 hT4=>?_⟩;generalize hG:upd J3 T4 _=J4;obtain⟨e4,p4,s4⟩:=El9.of hG p3 hT4 (by decide +kernel);clear hG
 replace e3:=e3.keep (SameBut1.of s4)
 replace o1:=o1.but (SameBut1.of s4) p4
 show⟨small (show 2<=1000 by decide),λl2 hl2=>?_⟩;refine o1.add hl2 (BB e3 (BB e4 CF)) (m:=4) rfl (by decide) (λm2 G2 o2=>?_);ext;show Cq ?_ ?_ ?_ ?_
 ·decide
 ·decide
 ·decide
 show BD (small ?_) ?_
 ·exact Nat.le_of_ble_eq_true rfl
 show⟨small (show 2<=1000 by decide),λT5 hT5=>?_⟩;generalize hG:upd G2 T5 _=J5;obtain⟨e5,p5,s5⟩:=El9.of hG o2.po hT5 (by decide +kernel);clear hG
 replace o2:=o2.but (SameBut1.of s5) p5
 show Cq ?_ ?_ ?_ ?_
 ·decide
 ·decide
 ·decide
 show BD (small ?_) ?_
 ·exact Nat.le_of_ble_eq_true rfl
 show⟨small (show 2<=1000 by decide),λT6 hT6=>?_⟩;generalize hG:upd J5 T6 _=J6;obtain⟨e6,p6,s6⟩:=El9.of hG p5 hT6 (by decide +kernel);clear hG
 replace e5:=e5.keep (SameBut1.of s6)
 replace o2:=o2.but (SameBut1.of s6) p6
 show⟨small (show 2<=1000 by decide),λl3 hl3=>?_⟩;refine o2.add hl3 (BB e5 (BB e6 CF)) (m:=6) rfl (by decide) (λm3 G3 o3=>?_);ext;show⟨small (show 2<=1000 by decide),λT7 hT7=>?_⟩;generalize hG:upd G3 T7 _=J7;obtain⟨e7,p7,s7⟩:=El9.of hG o3.po hT7 (by decide +kernel);clear hG
 replace o3:=o3.but (SameBut1.of s7) p7
 show⟨small (show 1<=1000 by decide),λl4 hl4=>?_⟩;refine o3.add hl4 (BB e7 CF) (m:=7) rfl (by decide) (λm4 G4 o4=>?_);ext;show⟨small (show 2<=1000 by decide),λT8 hT8=>?_⟩;generalize hG:upd G4 T8 _=J8;obtain⟨e8,p8,s8⟩:=El9.of hG o4.po hT8 (by decide +kernel);clear hG
 replace o4:=o4.but (SameBut1.of s8) p8
 show⟨small (show 2<=1000 by decide),λT9 hT9=>?_⟩;generalize hG:upd J8 T9 _=J9;obtain⟨e9,p9,s9⟩:=El9.of hG p8 hT9 (by decide +kernel);clear hG
 replace e8:=e8.keep (SameBut1.of s9)
 replace o4:=o4.but (SameBut1.of s9) p9
 show⟨small (show 2<=1000 by decide),λl5 hl5=>?_⟩;refine o4.add hl5 (BB e8 (BB e9 CF)) (m:=9) rfl (by decide) (λm5 G5 o5=>?_);ext;show⟨small (show 2<=1000 by decide),λT10 hT10=>?_⟩;generalize hG:upd G5 T10 _=J10;obtain⟨e10,p10,s10⟩:=El9.of hG o5.po hT10 (by decide +kernel);clear hG
 replace o5:=o5.but (SameBut1.of s10) p10
 show⟨small (show 2<=1000 by decide),λT11 hT11=>?_⟩;generalize hG:upd J10 T11 _=J11;obtain⟨e11,p11,s11⟩:=El9.of hG p10 hT11 (by decide +kernel);clear hG
 replace e10:=e10.keep (SameBut1.of s11)
 replace o5:=o5.but (SameBut1.of s11) p11
 show⟨small (show 2<=1000 by decide),λl6 hl6=>?_⟩;refine o5.add hl6 (BB e10 (BB e11 CF)) (m:=11) rfl (by decide) (λm6 G6 o6=>?_);ext;show⟨small (show 2<=1000 by decide),λT12 hT12=>?_⟩;generalize hG:upd G6 T12 _=J12;obtain⟨e12,p12,s12⟩:=El9.of hG o6.po hT12 (by decide +kernel);clear hG
 replace o6:=o6.but (SameBut1.of s12) p12
 show⟨small (show 2<=1000 by decide),λT13 hT13=>?_⟩;generalize hG:upd J12 T13 _=J13;obtain⟨e13,p13,s13⟩:=El9.of hG p12 hT13 (by decide +kernel);clear hG
 replace e12:=e12.keep (SameBut1.of s13)
 replace o6:=o6.but (SameBut1.of s13) p13
 show⟨small (show 2<=1000 by decide),λl7 hl7=>?_⟩;refine o6.add hl7 (BB e12 (BB e13 CF)) (m:=13) rfl (by decide) (λm7 G7 o7=>?_);ext;show⟨small (show 2<=1000 by decide),λT14 hT14=>?_⟩;generalize hG:upd G7 T14 _=J14;obtain⟨e14,p14,s14⟩:=El9.of hG o7.po hT14 (by decide +kernel);clear hG
 replace o7:=o7.but (SameBut1.of s14) p14
 show⟨small (show 2<=1000 by decide),λT15 hT15=>?_⟩;generalize hG:upd J14 T15 _=J15;obtain⟨e15,p15,s15⟩:=El9.of hG p14 hT15 (by decide +kernel);clear hG
 replace e14:=e14.keep (SameBut1.of s15)
 replace o7:=o7.but (SameBut1.of s15) p15
 show⟨small (show 2<=1000 by decide),λl8 hl8=>?_⟩;refine o7.add hl8 (BB e14 (BB e15 CF)) (m:=15) rfl (by decide) (λm8 G8 o8=>?_);ext;show⟨small (show 2<=1000 by decide),λT16 hT16=>?_⟩;generalize hG:upd G8 T16 _=J16;obtain⟨e16,p16,s16⟩:=El9.of hG o8.po hT16 (by decide +kernel);clear hG
 replace o8:=o8.but (SameBut1.of s16) p16
 show⟨small (show 2<=1000 by decide),λT17 hT17=>?_⟩;generalize hG:upd J16 T17 _=J17;obtain⟨e17,p17,s17⟩:=El9.of hG p16 hT17 (by decide +kernel);clear hG
 replace e16:=e16.keep (SameBut1.of s17)
 replace o8:=o8.but (SameBut1.of s17) p17
 show⟨small (show 2<=1000 by decide),λT18 hT18=>?_⟩;generalize hG:upd J17 T18 _=J18;obtain⟨e18,p18,s18⟩:=El9.of hG p17 hT18 (by decide +kernel);clear hG
 replace e16:=e16.keep (SameBut1.of s18)
 replace e17:=e17.keep (SameBut1.of s18)
 replace o8:=o8.but (SameBut1.of s18) p18
 show⟨small (show 3<=1000 by decide),λl9 hl9=>?_⟩;refine o8.add hl9 (BB e16 (BB e17 (BB e18 CF))) (m:=18) rfl (by decide) (λm9 G9 o9=>?_);show Ap o9.po (by decide) (by decide) (λi H5 i0 i1 p5 s5=>?_);refine o9.pick s5 i0 i1 λv hv s6=>?_;obtain⟨T,du,l,rfl,hT,hb,nT⟩:=hv;show⟨T,_,rfl,SqT.of hT,rfl,?_⟩;rw[Bool.and_eq_true,decide_eq_true_eq]at hb;have hdl:=hb.2;show⟨small (show 2<=1000 by decide),λT2 hT2=>?_⟩;have t2:=AI hT2 (.tup [tx ([9]++du),tx l]);exact q T2 (9::du) l _ (p5.same t2) (s6.trans (SameBut1.of t2)) AF hb.1
theorem Eu:FuV P w K mg base (k+11) "_law_stands" ["desk","number"] (spStands9 K aE):=FnA.u (T.f.at 69) (scN ["desk","number","rows","found","row"]) λnd _ _ _ _ s H _ _ _ hr h=>by
 obtain⟨d,r,a,num,rfl,hd,ha,i0,i1,q⟩:=h;have hu:=hr.units0;have hu2:=A4 hr;refine⟨_,(AD (PSb.ps (Jf (i:=2) rfl nd rfl (Or.inl rfl) (Or.inl rfl) (Pl.con (pxt [110,97,109,101,115]) (Pl.con (pxt [115,104,111,119,32,97]) (Pl.con (pxt [115,104,111,119,32,119]) (Pl.con (pxt [115,104,111,119,32,102]) (Pl.con (pxt [115,104,111,119,32,101]) (Pl.con (pxt [109,97,121,32,119]) Pl.nil)))))))) (AD (PSb.ps (A9 (i:=2) (j:=2) rfl nd rfl (Or.inl rfl) (Or.inl rfl) (PEb.mk (pv 2)) (Pl.con (pxt [109,97,110,121,32,97]) (Pl.con (pxt [102,101,119,101,115,116,32,119]) (Pl.con (pxt [109,111,114,101,32,102]) (Pl.con (pxt [115,117,114,101,32,101]) (Pl.con (pxt [110,116,104,32,101,32,48]) Pl.nil))))))) (AD (CH (i:=3) nd rfl (Or.inr rfl) FP) (AD (BI PassesOwn.never rfl (B6 K (AH K (AW (AA (pv 2) (AA (TU K (pv 2) (Bo Bm AC)) AB))) (pv 1))) (Af 4) (AE (Fe hu2 (pv 3) (pv 4) (AL (C8 T) hr (AA (pv 0) (AA (pv 4) AB))) rfl))) (AE (AK (Ad (AA (Fh T.E.cl (Gs T) hr (pv 0)) (AA (BA (own:=["row"]) (sel:=[3]) (A2 (osc:=(AU (top 117))) (N:=["desk","number","rows","found","row"]) (by decide +kernel)) rfl (B6 K (pv 2)) (λ_ _ _ _ _=>(Ah (i:=0) (show(["row","found"]:List Str).Nodup from by decide +kernel) rfl (Or.inl rfl))) (Aq (by decide)) (λ_ _ _ _ _=>A3) (λ_ _ _ _ _=>(Bx hu2 (pv 1) (pv 0)))) AB))))))))),?_⟩;simp only[Bz];show⟨small (show 6<=1000 by decide),λl1 hl1=>?_⟩;generalize e1:upd H l1 _=H1;obtain⟨g1,s1⟩:H1 l1=some (.lst (((qs9 a).take 6).map λx=>tx x.1))/\Same H H1:=by subst e1;exact⟨AF,AI hl1 _⟩
 clear e1;show⟨small (show 5<=1000 by decide),λl2 hl2=>?_⟩;have t2:=AI hl2 (.lst (((qs9 a).drop 6).map λx=>tx x.1));refine Ct (xs:=((qs9 a).take 6).map λx=>tx x.1) (ys:=((qs9 a).drop 6).map λx=>tx x.1) (t2 _ _ g1) AF (small (show 11<=1000 by decide)) (λl3 hl3=>?_);generalize e3:upd _ l3 _=H3;obtain⟨g3,s3⟩:H3 l3=some (.lst ((qs9 a).map λx=>tx x.1))/\Same H H3:=by subst e3;exact⟨AF,(s1.trans t2).trans (AI hl3 _)⟩
 clear e3;ext;intro f hf;generalize e4:upd H3 f _=H4;obtain⟨g4,s4⟩:H4 f=some (.dK [])/\Same H3 H4:=by subst e4;exact⟨AF,AI hf _⟩
 clear e4;have g34:=s4 _ _ g3;show SM (SqL.of g34) λrv hrv=>?_;generalize e5:upd H4 rv _=H5;obtain⟨g5,s5⟩:H5 rv=some (.lst ((qs9 a).map λx=>tx x.1).reverse)/\Same H4 H5:=by subst e5;exact⟨AF,AI hrv _⟩
 clear e5;show⟨small (show 2<=1000 by decide),λl6 hl6=>?_⟩;generalize e6:upd H5 l6 _=H6;obtain⟨g6,s6⟩:H6 l6=some (.lst [.ref l3, .ref rv])/\Same H5 H6:=by subst e6;exact⟨AF,AI hl6 _⟩
 clear e6;obtain⟨w,qsx,hat,hw,hmem,hlen⟩:∃ (w:Addr) (qsx:List (List Nat×List Nat)),atI [V.ref l3,V.ref rv] num=some (.ref w)/\H6 w=some (.lst (qsx.map λx:List Nat×List Nat=>tx x.1))/\(∀x,x∈qsx↔x∈qs9 a)/\qsx.length=11:=by
  have:num=0\/num=1:=by lia
  rcases this with rfl|rfl
  ·exact⟨l3,qs9 a,rfl,s6 _ _ (s5 _ _ g34),λ_=>Iff.rfl,rfl⟩
  ·exact⟨rv,(qs9 a).reverse,rfl,by rw[List.map_reverse];exact s6 _ _ g5,λ_=>List.mem_reverse,rfl⟩
 show AN (SqL.of g6) hat ?_;have sA:Same H H6:=((s3.trans s4).trans s5).trans s6;have sB:Same H4 H6:=s5.trans s6;have fH:H f=none:=s3.free hf;have gf:=sB _ _ g4;have nw:w≠f:=λz=>by rw[z,gf]at hw;cases hw
 have nl:l3≠f:=λz=>by rw[z,g4]at g34;cases g34
 have gl:=sB _ _ g34;clear g1 g3 g34 g4 g5 g6 s1 t2 s3 s4 s5 s6 hf hrv hl6 hl1 hl2 hl3;have hd6:=hd.same sA;refine⟨w,rfl,⟨_,SqL.of hw⟩,?_⟩;refine QN (xs:=qsx.map λx=>tx x.1) (λi σ H'=>∃ (kvs:Kv) (o:Option V),σ=[some (.ref d),some (.int num),some (.ref l3),some (.ref f),o]/\SameBut1 f H6 H'/\H' f=some (.dK kvs)/\kvs.length<=i/\∀j x,j<i->qsx[j]? =some x->AR kvs (kyT x.1)=some (tx x.2)) ⟨[],_,rfl,SameBut1.refl f H6,gf,Nat.le_refl _,λj x z=>absurd z (Nat.not_lt_zero j)⟩ (λi σ H' _ ⟨_,_,_,sb,_⟩=>SqL.of (sb _ _ hw nw)) ?_ ?_
 ·intro i v σ H7 hv z_;obtain⟨kvs,o,rfl,sb,gk,hkl,hall⟩:=z_;have hi:=(List.getElem?_eq_some_iff.mp hv).1;rw[List.length_map,hlen]at hi;rw[List.getElem?_map]at hv;obtain⟨x,hx,rfl⟩:=Option.map_eq_some_iff.mp hv;have hm:=(hmem x).mp (List.mem_of_getElem? hx);have hd7:Dk aE H7 d r 2 (kv9 a):=by
   obtain⟨⟨dx,e1⟩,e2⟩:=hd6;exact⟨⟨dx,sb _ _ e1 λz=>by rw[z,gf]at e1;cases e1⟩,sb _ _ e2 λz=>by
    obtain⟨_,e3⟩:=hd;rw[z,fH]at e3;cases e3⟩
  show Lw hd7 ha hm λH8 s8=>?_;show⟨f,_,rfl,DPut.k (k:=kyT x.1) (s8 _ _ gk) (by rw[sizeLine_eq];lia),?_⟩;show⟨putK kvs (kyT x.1) (tx x.2),_,rfl,λb y z nb=>?_,AF,Nat.le_trans (Ey _ _ _) (by lia),λj y hj hy=>?_⟩
  ·rw[AG nb];exact s8 _ _ (sb _ _ z nb)
  ·rw[PY]
   by_cases e:kyT y.1=kyT x.1
   ·rw[if_pos e,<-Ft hm,<-Ft ((hmem y).mp (List.mem_of_getElem? hy)),Jq e]
   ·rw[if_neg e];refine hall j y ?_ hy
    by_cases c:j=i
    ·subst c;rw[hx]at hy
     cases hy
     exact absurd rfl e
    ·lia
 intro σ H7 z_;obtain⟨kvs,o,rfl,sb,gk,hkl,hall⟩:=z_;rw[List.length_map]at hall;have hd7:Dk aE H7 d r 2 (kv9 a):=by
  obtain⟨⟨dx,e1⟩,e2⟩:=hd6;exact⟨⟨dx,sb _ _ e1 λz=>by rw[z,gf]at e1;cases e1⟩,sb _ _ e2 λz=>by
   obtain⟨_,e3⟩:=hd;rw[z,fH]at e3;cases e3⟩
 have s7:Same H H7:=λb x z=>sb _ _ (sA _ _ z) (AQ z fH);have gl7:=sb _ _ gl nl;have val:∀x,x∈qs9 a->AR kvs (kyT x.1)=some (tx x.2):=λx hx=>by
  obtain⟨j,hj⟩:=List.mem_iff_getElem?.mp ((hmem x).mpr hx);exact hall j x (List.getElem?_eq_some_iff.mp hj).1 hj
 clear hall hmem hd6 sb sA;obtain⟨⟨dx,e1⟩,_⟩:=id hd7;show⟨d,dx,_,rfl,e1,rfl,?_⟩;show⟨d,r,2,kv9 a,_,rfl,hd7,Le,λn H8 hn s8 g8=>?_⟩;have gk8:=s8 _ _ gk;show⟨l3,rfl,⟨_,SqL.of (s8 _ _ gl7)⟩,?_⟩;refine L2.comp_map (xs:=(qs9 a).map λx=>tx x.1) (λv=>match v with| .str s=>tx (Lx a s.cps.toList)|y=>y) (small (show 11<=1000 by decide)) (s8 _ _ gl7) (λD H9 hD s9 g9=>?_) (λD i v H9 R hD hv s9 hR=>?_)
 ·show⟨small (show 2<=1000 by decide),λT hT=>?_⟩;have t:=AI hT (.tup [.ref n, .ref D]);refine q T n D _ (((s7.trans s8).trans s9).trans t) (s7.free hn) (s7.free (s8.free hD)) ⟨AF,t _ _ (s9 _ _ g8),t _ _ g9⟩
 ·rw[List.getElem?_map]at hv;obtain⟨x,hx,rfl⟩:=Option.map_eq_some_iff.mp hv;have hm:=List.mem_of_getElem? hx;show⟨f,_,rfl,by rw[<-val x hm];exact DGet.k (k:=kyT x.1) (s9 _ _ gk8),?_⟩;have:=hR H9 (Same.refl _);rw[<-Ft hm];exact this
theorem Tn{f:Addr}{fd:FuncData}(F:Fun K "law" "law" (top 118) f fd):FnOk P w K mg base CX0 (k+12) f fd ["script"] (Ln ["script"] (spLaw K)):=Vl F (scN ["script","pool","desk","silent","rows","kept","k","way","due","row","found"]) λnd _ _ _ _ s _ _ Q E hr h=>by
 obtain⟨sa,ms,rfl,hsc,hms,q⟩:=h;have hu:=hr.units0;have hu2:=A4 hr;refine⟨_,(PSsb.pss (Ab (PSb.mk (AM 1 (AL (Gz T) hr (AA (pv 0) (AA AC AB))))) (Ab (PSb.mk (CH (i:=2) nd rfl (Or.inr rfl) (Jj (Gn T) hr T.E.c))) (Ab (PSb.mk (AM 3 (Jj (Gn T) hr T.E.c))) (Ab (PSb.mk (AM 4 (AW (AA (pxt [107,105,110,100,115,32,50]) (AA (AJ AO (pxt [114,111,119,32,97,32,40]) (AL (NG T) hr (AA (pv 1) (AA AC (AA AC AB))))) (AA (pxt [114,111,119,32,119,32,41,40]) (AA (AJ AO (pxt [114,111,119,32,102,32]) (AJ A6 (pxt [40]) AC)) (AA (pxt [114,111,119,32,101,32]) AB)))))))) (Ab (PSb.mk (AV (AS (Ba K hu) (BA (own:=["row"]) (sel:=[2]) (A2 (osc:=(AU (top 118))) (N:=["script","pool","desk","silent","rows","kept","k","way","due","row","found"]) (by decide +kernel)) rfl (B6 K (pv 4)) (λ_ _ _ _ _=>(Ah (i:=0) (show(["row","desk"]:List Str).Nodup from by decide +kernel) rfl (Or.inl rfl))) (Aq (by decide)) (λ_ _ _ _ _=>Fg (AS (Ba K hu) (AL (C8 T) hr (AA (pv 1) (AA (pv 0) AB))) (pxt [111,107]))) (λ_ _ _ _ _=>(pv 0))) (AW AB)) (AE (AK Bp)) AX)) (Ab (PSb.mk (AM 5 (AL (Eu T) hr (AA (pv 2) (AA AC AB))))) (Ab (PSb.mk (AV (AS (Ba K hu) (AH K (pv 5) AC) (AW (AA (pxt [97]) (AA (pxt [101]) (AA (pxt [102]) (AA (pxt [119]) AB)))))) (AE (AK Bp)) AX)) (Ab (PSb.mk (BI PassesOwn.never rfl (ON rfl (T.N 11) (AA AC (AA (Ag (PF rfl) rfl (T.N 9) PyProof.Rows.boot_max (AA AC (AA (Ag (IE rfl) rfl (T.N 10) PyProof.Rows.boot_min (AA AC (AA (Ar K (T.N 7) (AA (pv 0) AB)) AB))) AB))) AB))) (Af 6) (AD (AM 1 (AL (Gz T) hr (AA (pv 0) (AA (pv 6) AB)))) (AD (AM 7 (AL (As T) hr (AA (pv 1) (AA AC AB)))) (AD (AM 8 (AH K (AW (AA (pxt [9,78,111,82,111,119]) (AA (pxt [9,78,111,78,97,109,101]) (AA (pxt [9,78,111,76,105,110,101]) (AA (pxt []) (AA (pxt []) AB)))))) (pv 7))) (AD (AV (AS (Ax K hu) (pv 7) AC) (AE (AM 9 (AL (Mh T) hr (AA (pv 1) AB)))) (AE (AV (AS (Ax K hu) (pv 7) AC) (AD (AM 9 (AL (MW T) hr (AA (pv 1) AB))) (AE (AV (AS (Ba K hu) (AL (C8 T) hr (AA (pv 3) (AA (pv 9) AB))) (pv 8)) (AE (AK Bp)) AX))) (AE (AV (AS (Ax K hu) (pv 7) AC) (AE (AM 9 (AL (MX T) hr (AA (pv 1) AB)))) (AE (BY (AL (NH T) hr (AA (pv 1) AB)) (Bu (n:=2) K rfl (Ao (Af 8) (Ao (Af 9) Bi)))))))))) (AD (AV (AS (Ba K hu) (AL (C8 T) hr (AA (pv 2) (AA (pv 9) AB))) (pv 8)) (AE (AK Bp)) AX) (AE (AV (PW.pt (Dp (AS (Ax K hu) (AL (As T) hr (AA (pv 1) (AA AC AB))) AC) (Dg (AS (Jk K hr) (AL (Eu T) hr (AA (pv 2) (AA (AL (As T) hr (AA (pv 1) (AA AC AB))) AB))) (pv 5))))) (AE (AK Bp)) AX))))))))) (Ab (PSb.mk (AV (PW.pt (BL (AS (Jk K hr) (AL (Eu T) hr (AA (pv 2) (AA AC AB))) (pv 5)) (BL (AS (Ba K hu) (AL (C8 T) hr (AA (pv 3) (AA (pxt [114,111,119,32,113,32,123,125,60,62]) AB))) (pxt [111,107])) (BX (AS (Ba K hu) (Fh T.E.cl (Gs T) hr (pv 3)) (AW (AA (pxt [113]) AB))))))) (AE (AK Bp)) AX)) (Ab (PSb.mk (Ex (i:=10) nd rfl (Or.inl rfl) (own:=["row"]) (sel:=[2]) (A2 (osc:=(AU (top 118))) (N:=["script","pool","desk","silent","rows","kept","k","way","due","row","found"]) (by decide +kernel)) rfl (B6 K (PEb.pe (Fi (Pl.con (pxt [114,111,119,32,113,32,91]) (Pl.con (pxt [98,101,104,105,110,100,32,113,32,113,32,119]) (Pl.con (pxt [115,104,111,119,32,113]) (Pl.con (pxt [100,114,111,112,32,113]) (Pl.con (pxt [114,111,119,32,113,32,123,125]) (Pl.con (pxt [110,97,109,101,115]) Pl.nil))))))))) (λ_ _ _ _ _=>(Ah (i:=0) (show(["row","desk"]:List Str).Nodup from by decide +kernel) rfl (Or.inl rfl))) (Aq (by decide)) (λ_ _ _ _ _=>A3) (λ_ _ _ _ _=>(AL (C8 T) hr (AA (pv 1) (AA (pv 0) AB)))))) (FN (PSb.mk (AK (BM (Ax K hu) (pv 10) (PEb.pe (Fi (Pl.con (pxt [111,107]) (Pl.con (pxt [111,107]) (Pl.con (pxt [91,41,40]) (Pl.con (pxt [111,107]) (Pl.con (pxt [9,78,111,76,105,110,101]) (Pl.con (pxt [97,32,101,32,102,32,119]) Pl.nil))))))))))))))))))))))),?_⟩;clear hu hu2 hr;simp only[Bz];show Hk hsc (by decide) (by decide) (λp H1 hp s1 po1=>?_);ext;intro d dx hd hdx hne;show⟨d,dx,rfl,AF,λr0 H2 hr0 f2 dk2=>⟨rfl,?_⟩⟩;have fr:∀ {G:Hp} {d dx b:Addr} {o1 o2:HO},G d=none->G dx=none->(upd (upd G dx o1) d o2) b=none->G b=none:=λh1 h2 h3=>by
  rename_i G d dx b o1 o2
  by_cases z:b=d
  ·rw[z];exact h1
  ·rw[AG z]at h3
   by_cases z2:b=dx
   ·rw[z2];exact h2
   ·rwa[AG z2]at h3
 have sm:∀ {G G':Hp} {d dx:Addr} {o1 o2:HO},G d=none->G dx=none->FB [d] (upd (upd G dx o1) d o2) G'->Same G G':=λh1 h2 f b o z=>f b o (by rw[AG (AQ z h1),AG (AQ z h2)];exact z) (by simp;exact AQ z h1);have s2:=sm hd hdx f2;have nr0:=fr hd hdx hr0;have ndp:=po1.ne hd;have nrp:=po1.ne nr0;have po2:=po1.same s2;ext;intro d2 dx2 hd2 hdx2 hne2;show⟨d2,dx2,rfl,AF,λr2 H3 hr2 f3 dk3=>⟨rfl,?_⟩⟩;have s3:=sm hd2 hdx2 f3;have nr2:=fr hd2 hdx2 hr2;have n2:d2∉[d,r0]/\r2∉[d,r0]:=by
  obtain⟨⟨_,e1⟩,e2⟩:=dk2;have z:∀b,H2 b=none->b∉[d,r0]:=λb hb z=>by
   rcases List.mem_cons.mp z with z|z
   ·rw[<-z,hb]at e1;cases e1
   ·rw[<-List.mem_singleton.mp z,hb]at e2;cases e2
  exact⟨z _ hd2,z _ nr2⟩
 have dk2:=dk2.same s3;have po3:=po2.same s3;have nd2p:=po2.ne hd2;have nr2p:=po2.ne nr2;clear fr sm hr2 f3 f2;show Ol po3 (by decide) (by decide) (by decide) (by decide) (λln H4 hln hrow po4 s4=>?_);have hl20:ln.length<=20:=by lia
 have dk4:=dk2.but s4 ndp nrp;have dk4':=dk3.but s4 nd2p nr2p;have ha:isRow 2 (40::ln)=true:=EL (by rw[List.length_cons];lia) λc hc=>by
  rcases List.mem_cons.mp hc with rfl|hc
  ·decide
  ·exact FC hrow c hc
 show Cq ?_ ?_ ?_ ?_
 ·decide
 ·decide
 ·decide
 show BD (small ?_) ?_
 ·exact Nat.le_of_ble_eq_true rfl
 show⟨small (show 5<=1000 by decide),λl1 hl1=>?_⟩;generalize e5:upd H4 l1 _=H5;obtain⟨g5,s5⟩:H5 l1=some (.lst (VO ln))/\Same H4 H5:=by subst e5;exact⟨AF,AI hl1 _⟩
 clear e5;have dk5:=dk4.same s5;have dk5':=dk4'.same s5;show⟨l1,rfl,⟨_,SqL.of g5⟩,?_⟩;have nl:l1∉[d,r0]:=λz=>by
  obtain⟨⟨_,e1⟩,e2⟩:=dk5;rcases List.mem_cons.mp z with z|z
  ·rw[<-z,g5]at e1;cases e1
  ·rw[<-List.mem_singleton.mp z,g5]at e2;cases e2
 refine CD (n:=5) (λD i ys G=>ys=[]/\Up9 aE (40::ln) H5 d r0 D i G) (λD hD=>⟨rfl,⟨r0,dk5.same (AI hD _),λ_=>rfl,λz=>absurd rfl z⟩,FB.of (AI hD _),AF⟩) (λD i ys G hD hi hy p=>⟨_,_,SqL.of (p.2.fb _ _ g5 nl),List.getElem?_eq_getElem hi⟩) (λD ys G hD hy hl p=>⟨⟨_,SqL.of (p.2.fb _ _ g5 nl),Nat.le_refl 5⟩,?_⟩) ?_
 rotate_left
 ·rintro D i ys G x G3 hD hi hy hl ⟨rfl,up⟩ ⟨rfl,hx⟩;have hx:=hx _ (SqL.of (up.fb _ _ g5 nl));obtain⟨r,dk,hr0',hrn⟩:=up.ex;ext;have:i=0\/i=1\/i=2\/i=3\/i=4:=by lia
  rcases this with rfl|rfl|rfl|rfl|rfl
  ·obtain rfl:=Option.some.inj hx;refine Ts dk (w:=[50]) (n:=2) (by with_unfolding_all rfl) rfl (by decide) (by decide) (by decide) (λr' G' hr' f dk'=>?_);show ifq (by decide) ?_;obtain⟨⟨_,e1⟩,e2⟩:=id dk5;have u:=up.kinds hr' f dk' ⟨_,e1⟩ ⟨_,e2⟩;exact DY hi u.ls hl ⟨rfl,u⟩
  ·obtain rfl:=Option.some.inj hx;have dk:Dk aE _ d r 2 ((kv9 (40::ln)).take 0):=dk;refine DP dk (nm:=[97]) (b:=40::ln) (by with_unfolding_all rfl) (by rw[List.length_append];exact Nat.le_trans (Nat.add_le_add_left hl20 7) (by decide)) (by decide) (by decide) (Nat.le_of_ble_eq_true rfl) ha (λG' f dk'=>?_);show ifq (by decide) ?_;have u:=up.row (hrn (by decide)) dk f dk' (by decide);exact DY hi u.ls hl ⟨rfl,u⟩
  ·obtain rfl:=Option.some.inj hx;have dk:Dk aE _ d r 2 ((kv9 (40::ln)).take 1):=dk;refine DP dk (nm:=[119]) (b:=rW) (by with_unfolding_all rfl) (by decide) (by decide) (by decide) (Nat.le_of_ble_eq_true rfl) (by decide) (λG' f dk'=>?_);show ifq (by decide) ?_;have u:=up.row (hrn (by decide)) dk f dk' (by decide);exact DY hi u.ls hl ⟨rfl,u⟩
  ·obtain rfl:=Option.some.inj hx;have dk:Dk aE _ d r 2 ((kv9 (40::ln)).take 2):=dk;refine DP dk (nm:=[102]) (b:=rF) (by with_unfolding_all rfl) (Nat.le_of_ble_eq_true rfl) (by decide) (by decide) (Nat.le_of_ble_eq_true rfl) (by decide) (λG' f dk'=>?_);show ifq (by decide) ?_;have u:=up.row (hrn (by decide)) dk f dk' (by decide);exact DY hi u.ls hl ⟨rfl,u⟩
  ·obtain rfl:=Option.some.inj hx;have dk:Dk aE _ d r 2 ((kv9 (40::ln)).take 3):=dk;refine DP dk (nm:=[101]) (b:=[]) (by with_unfolding_all rfl) (by decide) (by decide) (by decide) (Nat.le_of_ble_eq_true rfl) (by decide) (λG' f dk'=>?_);show ifq (by decide) ?_;have u:=up.row (hrn (by decide)) dk f dk' (by decide);exact DY hi u.ls hl ⟨rfl,u⟩
 obtain⟨rfl,up⟩:=p;obtain⟨r,dk,_,hrn⟩:=up.ex;have hrn:=hrn (by decide);have nrr:r≠r2:=λe=>by rw[e,dk5'.2]at hrn;cases hrn
 have dk:Dk aE G d r 2 (kv9 (40::ln)):=dk;have dkS:Dk aE G d2 r2 4 []:=dk5'.keep up.fb n2.1 n2.2;show⟨small (show 0<=1000 by decide),λz hz=>?_⟩;have t6:=AI hz (.lst []);refine GP (SqL.of (t6 _ _ up.ls)) (SqL.of AF) rfl rfl ?_;have dk6:=dk.same t6;have dkS6:=dkS.same t6;have sb5:=(SameBut1.fresh ((s1.trans s2).trans s3) s4 hp).trans s5;have sb6:=Same.trans (λb o z=>up.fb b o (sb5 b o z) (by simp;exact⟨AQ z (s1.free hd),AQ z (s1.free nr0)⟩)) t6;generalize upd _ z _=H6 at*
 show ifq rfl ?_;show⟨d,r,40::ln,0,rfl,dk6,ha,by decide,by decide,λT n l H7 s7 hn hl std=>?_⟩;have dk7:=dk6.same s7;have dkS7:=dkS6.same s7;have sb7:=sb6.trans s7;have a1:1<=(40::ln).length:=by simp
 have a2:(40::ln).length<=25:=by rw[List.length_cons];lia
 have hscB:=sb7.seq hsc;clear sb5 sb6 s1 s2 s3 s4 s5 t6 up dk dkS dk6 dkS6 dk4 dk4' dk5 dk5' dk2 dk3 n2 nl hp hd hdx hne nr0 ndp nrp nd2p nr2p hd2 hdx2 hne2 nr2 hz hl1 g5 hrn po1 po2 po3 po4 hn hl hln hrow hl20;generalize 40::ln=a at*
 show A0 (SqT.of std.1) (v:= .ref n) rfl ?_;show⟨small (show 4<=1000 by decide),λz4 hz4=>?_⟩;have t8:=AI hz4 (.lst [tx [97],tx [101],tx [102],tx [119]]);refine GP (SqL.of (t8 _ _ std.2.1)) (SqL.of AF) rfl rfl ?_;have dk8:=dk7.same t8;have dkS8:=dkS7.same t8;have std8:=std.same t8;have hsc8:=t8.seq hscB;generalize upd H7 z4 _=H8 at*
 clear dk7 dkS7 std hscB t8;show ifq rfl ?_;show BS (.inl hsc8) ?_;rw[List.length_map];ext;have hm:∀x:Int,2<=(if(if x<40 then x else 40)>2 then if x<40 then x else 40 else 2)/\(if(if x<40 then x else 40)>2 then if x<40 then x else 40 else 2)<=40:=λx=>by
  split
  ·split<;>lia
  ·lia
 have hm:=hm (ms.length:Int);generalize(if(if(ms.length:Int)<40 then(ms.length:Int)else 40)>2 then if(ms.length:Int)<40 then(ms.length:Int)else 40 else 2)=m at*
 refine⟨1,m,rfl,⟨by decide,by decide,by lia,by lia⟩,?_⟩;refine Ir (λi σ H'=>∃o1 o6 o7 o8 o9 o10,σ=[some (.ref sa),o1,some (.ref d),some (.ref d2),some (.ref l1),some (.ref T),o6,o7,o8,o9,o10]/\Same H8 H') ⟨_,_,_,_,_,_,rfl,Same.refl H8⟩ ?_ ?_
 ·intro i σ H9 hi z_;obtain⟨o1,o6,o7,o8,o9,o10,rfl,s9⟩:=z_;have dk9:=dk8.same s9;have dkS9:=dkS8.same s9;show Hk (s9.seq hsc8) (by lia) (by lia) (λp H10 hp s10 po=>?_);have hp8:H8 p=none:=s9.free hp;have dk10:=dk9.same s10;have dkS10:=dkS9.same s10;have sA:=s9.trans s10;have nn:d≠p/\r≠p/\d2≠p/\r2≠p:=by
   obtain⟨⟨_,e1⟩,e2⟩:=dk9;obtain⟨⟨_,e3⟩,e4⟩:=dkS9;exact⟨AQ e1 hp,AQ e2 hp,AQ e3 hp,AQ e4 hp⟩
  obtain⟨np,np',np2,np2'⟩:=nn;clear dk9 dkS9 s9 s10 hp;show Ap po (by decide) (by decide) (λw H11 w0 w1 po11 s11=>?_);have dk11:=dk10.but s11 np np';have dkS11:=dkS10.but s11 np2 np2';have sB:=SameBut1.fresh sA s11 hp8;clear dk10 dkS10 sA s11 po;show⟨small (show 5<=1000 by decide),λl5 hl5=>?_⟩;have t5:=AI hl5 (.lst [tx Dm,tx De,tx Cj,tx [],tx []]);show AN (SqL.of AF) (UJ w0 w1) ?_;have dk12:=dk11.same t5;have dkS12:=dkS11.same t5;have sC:=sB.trans t5;have po12:=po11.same t5;generalize upd H11 l5 _=H12 at*
  clear dk11 dkS11 sB t5 hl5 po11;refine Ky ?_;refine Us (λσ' G=>∃ (v:V) (du:List Nat),σ'=[some (.ref sa),some (.ref p),some (.ref d),some (.ref d2),some (.ref l1),some (.ref T),some (.int (1+(i:Int))),some (.int w),some (tx du),some v,o10]/\Po G p/\Same H8 G/\VL K cs aE d G v du) ?_ (λrest=>?_)
  rotate_left
  ·show ifd (λh0=>?_) (λh0=>?_)
   ·show⟨p,rfl,po12,λv G po s hno=>?_⟩;exact rest _ _ ⟨v,_,rfl,po,SameBut1.fresh sC s hp8,λQ E q=>no9 (dk12.but s np np') hno (by rw[h0]at q;exact q)⟩
   show ifd (λh1=>?_) (λh1=>?_)
   ·show⟨p,rfl,po12,λl G po s hb=>?_⟩;show K9 (dkS12.but s np2 np2') (Km hb rfl rfl) λG2 s2=>?_;show ifq (by rw[h1];decide) ?_;exact rest _ _ ⟨tx l,_,rfl,po.same s2,(SameBut1.fresh sC s hp8).trans s2,λQ E q=>K9 ((dk12.but s np np').same s2) (Km hb rfl rfl) (by rw[h1]at q;exact q)⟩
   show ifd (λh2=>?_) (λh2=>?_)
   ·show⟨p,rfl,po12,λl G po s hb=>?_⟩;exact rest _ _ ⟨tx l,_,rfl,po,SameBut1.fresh sC s hp8,λQ E q=>VC (dk12.but s np np') ha a1 hb (by rw[h2]at q;exact q)⟩
   ·show⟨p,rfl,po12,λT2 du l G po s hT hb=>?_⟩;show⟨T2,_,rfl,SqT.of hT,rfl,?_⟩;walk_at"s";walk_at"s";walk_at"s";walk_at"s";walk_at"s";exact rest _ _ ⟨tx l,du,rfl,po,SameBut1.fresh sC s hp8,λQ E q=>VG (dk12.but s np np') ha a2 hb q⟩
  intro σ' G z_;obtain⟨v,du,rfl,po,sG,told⟩:=z_
  dsimp only
  have dk:=dk8.same sG;have std:=std8.same sG;clear dk12 dkS12 sC po12;show told _ _ λG2 s2=>?_;have dk:=dk.same s2;have std:=std.same s2;have po:=po.same s2;have sG:=sG.trans s2;show ifq (by simp) ?_;show Ap po (by decide) (by decide) (λw2 G3 _ _ po3 s3=>?_);have dk:=dk.but s3 np np';have sG:=SameBut1.fresh sG s3 hp8;have std:=std8.same sG;show Gc (λh=>?_) (λh=>?_)
  rotate_left
  ·refine ifq rfl ?_;ext;exact⟨_,_,_,_,_,_,rfl,sG⟩
  show Ap po3 (by decide) (by decide) (λw3 G4 w30 w31 po4 s4=>?_);have dk:=dk.but s4 np np';have sG:=SameBut1.fresh sG s4 hp8;have std:=std8.same sG;show⟨d,r,a,w3,rfl,dk,ha,w30,w31,λT' n' l' G5 s5 hn' hl' std'=>?_⟩;show std'.ne (std.same s5) (AQ std.2.1 hn').symm (AQ std.2.2 hl').symm ?_;ext;exact⟨_,_,_,_,_,_,rfl,sG.trans s5⟩
 intro σ H9 z_;obtain⟨o1,o6,o7,o8,o9,o10,rfl,s9⟩:=z_;have dk9:=dk8.same s9;have dkS9:=dkS8.same s9;have std9:=std8.same s9;clear dk8 dkS8 std8 hsc8 s9 hsc hms hm;show⟨d,r,a,1,rfl,dk9,ha,by decide,by decide,λT' n' l' G5 s5 hn' hl' std'=>?_⟩;have dk5:=dk9.same s5;have dkS5:=dkS9.same s5;show std'.ne (std9.same s5) (AQ std9.2.1 hn').symm (AQ std9.2.2 hl').symm ?_;show ifq rfl ?_;show DP dkS5 (nm:=[113]) (b:=[123,125,60,62]) (by with_unfolding_all rfl) (by decide) (by decide) (by decide) (by decide) (by decide) (λG6 f6 dkS6=>?_);have dk6:=dk5.keep f6 (λz=>by
  obtain⟨⟨_,e1⟩,_⟩:=dk5;rw[List.mem_singleton.mp z,dkS5.2]at e1;cases e1) (by simpa using nrr)
 clear std' hn' hl' std9 dk9 dkS9 dk5 dkS5 f6;show ifq (by decide) ?_;obtain⟨⟨dx,e1⟩,_⟩:=id dkS6;show⟨d2,dx,_,rfl,e1,rfl,?_⟩;show⟨d2,r2,4,_,_,rfl,dkS6,VQ,λl7 G7 hl7 s7 g7=>?_⟩;have dk7:=dk6.same s7;clear dkS6 e1 dk6;show⟨small (show 1<=1000 by decide),λz8 hz8=>?_⟩;have t8:=AI hz8 (.lst [tx [113]]);refine GP (SqL.of (t8 _ _ g7)) (SqL.of AF) rfl rfl ?_;have dk8:=dk7.same t8;generalize upd _ z8 _=G8 at*
 clear t8 s7 dk7 g7;show ifq rfl ?_;show⟨small (show 6<=1000 by decide),λl9 hl9=>?_⟩;generalize e9:upd _ l9 _=G9;obtain⟨g9,dk9⟩:G9 l9=some (.lst Gg)/\Dk aE G9 d r 2 (kv9 a):=by subst e9;exact⟨AF,dk8.same (AI hl9 _)⟩
 clear e9 dk8;show⟨l9,rfl,⟨_,SqL.of g9⟩,?_⟩;refine CD (n:=6) (λD i ys G=>ys=(res9.take i).map tx/\Dk aE G d r 2 (kvE a i)/\G l9=some (.lst Gg)) (λD hD=>⟨rfl,dk9.same (AI hD _),AI hD _ _ _ g9⟩) (λD i ys G hD hi hy p=>⟨_,_,SqL.of p.2.2,List.getElem?_eq_getElem hi⟩) (λD ys G hD hy hl p=>⟨⟨_,SqL.of p.2.2,Nat.le_refl 6⟩,?_⟩) ?_
 ·obtain⟨rfl,_,_⟩:=p;show⟨small (show 6<=1000 by decide),λz6 hz6=>?_⟩;refine Ux (SqL.of (AI hz6 _ _ _ hy)) (SqL.of AF) rfl rfl ?_;exact q _
 rintro D i ys G x G3 hD hi hy hl ⟨rfl,dk,h9⟩ ⟨rfl,hx⟩;have hx:=hx _ (SqL.of h9);obtain⟨⟨dx,e1⟩,e2⟩:=id dk;have nDd:D≠d:=λz=>by rw[<-z,hy]at e1;cases e1
 have nDr:D≠r:=λz=>by rw[<-z,hy]at e2;cases e2
 have nlr:l9≠r:=λz=>by rw[<-z,h9]at e2;cases e2
 have nlD:l9≠D:=λz=>by rw[z]at g9;rw[hD]at g9;cases g9
 have fin:∀ {G'} (t:List Nat),FB [r] G3 G'->Dk aE G' d r 2 (kvE a (i+1))->(res9.take i).map tx++[tx t]=(res9.take (i+1)).map tx->∃ys,G' D=some (.lst ys)/\ys.length<sizeLine/\∃m',m'<6-i/\CW D 6 (λi ys G=>ys=(res9.take i).map tx/\Dk aE G d r 2 (kvE a i)/\G l9=some (.lst Gg)) (i+1) m' (upd G' D (.lst (ys++[tx t]))):=λt f dk' e=>by
  obtain⟨⟨dx,e1⟩,e2⟩:=dk';exact CA hi (small (show 6<=1000 by decide)) (f _ _ hy (by simpa using nDr)) hl ⟨e,⟨⟨dx,by rw[AG nDd.symm];exact e1⟩,by rw[AG nDr.symm];exact e2⟩,by rw[AG nlD];exact f _ _ h9 (by simpa using nlr)⟩
 show ifp rfl ?_;ext;have:i=0\/i=1\/i=2\/i=3\/i=4\/i=5:=by lia
 rcases this with rfl|rfl|rfl|rfl|rfl|rfl
 ·obtain rfl:tx [114,111,119,32,113,32,91]=x:=Option.some.inj hx;refine DP dk (nm:=[113]) (b:=[91]) (by with_unfolding_all rfl) (by decide) (by decide) (by decide) (Nat.le_of_ble_eq_true rfl) (by decide) (λG' f dk'=>?_);exact fin _ f dk' rfl
 ·obtain rfl:tx [98,101,104,105,110,100,32,113,32,113,32,119]=x:=Option.some.inj hx;refine Vn dk (nm:=[113]) (x:=[113]) (y:=[119]) (u:=[91]) (v:=rW) (by with_unfolding_all rfl) (by decide) (by decide) (by decide) (Nat.le_of_ble_eq_true rfl) rfl rfl (by decide) (by decide) (by decide) (λG' f dk'=>?_);exact fin _ f dk' rfl
 ·obtain rfl:tx [115,104,111,119,32,113]=x:=Option.some.inj hx;refine US dk (x:=[113]) (u:=[91,41,40]) (by with_unfolding_all rfl) (by decide) rfl (by decide) ⟨by decide,by decide,by decide⟩ (λG' s'=>?_);exact fin _ (FB.of s') (dk.same s') rfl
 ·obtain rfl:tx [100,114,111,112,32,113]=x:=Option.some.inj hx;refine VI dk (x:=[113]) (by with_unfolding_all rfl) (by decide) rfl (λG' f dk'=>?_);exact fin _ f dk' rfl
 ·obtain rfl:tx [114,111,119,32,113,32,123,125]=x:=Option.some.inj hx;refine S8 dk (nm:=[113]) (b:=[123,125]) (by with_unfolding_all rfl) (by decide) (by decide) (by decide) (Nat.le_of_ble_eq_true rfl) (by decide) (by decide) (λG' s'=>?_);exact fin _ (FB.of s') (dk.same s') rfl
 ·obtain rfl:tx [110,97,109,101,115]=x:=Option.some.inj hx;refine Lw (a:=a) dk ha (List.mem_cons_self) (λG' s'=>?_);exact fin _ (FB.of s') (dk.same s') rfl
end
theorem fin{l:W.OpenLaw}{w:World}{K:W.Frag}{mg:Str->Option Value}{fa aK x0 x1 x2 x3 x4 x5 x6 x7 x8 x9 x10 x11 aC aE aF aD:Addr}(hfa:mg "law"=some (.ref fa))(T:Txt l.prog w K mg aK ⟨x0,x1,x2,x3,x4,x5,x6,x7,x8,x9,x10,x11⟩ aC aE aF aD):∃fd:FuncData,(∀ (s:Shared) (v:Value),BindsTo s fd ⟨[v],[]⟩ [("script",v)])/\∀base:Heap,K.In base->base.Ns mainGlobals mg->FnOk l.prog w K mg base CX0 12 fa fd ["script"] (spLaw K):=
 let⟨fd,a,b⟩:=Tr (T.f.at 70) hfa (λ_ _ _ _ _ _ _ _=> .of_eq rfl) λ_ _ _ F=>Tn (k:=0) T F
 ⟨fd,a,λbase x y=>(b base x y).imp λvs H Q E h=>⟨by obtain⟨a,ns,rfl,_⟩:=h;rfl,h⟩⟩
theorem walk{l:W.OpenLaw}{q:Program}{loose:List Str}{XP:(Str->Option Value)->Heap->Prop}{YP:World->Heap->Prop}{d:DefRec}{K:Params->W.Frag}(hn:l.most=some 63)(hdf:d.params.defaults=[])
 (hY:∀ (w:World) (h:Heap),YP w h->(K w.params).In h)
 (F:∀ (w:World) (mg:Str->Option Value) (fa:Addr) (h:Heap),(K w.params).In h->h.Ns mainGlobals mg->mg d.name=some (.ref fa)->
   ∃fd:FuncData,(∀ (s:Shared) (u:Value),BindsTo s fd ⟨[u],[]⟩ [("script",u)])/\∀base:Heap,(K w.params).In base->base.Ns mainGlobals mg->FnOk l.prog w (K w.params) mg base CX0 12 fa fd ["script"] (spLaw (K w.params))):
 W.WalkO q loose XP YP l.row.toRowW d [] (λf vs=>PySem.call f vs):=
 L2.walk_of (n:=63) (k:=12) (x:="script") (CX:=λ_=>CX0) (sp:=λw=>spLaw (K w.params)) hn (by decide) hdf ⟨rfl,by decide,by decide,rfl⟩ hY F (λ_ _ a ns hl _ hS=>⟨a,ns,rfl,hS,hl,λ_=>rfl⟩) λ_ _ _ _ _ z=>z
end Bk
namespace PySem.W.Fast
def tw3323442913199759563:=0
def tw18340809653890666478:=0
def tw9086136551134803743:=0
def tw12530799031958394865:=0
def tw8379843341316628627:=0
def tw4695385834420047006:=0
def tw8530990010151379371:=0
def tw17769988732083832145:=0
def tw9807791564879074633:=0
def tw14625598996121014731:=0
def tw5192921464935688072:=0
def tw9646994294843728574:=0
def tw14347764955563727865:=0
def tw12139179774289631691:=0
def tw15907470378120006835:=0
def tw7590465307360028537:=0
def tw1808071985610183294:=0
def tw10498445199372280128:=0
def tw14201565152516678906:=0
def tw12730361130381622835:=0
def tw18282019774670615820:=0
def tw12903759036521652904:=0
def tw17419020965650364544:=0
def tw5782129462763819565:=0
def tw5093237617353695326:=0
def tw10077188982577244639:=0
def tw17800748501719200186:=0
def tw11971173426501138036:=0
def tw7785121833045564085:=0
def tw2964637602813482125:=0
def tw7784902740817155245:=0
def tw4576502710776576930:=0
def tw16131963311733280757:=0
def tw18058600674272381809:=0
def tw17384335180039301444:=0
def tw14980919791760408662:=0
def tw13374838579590794400:=0
def tw15169907130920659568:=0
def tw10327210266129452816:=0
def tw3407172923033439808:=0
def tw4456330576169914499:=0
def tw8727234198567761109:=0
def tw13118468422751029694:=0
def tw10979174950150697563:=0
def tw12321951403076223680:=0
def tw14097821893007874201:=0
def tw2049873143162220178:=0
def tw13064985389111341206:=0
def tw365303418277153413:=0
def tw11422619443757899382:=0
def tw5818620054829043879:=0
def tw3349911368639879289:=0
def tw12175965723723593426:=0
def tw3982477927004437251:=0
def tw15139160592402497701:=0
def tw857878879568087261:=0
def tw478063747720943386:=0
def tw14727549953032018176:=0
def tw13982436599892066922:=0
def tw10473578000923118418:=0
def tw7327719904128431619:=0
def tw11151142290210184509:=0
def tw12198893175583385000:=0
def tw1447687866608349894:=0
def tw10281349884960766124:=0
def tw3827687577904494857:=0
def tw11093292231058333886:=0
def tw8150777847742339693:=0
def tw11235265581494687372:=0
def tw1526979787869653287:=0
def tw12701535541224891016:=0
def tw10506945391365222243:=0
def tw13919651511593969897:=0
def tw15537670146452013426:=0
def tw6581228682092120842:=0
def tw17767038549208370666:=0
def tw3545186244517410996:=0
def tw17329687788929597782:=0
def tw9465617278690037527:=0
def tw13955198237703360654:=0
def tw13109040891750400340:=0
def tw6171369377243275371:=0
def tw11490475090301871669:=0
def tw14642277265314323695:=0
def tw7337377165189018913:=0
def tw10634442606474603150:=0
def tw520803797628911070:=0
def tw324816614174997123:=0
def tw10866258853191758996:=0
def tw7497235978674918427:=0
def tw18306822365622736194:=0
def tw10220444686034247632:=0
def tw1470457833506298385:=0
def tw4291686052273317556:=0
def tw7868028269941342050:=0
def tw9365336659458230735:=0
def tw5216569127281440772:=0
def tw6389563016361887125:=0
def tw12031771073268251752:=0
def tw17352634896967026435:=0
def tw22919303479723880:=0
def tw7939864164692486710:=0
def tw9388589544603729549:=0
def tw7009237537475077121:=0
def tw10213578294861965999:=0
def tw4363707612701248927:=0
def tw4275409279243554465:=0
def tw4430172512954536378:=0
def tw5676661095316827441:=0
def tw2817830111208371704:=0
def tw7248583942728392561:=0
def tw10652485504271563890:=0
def tw656928013044456445:=0
def tw10829583349064102316:=0
def tw18038559247475228968:=0
def tw4041005023560142707:=0
def tw13359668503775851191:=0
def tw12804861374472639048:=0
def tw12370765723447852044:=0
def tw11484744494899154196:=0
def tw6358341661162678796:=0
def tw15864548246690448670:=0
def tw649314433237710811:=0
def tw5863219331219054024:=0
def tw9935092699436448749:=0
def tw8994222836688481646:=0
def tw6145907286807675454:=0
def tw17806672946256050163:=0
def tw3203140573755989364:=0
def tw3910354041177705882:=0
def tw6392108622336691377:=0
def tw1019094047580625849:=0
def tw18278344314126151279:=0
def tw9197255957580414318:=0
def tw7610034218638601792:=0
def tw2633675513052417195:=0
def tw4552746011902221647:=0
def tw9407216961454289921:=0
def tw5413385734314646894:=0
def tw6889242287989935932:=0
def tw12812282607600620364:=0
def tw15837034580457659893:=0
def tw4020874637617862277:=0
def tw17731221149093963682:=0
def tw16915855165703645604:=0
def tw2917550059019873708:=0
def tw8811755136495684555:=0
def tw6255289690120199553:=0
def tw11414985545578437681:=0
def tw9332916497603740045:=0
def tw700496648062841341:=0
def tw3993774729337081484:=0
def tw10433743892390381572:=0
def tw10095592547899608693:=0
def tw18132556072929207482:=0
def tw9558499501484006122:=0
def tw5012773674571451290:=0
def tw15227839055856903206:=0
def tw8318307678423469399:=0
def tw17742534423210676689:=0
def tw6337386724564887669:=0
def tw8912402452380389504:=0
def tw7271211226739745259:=0
def tw13357052089017876935:=0
def tw11390510394415292123:=0
def tw4955873397710962378:=0
def tw6530896415150516178:=0
def tw7427395851974924916:=0
def tw3841268546968216398:=0
def tw5290659009019108470:=0
def tw8369482480161181923:=0
def tw3343925932459410046:=0
def tw13051850809145149524:=0
def tw1658194385907968441:=0
def tw18270012774414598181:=0
def tw2328091404796962814:=0
def tw13235246567160233026:=0
def tw15130596137915571055:=0
def tw6237365529345458670:=0
def tw10975222607317923943:=0
def tw15549867939724772136:=0
def tw17440785093090667860:=0
def tw9274664715811241507:=0
def tw6194079942609799754:=0
def tw9450164325501250443:=0
def tw11309981422572133215:=0
def tw2864419286190372517:=0
def tw14887322834370076345:=0
def tw10954676826138146336:=0
def tw7286112323914735408:=0
def tw3379758912173435330:=0
def tw14375402408366838675:=0
def tw6649649982488350966:=0
def tw17085753864959630224:=0
def tw17022954314673326192:=0
end PySem.W.Fast
end
open PySem PySem.W PyProof.Rows
set_option maxRecDepth 100000 in
set_option maxHeartbeats 0 in
theorem PySem.Challenge.cw_bracketrows_k49_refused_in_order_holds : PySem.Challenge.rw_bracketrows_k49_refused_in_order.Holds := by
  w_on; o_law; k_head; (case hw => w_witness2)
  k_fill
  refine Bk.walk (l := PySem.Challenge.rw_bracketrows_k49_refused_in_order) rfl rfl (fun w h Y => PySem.W.kIn_of Y) ?F
  case F =>
    intro w mg fa h KX G hmg
    refine' Bk.fin hmg ⟨L2.fnA KX G ?f, ?m, L2.nbA KX G ?n, L2.glA KX G ?g, L2.clA KX G ?c, ?k, ?F, ?D, L2.ownA KX G ?y ?z, L2.ownA KX G ?Y ?Z, ?t⟩
    (case y | Y => k_is)
    (case f => (repeat (apply L2.AllP.fn; k_is; k_is; k_is; k_is)); trivial)
    (case m => (repeat (apply L2.AllP.mt; k_is; k_is; k_is; k_is; k_is)); trivial)
    (case c => (repeat (apply L2.AllP.cl; k_is; kernel_rfl)); trivial)
    (case g => (repeat (first | (apply L2.AllP.tx; k_is; (first | rfl | decide +kernel)) | (apply L2.AllP.int; k_is; rfl) | (apply L2.AllP.ref; k_is))); trivial)
    (case n | z | Z | t => kernel_rfl)
    (case k => (apply L2.FTu.mk; k_is; rfl; rfl; decide +kernel; decide))
    (case F => (apply BrS.fm_mk8; k_is; exact ⟨rfl, rfl, rfl⟩; rfl; (first | rfl | decide +kernel); (first | rfl | decide +kernel); all_goals (apply L2.FTu.mk; k_is; rfl; rfl; decide +kernel; decide)))
    (case D => (apply BrS.dd_mk8; k_is; exact ⟨rfl, rfl, rfl⟩; rfl; (first | rfl | decide +kernel); (first | rfl | decide +kernel); all_goals (apply PySem.W.mg_of KX G; k_is)))
